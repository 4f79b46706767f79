
/- For every script the costs and sizes of Run keep their bounds (WorkloadBounds). -/
import Derived.Test.YtpabapjodcafkaaYW
namespace Go.Proofs.Ytpabapjodcafkaa
open Go.RowKit Go.Lib

theorem ins_succ {os : List Wo} {k : Nat} (h : k < os.length) : (runW os (k + 1)).ins = if os[k].p = true then (runW os k).ins else (runW os k).ins + 1 := by rw [runW_succ h]; rfl
set_option maxRecDepth 100000 in
set_option maxHeartbeats 8000000 in
theorem Bounds_any (la : Option Addr) (lc : Nat) (os : List Wo) (w : World) (ho : Row LW w la os) :
    Calls Try.prog 3 #[.slice la os.length lc] w fun e w' => e = .returned (.bool true) ∧ Upd [] w w' := by
  have HHD := Lib.hid head_true
  obtain ⟨n, hn⟩ : ∃ n, n = os.length := ⟨_, rfl⟩
  by_cases hl : n ≤ 200
  · have hlz : ¬ (200 : Int) < (n : Int) := by omega
    have hL : n = (os.map opW).length := by rw [List.length_map]; exact hn
    have HOP := Lib.hid (fun W (hu : Upd [] w W) => ops_call (lc := lc) (ho.stay hu) (by omega) hn)
    have HRU := Lib.hid (fun a c W (h : Row LW W a (os.map opW)) => run_call (lc := c) h (by omega) (ops_bd os) hL)
    have HOK := Lib.hid (okW (os.map opW) (ops_bd os))
    have HSI : Hid (∀ k (h : k < (os.map opW).length), (runW (os.map opW) (k + 1)).ins = if (os.map opW)[k].p = true then (runW (os.map opW) k).ins else (runW (os.map opW) k).ins + 1) := fun k h => ins_succ h
    have HI0 : Hid ((runW (os.map opW) 0).ins = 0) := rfl
    rw [← hn]
    generalize os.map opW = L at *
    generalize runW L = R at *
    unfold RanO at HRU
    have HL := Lib.hid hL
    clear hn hL ho
    go_enter Try.func3, Try.ntmps3
    go_upto_region 2 with (go_at_call 7; (with_reducible refine (HHD.out _).mono ?_); rintro e w1 ⟨rfl, hu1⟩)
    have HU1 := Lib.hid hu1
    clear hu1 HHD
    go_upto_region 5 with (go_at_call 8; (with_reducible refine (HOP.out _ HU1.out).mono ?_); rintro e w2 ⟨a, c, rfl, hr, hu⟩)
    have HR2 := Lib.hid hr; have HU2 := Lib.hid (HU1.out.thn hu)
    clear hr hu HU1 HOP
    obtain ⟨s, hs⟩ : ∃ s, s = R n := ⟨_, rfl⟩
    rw [← hs] at HRU
    have HS := Lib.hid hs
    have hok := HOK.out n
    rw [← hs] at hok
    clear hs
    have f1 := hok.reach.mv0; have f2 := hok.reach.mv; have f3 := hok.reach.cp0; have f4 := hok.reach.cp; have f5 := hok.dep; have f6 := hok.mx; have f7 := hok.mx0; have f8 := hok.ik; have f9 := hok.cnt
    obtain ⟨I, hIs⟩ : ∃ I, I = s.ins := ⟨_, rfl⟩
    have HIS : Hid (s.ins = I) := hIs.symm
    rw [← hIs] at f1 f2 f3 f4 f6 f7 f8 HRU
    clear hIs
    generalize s.l.mv = mv at *
    generalize s.l.cp = cp at *
    generalize s.dep = dep at *
    generalize s.mx = mx at *
    generalize s.out = out at *
    generalize out.length = m at *
    clear hok f9
    go_upto_region 6 with (go_at_call 9; (with_reducible refine (HRU.out a c w2 HR2.out).mono ?_); rintro e w3 ⟨oa, oc, rfl, hh, hu⟩; simp only)
    have hal := (Upd.refl [] w3).alloc (.cells #[.int .i64 (I : Nat), .int .i64 (m : Nat), .int .i64 mv, .int .i64 cp, .int .i64 (dep : Nat), .int .i64 (mx : Nat)] 27)
    have b3 := heap_alloc1 w3 (.cells #[.int .i64 (I : Nat), .int .i64 (m : Nat), .int .i64 mv, .int .i64 cp, .int .i64 (dep : Nat), .int .i64 (mx : Nat)] 27)
    generalize w3.alloc (.cells #[.int .i64 (I : Nat), .int .i64 (m : Nat), .int .i64 mv, .int .i64 cp, .int .i64 (dep : Nat), .int .i64 (mx : Nat)] 27) = W3 at *
    generalize w3.heap.size = P3 at *
    have HR3 := Lib.hid (HR2.out.stay (hu.thn hal)); have HU3 := Lib.hid (HU2.out.thn (hu.thn hal)); have HB3 := Lib.hid b3
    clear hh hu hal HR2 HU2 HRU b3
    go_wp2_with fail
    go_loopg [7, 8] n (fun gk v7 v8 wr => ∃ k : Nat, v7 = .int .i64 ((R k).ins : Nat) ∧ v8 = .int .i64 k ∧ k + gk = n ∧ Hid (Upd [] W3 wr))
    case atStart => exact ⟨0, by rw [HI0.out]; rfl, rfl, by omega, Upd.refl [] W3⟩
    case round =>
      obtain ⟨k, rfl, rfl, hkg, HUR⟩ := hrel
      by_cases hlt : k < n
      · have hltz : (k : Int) < (n : Int) := by omega
        have hk1 : k < L.length := by have := HL.out; omega
        obtain ⟨b, off, hb, x0, x1⟩ := (HR3.out.stay HUR.out).work k hk1
        have HSK := Lib.hid (HSI.out k hk1)
        obtain ⟨⟨p, t⟩, hx⟩ : ∃ x, x = L[k]'hk1 := ⟨_, rfl⟩
        rw [← hx] at x0 x1 HSK
        simp only at x0 x1 HSK
        subst hb
        have hik := (HOK.out k).ik
        clear hx hk1
        obtain ⟨i, hi⟩ : ∃ i, i = (R k).ins := ⟨_, rfl⟩
        rw [← hi] at HSK hik ⊢
        clear hi
        have hwk : IntKind.i64.wrap ((k : Int) + 1) = (k : Int) + 1 := by rw [IntKind.wrap_i64]; omega
        have hwi : IntKind.i64.wrap ((i : Int) + 1) = (i : Int) + 1 := by rw [IntKind.wrap_i64]; omega
        cases p with
        | false =>
          have HSF : Hid ((R (k + 1)).ins = i + 1) := HSK.out
          go_wp2_with fail
          go_roundg (n - (k + 1))
          case measure => omega
          case rel => exact ⟨k + 1, by rw [HSF.out]; go_num, by go_num, by omega, HUR⟩
        | true =>
          have HSF : Hid ((R (k + 1)).ins = i) := HSK.out
          go_wp2_with fail
          go_roundg (n - (k + 1))
          case measure => omega
          case rel => exact ⟨k + 1, by rw [HSF.out], by go_num, by omega, HUR⟩
      · have hltz : ¬ (k : Int) < (n : Int) := by omega
        obtain rfl : k = n := by omega
        rw [← HS.out]
        rw [HIS.out]
        go_upto_region 12 with (fail)
        obtain ⟨c0, c1, c2, c3, c4, c5⟩ := cells6 (HUR.out.at HB3.out (by simp))
        have HMB : Hid (∀ W, Calls Try.prog 10 #[.int .i64 (I : Nat)] W fun e w' => e = .returned (.int .i64 (6 * (I : Int))) ∧ Upd [] W w') := fun W => (PMoveBound_has I W (by omega)).mono (fun e w' h => ⟨h.1, by rw [h.2]; exact Upd.refl [] _⟩)
        have HCB : Hid (∀ W, Calls Try.prog 11 #[.int .i64 (I : Nat)] W fun e w' => e = .returned (.int .i64 (5 * (I : Int))) ∧ Upd [] W w') := fun W => (PCompareBound_has I W (by omega)).mono (fun e w' h => ⟨h.1, by rw [h.2]; exact Upd.refl [] _⟩)
        have HFU := Lib.hid (HU3.out.thn HUR.out)
        have hw6 : IntKind.i64.wrap (6 * (I : Int)) = 6 * (I : Int) := by rw [IntKind.wrap_i64]; omega
        have hw5 : IntKind.i64.wrap (5 * (I : Int)) = 5 * (I : Int) := by rw [IntKind.wrap_i64]; omega
        have e1 : decide ((I : Int) ≤ mv) = true := decide_eq_true f1
        have e2 : decide (mv ≤ 6 * (I : Int)) = true := decide_eq_true f2
        have e3 : decide ((I : Int) ≤ cp) = true := decide_eq_true f3
        have e4 : decide (cp ≤ 5 * (I : Int)) = true := decide_eq_true f4
        have e5 : decide ((0 : Int) ≤ (dep : Int)) = true := decide_eq_true (by omega)
        have e6 : decide ((dep : Int) ≤ 4) = true := decide_eq_true (by omega)
        have e7 : decide (mx ≤ I) = true := decide_eq_true f6
        have k0 := kept_at c0; have k1 := kept_at c1; have k2 := kept_at c2; have k3 := kept_at c3; have k4 := kept_at c4; have k5 := kept_at c5
        clear c0 c1 c2 c3 c4 c5 f1 f2 f3 f4 f5 f6 HOK HSI HI0 HL HR3 HU3 HB3 HUR hltz hlt hkg
        by_cases hz : I = 0
        · have e8 : ((I : Int) == 0) = true := by simp; omega
          have e8b : decide (I = 0) = true := decide_eq_true hz
          have e8d : decide ((I : Int) = 0) = true := decide_eq_true (by omega)
          clear f7 hz f8
          refine wp_region_quiet_kept mixed (by kernel_rfl) ?_
          simp only [List.append_eq, List.cons_append, List.nil_append]
          repeat (go_big_quiet_step (first | (go_at_call 10; exact calls_kept (HMB.out _)) | (go_at_call 11; exact calls_kept (HCB.out _))))
          refine wpQuiet_nil ?_
          intro W4 hw'
          obtain ⟨⟨Wx, hu⟩, hw''⟩ := hw'
          simp only at hw''
          subst hw''
          have HU4 := Lib.hid (HFU.out.thn hu)
          clear k0 k1 k2 k3 k4 k5 hu
          go_wp2_with fail
          go_ret
          exact ⟨rfl, HU4.out⟩
        · have e8 : ((I : Int) == 0) = false := by simp; omega
          have e8b : decide (I = 0) = false := decide_eq_false hz
          have e8d : decide ((I : Int) = 0) = false := decide_eq_false (by omega)
          have e9 : decide ((0 : Int) < (mx : Int)) = true := decide_eq_true (by omega)
          have e10 : decide (0 < mx) = true := decide_eq_true (by omega)
          clear f7 f8
          refine wp_region_quiet_kept mixed (by kernel_rfl) ?_
          simp only [List.append_eq, List.cons_append, List.nil_append]
          repeat (go_big_quiet_step (first | (go_at_call 10; exact calls_kept (HMB.out _)) | (go_at_call 11; exact calls_kept (HCB.out _))))
          refine wpQuiet_nil ?_
          intro W4 hw'
          obtain ⟨⟨Wx, hu⟩, hw''⟩ := hw'
          simp only at hw''
          subst hw''
          have HU4 := Lib.hid (HFU.out.thn hu)
          clear k0 k1 k2 k3 k4 k5 hu
          go_wp2_with fail
          go_ret
          exact ⟨rfl, HU4.out⟩
  · have hlz : (200 : Int) < (n : Int) := by omega
    rw [← hn]
    clear hn ho
    go_enter Try.func3, Try.ntmps3
    go_upto_region 2 with (go_at_call 7; (with_reducible refine (HHD.out _).mono ?_); rintro e w1 ⟨rfl, hu1⟩)
    have HU1 := Lib.hid hu1
    clear hu1 HHD
    go_wp2_with fail
    go_ret
    exact ⟨rfl, HU1.out⟩
end Go.Proofs.Ytpabapjodcafkaa
