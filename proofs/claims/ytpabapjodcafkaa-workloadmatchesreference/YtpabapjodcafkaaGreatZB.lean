
/- For every script and number the program's functions give what the reference's give (WorkloadMatchesReference). -/
import Derived.Test.YtpabapjodcafkaaGreatYW
import Derived.Test.YtpabapjodcafkaaGreatYE
import Derived.Test.YtpabapjodcafkaaGreatRS
namespace Go.Proofs.YtpabapjodcafkaaGreat
open Go.RowKit Go.Lib

theorem RMoveBound_has (n : Nat) (w : World) (h : n ≤ 1000000) : Calls Tryz.prog 12 #[.int .i64 (n : Nat)] w fun e w' => e = .returned (.int .i64 (6 * (n : Int))) ∧ w = w' := by
  have hw : IntKind.i64.wrap (6 * (n : Int)) = 6 * (n : Int) := by rw [IntKind.wrap_i64]; omega
  go_enter Tryz.func12, Tryz.ntmps12
  go_wp2_with fail
  go_ret
  exact ⟨rfl, rfl⟩
theorem RCompareBound_has (n : Nat) (w : World) (h : n ≤ 1000000) : Calls Tryz.prog 14 #[.int .i64 (n : Nat)] w fun e w' => e = .returned (.int .i64 (5 * (n : Int))) ∧ w = w' := by
  have hw : IntKind.i64.wrap (5 * (n : Int)) = 5 * (n : Int) := by rw [IntKind.wrap_i64]; omega
  go_enter Tryz.func14, Tryz.ntmps14
  go_wp2_with fail
  go_ret
  exact ⟨rfl, rfl⟩
theorem rrun_call {la : Option Addr} {lc n : Nat} {os : List Wo} {w : World} (ho : Row LW w la os) (hl : os.length ≤ 1000) (hb : ∀ o ∈ os, 0 ≤ o.t ∧ o.t ≤ MaxT) (hn : n = os.length) : Calls Tryz.prog 7 #[.slice la n lc] w (RanO w (runW os n)) := by
  subst hn
  refine (RRun_has la lc os w ho hl hb).mono ?_
  rintro e w' ⟨oa, oc, rfl, h1, _, h2⟩
  exact ⟨oa, oc, rfl, h1, h2⟩
theorem rsorted_call {la : Option Addr} {lc n : Nat} {os : List Wo} {w : World} (ho : Row LW w la os) (hl : os.length ≤ 1000) (hb : ∀ o ∈ os, 0 ≤ o.t ∧ o.t ≤ MaxT) (hn : n = os.length) : Calls Tryz.prog 10 #[.slice la n lc] w (SorO w (runW os n).out) := by
  subst hn
  refine (RSorted_has la lc os w ho (by omega)).mono ?_
  rintro e w' ⟨s', rfl, h⟩
  have h1 := h.has
  have h2 := h.eq
  have h3 := (relQ hb os.length).out
  rw [h3] at h2
  obtain ⟨l, ad, cap⟩ := s'
  simp only at h2
  subst h2
  exact ⟨ad, cap, rfl, h1, h.upd⟩
set_option maxRecDepth 100000 in
set_option maxHeartbeats 8000000 in
theorem WMatches_any (la : Option Addr) (lc : Nat) (os : List Wo) (b : Nat) (w : World) (ho : Row LW w la os) (hb : b < 65536) :
    Calls Tryz.prog 3 #[.slice la os.length lc, .int .u16 (b : Nat)] w fun e w' => e = .returned (.bool true) ∧ Upd [] w w' := by
  have HHD := Lib.hid head_true
  obtain ⟨n, hn⟩ : ∃ n, n = os.length := ⟨_, rfl⟩
  by_cases hl : n ≤ 150
  · have hlz : ¬ (150 : Int) < (n : Int) := by omega
    have hL : n = (os.map opW).length := by rw [List.length_map]; exact hn
    have HOP := Lib.hid (fun W (hu : Upd [] w W) => ops_call (lc := lc) (ho.stay hu) (by omega) hn)
    have HRU := Lib.hid (fun a c W (h : Row LW W a (os.map opW)) => run_call (lc := c) h (by omega) (ops_bd os) hL)
    have HRR := Lib.hid (fun a c W (h : Row LW W a (os.map opW)) => rrun_call (lc := c) h (by omega) (ops_bd os) hL)
    have HSO := Lib.hid (fun a c W (h : Row LW W a (os.map opW)) => sorted_call (lc := c) h (by omega) (ops_bd os) hL)
    have HRS := Lib.hid (fun a c W (h : Row LW W a (os.map opW)) => rsorted_call (lc := c) h (by omega) (ops_bd os) hL)
    have hol : (runW (os.map opW) n).out.length ≤ n := out_le (ops_bd os)
    rw [← hn]
    generalize os.map opW = L at *
    generalize runW L n = s at *
    unfold RanO at HRU HRR
    unfold SorO at HSO HRS
    obtain ⟨m, hm⟩ : ∃ m, m = s.out.length := ⟨_, rfl⟩
    rw [← hm] at hol HRU HRR HSO HRS
    have HM := Lib.hid hm
    generalize s.ins = I at *
    generalize s.l.mv = mv at *
    generalize s.l.cp = cp at *
    generalize s.dep = dep at *
    generalize s.mx = mx at *
    clear hm hn hL ho
    have hwb : IntKind.i64.wrap (b : Int) = (b : Int) := by rw [IntKind.wrap_i64]; omega
    have HM1 : Hid (∀ W, Calls Tryz.prog 11 #[.int .i64 (b : Nat)] W fun e w' => e = .returned (.int .i64 (6 * (b : Int))) ∧ Upd [] W w') := fun W => (PMoveBound_has b W (by omega)).mono (fun e w' h => ⟨h.1, by rw [h.2]; exact Upd.refl [] _⟩)
    have HM2 : Hid (∀ W, Calls Tryz.prog 12 #[.int .i64 (b : Nat)] W fun e w' => e = .returned (.int .i64 (6 * (b : Int))) ∧ Upd [] W w') := fun W => (RMoveBound_has b W (by omega)).mono (fun e w' h => ⟨h.1, by rw [h.2]; exact Upd.refl [] _⟩)
    have HC1 : Hid (∀ W, Calls Tryz.prog 13 #[.int .i64 (b : Nat)] W fun e w' => e = .returned (.int .i64 (5 * (b : Int))) ∧ Upd [] W w') := fun W => (PCompareBound_has b W (by omega)).mono (fun e w' h => ⟨h.1, by rw [h.2]; exact Upd.refl [] _⟩)
    have HC2 : Hid (∀ W, Calls Tryz.prog 14 #[.int .i64 (b : Nat)] W fun e w' => e = .returned (.int .i64 (5 * (b : Int))) ∧ Upd [] W w') := fun W => (RCompareBound_has b W (by omega)).mono (fun e w' h => ⟨h.1, by rw [h.2]; exact Upd.refl [] _⟩)
    go_enter Tryz.func3, Tryz.ntmps3
    go_upto_region 2 with (go_at_call 4; (with_reducible refine (HHD.out _).mono ?_); rintro e w1 ⟨rfl, hu1⟩)
    have HU1 := Lib.hid hu1
    clear hu1 HHD
    go_upto_region 5 with (go_at_call 5; (with_reducible refine (HOP.out _ HU1.out).mono ?_); rintro e w2 ⟨a, c, rfl, hr, hu⟩)
    have HR2 := Lib.hid hr; have HU2 := Lib.hid (HU1.out.thn hu)
    clear hr hu HU1 HOP
    go_upto_region 6 with (go_at_call 6; (with_reducible refine (HRU.out a c w2 HR2.out).mono ?_); rintro e w3 ⟨oa, oc, rfl, hh, hu⟩)
    have hal := (Upd.refl [] w3).alloc (.cells #[.int .i64 (I : Nat), .int .i64 (m : Nat), .int .i64 mv, .int .i64 cp, .int .i64 (dep : Nat), .int .i64 (mx : Nat)] 28)
    have b3 := heap_alloc1 w3 (.cells #[.int .i64 (I : Nat), .int .i64 (m : Nat), .int .i64 mv, .int .i64 cp, .int .i64 (dep : Nat), .int .i64 (mx : Nat)] 28)
    generalize w3.alloc (.cells #[.int .i64 (I : Nat), .int .i64 (m : Nat), .int .i64 mv, .int .i64 cp, .int .i64 (dep : Nat), .int .i64 (mx : Nat)] 28) = W3 at *
    generalize w3.heap.size = P3 at *
    have HR3 := Lib.hid (HR2.out.stay (hu.thn hal)); have HU3 := Lib.hid (HU2.out.thn (hu.thn hal)); have HB3 := Lib.hid b3; have HA3 := Lib.hid (hh.stay hal)
    clear hh hu hal b3 HR2 HU2 HRU
    have HRX := Lib.hid (HRR.out a c W3 HR3.out)
    go_upto_region 7 with (go_at_call 7; (with_reducible refine HRX.out.mono ?_); rintro e w4 ⟨ob, obc, rfl, hh, hu⟩)
    have hal := (Upd.refl [] w4).alloc (.cells #[.int .i64 (I : Nat), .int .i64 (m : Nat), .int .i64 mv, .int .i64 cp, .int .i64 (dep : Nat), .int .i64 (mx : Nat)] 28)
    have b4 := heap_alloc1 w4 (.cells #[.int .i64 (I : Nat), .int .i64 (m : Nat), .int .i64 mv, .int .i64 cp, .int .i64 (dep : Nat), .int .i64 (mx : Nat)] 28)
    generalize w4.alloc (.cells #[.int .i64 (I : Nat), .int .i64 (m : Nat), .int .i64 mv, .int .i64 cp, .int .i64 (dep : Nat), .int .i64 (mx : Nat)] 28) = W4 at *
    generalize w4.heap.size = P4 at *
    have HR4 := Lib.hid (HR3.out.stay (hu.thn hal)); have HU4 := Lib.hid (HU3.out.thn (hu.thn hal)); have HB4 := Lib.hid b4; have HA4 := Lib.hid (HA3.out.stay (hu.thn hal)); have HB34 := Lib.hid ((hu.thn hal).at HB3.out (by simp)); have HC4 := Lib.hid (hh.stay hal)
    clear hh hu hal b4 HR3 HU3 HRR HRX HB3 HA3
    have HSA := Lib.hid (same_call (ca := oc) (cb := obc) HA4.out.row HC4.out.row HM.out HM.out (by omega) rfl)
    clear HA4 HC4
    go_wp2_with (first
      | (go_at_call 8; first
          | ((with_reducible refine HSA.out.mono ?_); rintro e w5 ⟨rfl, hu5⟩; have HU5 := Lib.hid (HU4.out.thn hu5); have HR5 := Lib.hid (HR4.out.stay hu5); obtain ⟨p0, p1, p2, p3, p4, p5⟩ := cells6 (hu5.at HB34.out (by simp)); obtain ⟨q0, q1, q2, q3, q4, q5⟩ := cells6 (hu5.at HB4.out (by simp)); have HSK := Lib.hid (HSO.out a c w5 HR5.out); clear hu5 HSA)
          | ((with_reducible refine HSB.out.mono ?_); rintro e w8 ⟨rfl, hu8⟩; have HU8 := Lib.hid (HU7.out.thn hu8); clear hu8))
      | (go_at_call 9; (with_reducible refine HSK.out.mono ?_); rintro e w6 ⟨od, odc, rfl, hh6, hu6⟩; have HU6 := Lib.hid (HU5.out.thn hu6); have HH6 := Lib.hid hh6; have HRSK := Lib.hid (HRS.out a c w6 (HR5.out.stay hu6)); clear hh6 hu6 p0 p1 p2 p3 p4 p5 q0 q1 q2 q3 q4 q5)
      | (go_at_call 10; (with_reducible refine HRSK.out.mono ?_); rintro e w7 ⟨oe, oec, rfl, hh7, hu7⟩; have HU7 := Lib.hid (HU6.out.thn hu7); have HSB := Lib.hid (same_call (ca := odc) (cb := oec) (HH6.out.row.stay hu7) hh7.row HM.out HM.out (by omega) rfl); clear hh7 hu7)
      | (go_at_call 11; (with_reducible refine (HM1.out _).mono ?_); rintro e w9 ⟨rfl, hu9⟩; have HU9 := Lib.hid (HU8.out.thn hu9); clear hu9)
      | (go_at_call 12; (with_reducible refine (HM2.out _).mono ?_); rintro e w10 ⟨rfl, hu10⟩; have HU10 := Lib.hid (HU9.out.thn hu10); clear hu10)
      | (go_at_call 13; (with_reducible refine (HC1.out _).mono ?_); rintro e w11 ⟨rfl, hu11⟩; have HU11 := Lib.hid (HU10.out.thn hu11); clear hu11)
      | (go_at_call 14; (with_reducible refine (HC2.out _).mono ?_); rintro e w12 ⟨rfl, hu12⟩; have HU12 := Lib.hid (HU11.out.thn hu12); clear hu12))
    go_ret
    exact ⟨rfl, HU12.out⟩
  · have hlz : (150 : Int) < (n : Int) := by omega
    rw [← hn]
    clear hn ho
    go_enter Tryz.func3, Tryz.ntmps3
    go_upto_region 2 with (go_at_call 4; (with_reducible refine (HHD.out _).mono ?_); rintro e w1 ⟨rfl, hu1⟩)
    have HU1 := Lib.hid hu1
    clear hu1 HHD
    go_wp2_with fail
    go_ret
    exact ⟨rfl, HU1.out⟩
theorem WMatches_int (la : Option Addr) (lc : Nat) (os : List Wo) (b : Int) (w : World) (ho : Row LW w la os) (hb : 0 ≤ b ∧ b < 65536) :
    Calls Tryz.prog 3 #[.slice la os.length lc, .int .u16 b] w fun e w' => e = .returned (.bool true) ∧ Upd [] w w' := by
  obtain ⟨n, rfl⟩ := Int.eq_ofNat_of_zero_le hb.1
  exact WMatches_any la lc os n w ho (by omega)
end Go.Proofs.YtpabapjodcafkaaGreat
