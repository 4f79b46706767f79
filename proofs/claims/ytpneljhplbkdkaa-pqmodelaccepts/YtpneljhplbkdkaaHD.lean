
/- Contract of layer 10: slices.BinarySearchFunc over entries. -/
import Derived.Test.YtpneljhplbkdkaaHA
namespace Go.Proofs.Ytpneljhplbkdkaa
open Go.RowKit Go.Lib

def SortedE (l : List En) : Prop := l.Pairwise ltE
def aggE (e : En) : Value := .agg #[.int .i64 e.t, .int .i64 e.q, .int .i64 e.h, .bool e.d]
/-- What the search gives: the place before which all are less, from which on none is. -/
def FoundAt (l : List En) (it : En) (w : World) (e : Ending) (w' : World) : Prop := ∃ (p : Nat) (b : Bool), e = .returned (.tuple #[.int .i64 p, .bool b]) ∧ p ≤ l.length ∧ (∀ i (h : i < l.length), i < p → ltE l[i] it) ∧ (∀ i (h : i < l.length), p ≤ i → ¬ ltE l[i] it) ∧ Upd [] w w'
set_option maxRecDepth 100000 in
set_option maxHeartbeats 4000000 in
theorem Search_has (a : Option Addr) (c : Nat) (l : List En) (it : En) (w : World) (hr : Row LE w a l) (hl : l.length ≤ 1000000) (hs : SortedE l) :
    Calls Try.prog 52 #[.slice a l.length c, aggE it, .func (.func 44) #[] #[]] w (FoundAt l it w) := by
  have HCI := Lib.hid (fun (x : En) W => PCmp_has x it W)
  have HR := Lib.hid hr
  have HS := Lib.hid hs
  have HMO : Hid (∀ i j (hi : i < l.length) (hj : j < l.length), i ≤ j → ltE l[j] it → ltE l[i] it) := fun i j hi hj hij h => by
    by_cases e : i = j
    · subst e; exact h
    · have := (List.pairwise_iff_getElem.1 hs) i j hi hj (by omega)
      unfold ltE at *; omega
  have HFN : Hid (∀ (p : Nat) (b : Bool) W, p ≤ l.length → (∀ i (h : i < l.length), i < p → ltE l[i] it) → (∀ i (h : i < l.length), p ≤ i → ¬ ltE l[i] it) → Upd [] w W → FoundAt l it w (.returned (.tuple #[.int .i64 p, .bool b])) W) := fun p b W h1 h2 h3 h4 => ⟨p, b, rfl, h1, h2, h3, h4⟩
  obtain ⟨n, hn⟩ : ∃ n, n = l.length := ⟨_, rfl⟩
  have HN := Lib.hid hn
  rw [← hn] at hl ⊢
  obtain ⟨t1, q1, s1, d1⟩ := it
  unfold aggE
  simp only at HCI ⊢
  clear hr hs hn
  have eg : ∀ args w, (callFunc 44 args).run Try.prog w = .ok (.enter 44 args) w := enters_of Try.func44 (by kernel_rfl) rfl
  go_enter Try.func52, Try.ntmps52
  go_upto_region 1 with (fail)
  have hu := (Upd.refl [] w).alloc (.cells #[.int .i64 t1, .int .i64 q1, .int .i64 s1, .bool d1] 49)
  have b0 := heap_alloc1 w (.cells #[.int .i64 t1, .int .i64 q1, .int .i64 s1, .bool d1] 49)
  generalize w.alloc (.cells #[.int .i64 t1, .int .i64 q1, .int .i64 s1, .bool d1] 49) = W at *
  generalize w.heap.size = P at *
  have HU := Lib.hid hu; have HB0 := Lib.hid b0
  clear hu b0
  go_wp2_with fail
  go_loopg [9, 10] n (fun gk v9 v10 wr => ∃ lo hi : Nat, v9 = .int .i64 lo ∧ v10 = .int .i64 hi ∧ lo ≤ hi ∧ hi ≤ n ∧ hi - lo ≤ gk ∧ Hid (Upd [] W wr) ∧ Hid ((∀ i (h : i < l.length), i < lo → ltE l[i] ⟨t1, q1, s1, d1⟩) ∧ (∀ i (h : i < l.length), hi ≤ i → ¬ ltE l[i] ⟨t1, q1, s1, d1⟩)))
  case atStart => exact ⟨0, n, rfl, rfl, by omega, by omega, by omega, Lib.hid (Upd.refl _ _), ⟨fun i _ h => by omega, fun i h1 h2 => by have := HN.out; omega⟩⟩
  case round =>
    obtain ⟨lo, hi, rfl, rfl, hlh, hin, hgk, HUR, HIV⟩ := hrel
    by_cases hlt : lo < hi
    · have hltz : (lo : Int) < (hi : Int) := by omega
      have hm1 : (lo + hi) / 2 < l.length := by have := HN.out; omega
      obtain ⟨b, off, hbo, x0, x1, x2, x3⟩ := (HR.out.stay (HU.out.thn HUR.out)).ent ((lo + hi) / 2) hm1
      subst hbo
      obtain ⟨c0, c1, c2, c3⟩ := cells4 (HUR.out.at HB0.out (by simp))
      have HCK := Lib.hid (HCI.out l[(lo + hi) / 2])
      have HLO : Hid (cmpE l[(lo + hi) / 2] ⟨t1, q1, s1, d1⟩ < 0 → ∀ i (h : i < l.length), i < (lo + hi) / 2 + 1 → ltE l[i] ⟨t1, q1, s1, d1⟩) := fun h i hi2 hi3 => HMO.out i _ hi2 hm1 (by omega) (cmpE_lt.1 h)
      have HHI : Hid (¬ cmpE l[(lo + hi) / 2] ⟨t1, q1, s1, d1⟩ < 0 → ∀ i (h : i < l.length), (lo + hi) / 2 ≤ i → ¬ ltE l[i] ⟨t1, q1, s1, d1⟩) := fun h i hi2 hi3 hc => h (cmpE_lt.2 (HMO.out _ i hm1 hi2 hi3 hc))
      generalize cmpE l[(lo + hi) / 2] ⟨t1, q1, s1, d1⟩ = r at *
      generalize l[(lo + hi) / 2].t = y0 at *
      generalize l[(lo + hi) / 2].q = y1 at *
      generalize l[(lo + hi) / 2].h = y2 at *
      generalize l[(lo + hi) / 2].d = y3 at *
      obtain ⟨m, hm⟩ : ∃ m, m = (lo + hi) / 2 := ⟨_, rfl⟩
      have hmz : (((lo : Int) + (hi : Int)) / 2) = (m : Int) := by omega
      have hmn : (m : Int) < (n : Int) := by omega
      rw [← hm] at x0 x1 x2 x3 HLO HHI
      have hmb : lo ≤ m ∧ m < hi := by omega
      clear hm1 hm
      go_upto_region 5 with (fail)
      have k0 := kept_at c0; have k1 := kept_at c1; have k2 := kept_at c2; have k3 := kept_at c3
      have j0 := kept_at x0; have j1 := kept_at x1; have j2 := kept_at x2; have j3 := kept_at x3
      clear c0 c1 c2 c3 x0 x1 x2 x3
      refine wp_region_quiet_kept mixed (by kernel_rfl) ?_
      repeat (go_big_quiet_step (first | (go_at_call 44; exact calls_kept (HCK.out _))))
      refine wpQuiet_nil ?_
      intro W3 hw'
      obtain ⟨⟨Wx, hu⟩, hw''⟩ := hw'
      simp only at hw''
      subst hw''
      clear k0 k1 k2 k3 j0 j1 j2 j3
      have HU3 := Lib.hid (HUR.out.thn hu)
      clear hu
      by_cases hneg : r < 0
      · have hd : decide (r < 0) = true := by simpa using hneg
        have HL2 := Lib.hid (HLO.out hneg)
        go_wp2_with fail
        go_roundg (hi - (m + 1))
        case measure => omega
        case rel => exact ⟨m + 1, hi, by go_num, rfl, by omega, by omega, by omega, HU3, ⟨HL2.out, HIV.out.2⟩⟩
      · have hd : decide (r < 0) = false := by simpa using hneg
        have HL2 := Lib.hid (HHI.out hneg)
        go_wp2_with fail
        go_roundg (m - lo)
        case measure => omega
        case rel => exact ⟨lo, m, rfl, rfl, by omega, by omega, by omega, HU3, ⟨HIV.out.1, HL2.out⟩⟩
    · have hltz : ¬ (lo : Int) < (hi : Int) := by omega
      obtain rfl : lo = hi := by omega
      go_upto_region 8 with (fail)
      by_cases hln : lo < n
      · have hg : decide ((lo : Int) < (n : Int)) = true := by simp; omega
        have hg2 : (lo : Int) < (n : Int) := by omega
        have hm1 : lo < l.length := by have := HN.out; omega
        obtain ⟨b, off, hbo, x0, x1, x2, x3⟩ := (HR.out.stay (HU.out.thn HUR.out)).ent lo hm1
        subst hbo
        obtain ⟨c0, c1, c2, c3⟩ := cells4 (HUR.out.at HB0.out (by simp))
        have HCK := Lib.hid (HCI.out l[lo])
        generalize cmpE l[lo] ⟨t1, q1, s1, d1⟩ = r at *
        generalize l[lo].t = y0 at *
        generalize l[lo].q = y1 at *
        generalize l[lo].h = y2 at *
        generalize l[lo].d = y3 at *
        have k0 := kept_at c0; have k1 := kept_at c1; have k2 := kept_at c2; have k3 := kept_at c3
        have j0 := kept_at x0; have j1 := kept_at x1; have j2 := kept_at x2; have j3 := kept_at x3
        clear c0 c1 c2 c3 x0 x1 x2 x3 hm1
        refine wp_region_quiet_kept mixed (by kernel_rfl) ?_
        repeat (go_big_quiet_step (first | (go_at_call 44; exact calls_kept (HCK.out _))))
        refine wpQuiet_nil ?_
        intro W3 hw'
        obtain ⟨⟨Wx, hu⟩, hw''⟩ := hw'
        simp only at hw''
        subst hw''
        clear k0 k1 k2 k3 j0 j1 j2 j3
        have HU3 := Lib.hid (HUR.out.thn hu)
        clear hu
        go_wp2_with fail
        go_ret2
        exact HFN.out _ _ _ (by have := HN.out; omega) HIV.out.1 HIV.out.2 (HU.out.thn HU3.out)
      · have hg : decide ((lo : Int) < (n : Int)) = false := by simp; omega
        have hg2 : ¬ (lo : Int) < (n : Int) := by omega
        go_quiet (fail)
        have HU3 := Lib.hid (HUR.out.drewN nq)
        generalize wr.drewN nq = W3 at *
        go_wp2_with fail
        go_ret2
        exact HFN.out _ _ _ (by have := HN.out; omega) HIV.out.1 HIV.out.2 (HU.out.thn HU3.out)
end Go.Proofs.Ytpneljhplbkdkaa
