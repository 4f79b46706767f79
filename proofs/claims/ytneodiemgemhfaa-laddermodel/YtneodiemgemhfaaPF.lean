/- Contract: slices.BinarySearchFunc over items. -/
import Derived.Test.YtneodiemgemhfaaPB
import Derived.Test.YtneodiemgemhfaaPE
namespace Go.Proofs.Ytneodiemgemhfaa
open Go.RowKit Go.Lib

/-- What the search gives: the place before which all are less, from which on none is. -/
def FoundAt (l : List It) (it : It) (w : World) (e : Ending) (w' : World) : Prop := ∃ (p : Nat) (b : Bool), e = .returned (.tuple #[.int .i64 p, .bool b]) ∧ p ≤ l.length ∧ (∀ i (h : i < l.length), i < p → ltI l[i] it) ∧ (∀ i (h : i < l.length), p ≤ i → ¬ ltI l[i] it) ∧ Upd [] w w'
set_option maxRecDepth 100000 in
set_option maxHeartbeats 4000000 in
theorem Search_has (a : Option Addr) (c : Nat) (l : List It) (it : It) (w : World) (hr : Row LI w a l) (hl : l.length ≤ 1000000) (hs : SortedI l) :
    Calls Try.prog 16 #[.slice a l.length c, aggI it, .func (.func 17) #[] #[]] w (FoundAt l it w) := by
  have HCI := Lib.hid (fun (x : It) W => ((CompareItems_any x it W).mono (R' := fun e w' => e = .returned (.int .i64 (cmpI x it)) ∧ Upd [] W w') (fun e w' h => ⟨h.1, h.2.upd⟩)))
  have HR := Lib.hid hr
  have HS := Lib.hid hs
  have HMO : Hid (∀ i j (hi : i < l.length) (hj : j < l.length), i ≤ j → ltI l[j] it → ltI l[i] it) := fun i j hi hj hij h => by
    by_cases e : i = j
    · subst e; exact h
    · have := (pairwise_at.1 hs) i j hi hj (by omega)
      unfold ltI at *; omega
  have HFN : Hid (∀ (p : Nat) (b : Bool) W, p ≤ l.length → (∀ i (h : i < l.length), i < p → ltI l[i] it) → (∀ i (h : i < l.length), p ≤ i → ¬ ltI l[i] it) → Upd [] w W → FoundAt l it w (.returned (.tuple #[.int .i64 p, .bool b])) W) := fun p b W h1 h2 h3 h4 => ⟨p, b, rfl, h1, h2, h3, h4⟩
  obtain ⟨n, hn⟩ : ∃ n, n = l.length := ⟨_, rfl⟩
  have HN := Lib.hid hn
  rw [← hn] at hl ⊢
  obtain ⟨t1, q1, s1⟩ := it
  unfold aggI at HCI ⊢
  simp only at HCI ⊢
  clear hr hs hn
  have eg : ∀ args w, (callFunc 17 args).run Try.prog w = .ok (.enter 17 args) w := enters_of Try.func17 (by kernel_rfl) rfl
  go_enter Try.func16, Try.ntmps16
  go_upto_region 1 with (fail)
  have hu := (Upd.refl [] w).alloc (.cells #[.int .i64 t1, .int .i64 q1, .int .i64 s1] 34)
  have b0 := heap_alloc1 w (.cells #[.int .i64 t1, .int .i64 q1, .int .i64 s1] 34)
  generalize w.alloc (.cells #[.int .i64 t1, .int .i64 q1, .int .i64 s1] 34) = W at *
  generalize w.heap.size = P at *
  have HU := Lib.hid hu; have HB0 := Lib.hid b0
  clear hu b0
  go_wp2_with fail
  go_loopg [9, 10] n (fun gk v9 v10 wr => ∃ lo hi : Nat, v9 = .int .i64 lo ∧ v10 = .int .i64 hi ∧ lo ≤ hi ∧ hi ≤ n ∧ hi - lo ≤ gk ∧ Hid (Upd [] W wr) ∧ Hid ((∀ i (h : i < l.length), i < lo → ltI l[i] ⟨t1, q1, s1⟩) ∧ (∀ i (h : i < l.length), hi ≤ i → ¬ ltI l[i] ⟨t1, q1, s1⟩)))
  case atStart => exact ⟨0, n, rfl, rfl, by omega, by omega, by omega, Lib.hid (Upd.refl _ _), ⟨fun i _ h => by omega, fun i h1 h2 => by have := HN.out; omega⟩⟩
  case round =>
    obtain ⟨lo, hi, rfl, rfl, hlh, hin, hgk, HUR, HIV⟩ := hrel
    by_cases hlt : lo < hi
    · have hltz : (lo : Int) < (hi : Int) := by omega
      have hm1 : (lo + hi) / 2 < l.length := by have := HN.out; omega
      obtain ⟨b, off, hbo, x0, x1, x2⟩ := (HR.out.stay (HU.out.thn HUR.out)).item ((lo + hi) / 2) hm1
      subst hbo
      obtain ⟨c0, c1, c2⟩ := cells3 (HUR.out.at HB0.out (by simp))
      have HCK := Lib.hid (HCI.out l[(lo + hi) / 2])
      have HLO : Hid (cmpI l[(lo + hi) / 2] ⟨t1, q1, s1⟩ < 0 → ∀ i (h : i < l.length), i < (lo + hi) / 2 + 1 → ltI l[i] ⟨t1, q1, s1⟩) := fun h i hi2 hi3 => HMO.out i _ hi2 hm1 (by omega) (cmpI_lt.1 h)
      have HHI : Hid (¬ cmpI l[(lo + hi) / 2] ⟨t1, q1, s1⟩ < 0 → ∀ i (h : i < l.length), (lo + hi) / 2 ≤ i → ¬ ltI l[i] ⟨t1, q1, s1⟩) := fun h i hi2 hi3 hc => h (cmpI_lt.2 (HMO.out _ i hm1 hi2 hi3 hc))
      generalize cmpI l[(lo + hi) / 2] ⟨t1, q1, s1⟩ = r at *
      generalize l[(lo + hi) / 2].t = y0 at *
      generalize l[(lo + hi) / 2].q = y1 at *
      generalize l[(lo + hi) / 2].s = y2 at *
      obtain ⟨m, hm⟩ : ∃ m, m = (lo + hi) / 2 := ⟨_, rfl⟩
      have hmz : (((lo : Int) + (hi : Int)) / 2) = (m : Int) := by omega
      have hmn : (m : Int) < (n : Int) := by omega
      rw [← hm] at x0 x1 x2 HLO HHI
      have hmb : lo ≤ m ∧ m < hi := by omega
      clear hm1 hm
      go_upto_region 5 with (fail)
      have k0 := kept_at c0; have k1 := kept_at c1; have k2 := kept_at c2
      have j0 := kept_at x0; have j1 := kept_at x1; have j2 := kept_at x2
      clear c0 c1 c2 x0 x1 x2
      refine wp_region_quiet_kept mixed (by kernel_rfl) ?_
      repeat (go_big_quiet_step (first | (go_at_call 17; exact calls_kept (HCK.out _))))
      refine wpQuiet_nil ?_
      intro W3 hw'
      obtain ⟨⟨Wx, hu⟩, hw''⟩ := hw'
      simp only at hw''
      subst hw''
      clear k0 k1 k2 j0 j1 j2
      have HU3 := Lib.hid (HUR.out.thn hu)
      clear hu
      by_cases hneg : r < 0
      · have hd : decide (r < 0) = true := by simpa using hneg
        have HL2 := Lib.hid (HLO.out hneg)
        go_wp2_with fail
        go_roundg (hi - (m + 1))
        case measure => omega
        case rel => exact ⟨m + 1, hi, by go_num, rfl, by omega, by omega, by omega, HU3, ⟨HL2.out, HIV.out.2⟩⟩
      · have hd : decide (r < 0) = false := by simpa using hneg
        have HL2 := Lib.hid (HHI.out hneg)
        go_wp2_with fail
        go_roundg (m - lo)
        case measure => omega
        case rel => exact ⟨lo, m, rfl, rfl, by omega, by omega, by omega, HU3, ⟨HIV.out.1, HL2.out⟩⟩
    · have hltz : ¬ (lo : Int) < (hi : Int) := by omega
      obtain rfl : lo = hi := by omega
      go_upto_region 8 with (fail)
      by_cases hln : lo < n
      · have hg : decide ((lo : Int) < (n : Int)) = true := by simp; omega
        have hg2 : (lo : Int) < (n : Int) := by omega
        have hm1 : lo < l.length := by have := HN.out; omega
        obtain ⟨b, off, hbo, x0, x1, x2⟩ := (HR.out.stay (HU.out.thn HUR.out)).item lo hm1
        subst hbo
        obtain ⟨c0, c1, c2⟩ := cells3 (HUR.out.at HB0.out (by simp))
        have HCK := Lib.hid (HCI.out l[lo])
        generalize cmpI l[lo] ⟨t1, q1, s1⟩ = r at *
        generalize l[lo].t = y0 at *
        generalize l[lo].q = y1 at *
        generalize l[lo].s = y2 at *
        have k0 := kept_at c0; have k1 := kept_at c1; have k2 := kept_at c2
        have j0 := kept_at x0; have j1 := kept_at x1; have j2 := kept_at x2
        clear c0 c1 c2 x0 x1 x2 hm1
        refine wp_region_quiet_kept mixed (by kernel_rfl) ?_
        repeat (go_big_quiet_step (first | (go_at_call 17; exact calls_kept (HCK.out _))))
        refine wpQuiet_nil ?_
        intro W3 hw'
        obtain ⟨⟨Wx, hu⟩, hw''⟩ := hw'
        simp only at hw''
        subst hw''
        clear k0 k1 k2 j0 j1 j2
        have HU3 := Lib.hid (HUR.out.thn hu)
        clear hu
        go_wp2_with fail
        go_ret2
        exact HFN.out _ _ _ (by have := HN.out; omega) HIV.out.1 HIV.out.2 (HU.out.thn HU3.out)
      · have hg : decide ((lo : Int) < (n : Int)) = false := by simp; omega
        have hg2 : ¬ (lo : Int) < (n : Int) := by omega
        go_quiet (fail)
        have HU3 := Lib.hid (HUR.out.drewN nq)
        generalize wr.drewN nq = W3 at *
        go_wp2_with fail
        go_ret2
        exact HFN.out _ _ _ (by have := HN.out; omega) HIV.out.1 HIV.out.2 (HU.out.thn HU3.out)
end Go.Proofs.Ytneodiemgemhfaa
