/- Contract: Small of the laws of layer 7. -/
import Derived.Test.YtneodiemgemhfaaGreatUH
namespace Go.Proofs.YtneodiemgemhfaaGreat
open Go.RowKit Go.Lib
set_option maxRecDepth 100000 in
set_option maxHeartbeats 4000000 in
theorem Small_has (r : RgR) (w : World) (h : HasR w r) (hl : r.bk.l.length ≤ 9223372036854775807) (hm : ∀ s ∈ r.bk.l, s.l.length ≤ 9223372036854775807) :
    Calls Tryz.prog 31 #[encR r] w (SmallPost r.bk.l w) := by
  obtain ⟨fr, wd, cu, bl, ba, bc⟩ := r
  have HB := Lib.hid h.bk.row
  have HM := Lib.hid hm
  simp only at hl HB HM
  unfold encR
  simp only
  clear h hm
  have HOK : Hid (∀ W, bl.length ≤ 20 → (∀ s ∈ bl, s.l.length ≤ 200) → ∀ b, Upd [] w W → SmallPost bl w (.returned (.bool b)) W) := fun W h1 h2 b hu => ⟨b, rfl, fun _ => ⟨h1, h2⟩, hu⟩
  have HNO : Hid (∀ W, Upd [] w W → SmallPost bl w (.returned (.bool false)) W) := fun W hu => ⟨false, rfl, fun h => by simp at h, hu⟩
  obtain ⟨n, hn⟩ : ∃ n, n = bl.length := ⟨_, rfl⟩
  rw [← hn] at hl HOK ⊢
  have HN := Lib.hid hn
  clear hn
  go_enter Tryz.func31, Tryz.ntmps31
  go_upto_region 1 with (fail)
  have hu := (Upd.refl [] w).alloc (.cells #[.int .i64 fr, .int .i64 wd, .int .i64 cu, .slice ba n bc] 53)
  obtain ⟨c0, c1, c2, c3⟩ := cells4 (heap_alloc1 w (.cells #[.int .i64 fr, .int .i64 wd, .int .i64 cu, .slice ba n bc] 53))
  generalize w.alloc (.cells #[.int .i64 fr, .int .i64 wd, .int .i64 cu, .slice ba n bc] 53) = W at *
  generalize w.heap.size = P at *
  have HU := Lib.hid hu
  have HB := Lib.hid (HB.out.stay hu)
  clear hu c0 c1 c2
  by_cases h20 : 20 < n
  · have hd : decide (20 < (n : Int)) = true := by simp; omega
    have hd2 : decide (20 < n) = true := by simp; omega
    go_wp2_with fail
    go_ret
    exact HNO.out _ HU.out
  have hd : decide (20 < (n : Int)) = false := by simp; omega
  have hd2 : decide (20 < n) = false := by simp; omega
  go_wp2_with fail
  go_loopg [3, 4] n (fun gk vc vi wr => ∃ (k x : Nat), vi = .int .i64 k ∧ vc = .int .i64 x ∧ k + gk = n ∧ x ≤ k * 200 ∧ Hid (∀ i (hi : i < bl.length), i < k → bl[i].l.length ≤ 200) ∧ W = wr)
  case atStart => exact ⟨0, 0, rfl, rfl, by omega, by omega, fun i _ h => by omega, rfl⟩
  case round =>
    obtain ⟨k, x, rfl, rfl, hkg, hx, HK, rfl⟩ := hrel
    by_cases hlt : k < n
    · have hltz : (k : Int) < (n : Int) := by omega
      have hk1 : k < bl.length := by have := HN.out; omega
      obtain ⟨b1, o1, rfl, c1⟩ := HB.out.bucket k hk1
      have hml := HM.out _ (List.getElem_mem hk1)
      have HKK : Hid (bl[k].l.length ≤ 200 → ∀ i (hi : i < bl.length), i < k + 1 → bl[i].l.length ≤ 200) := fun h i hi hik => by
        by_cases e : i = k
        · subst e; exact h
        · exact HK.out i hi (by omega)
      generalize bl[k].l.length = m at *
      generalize bl[k].ad = am at *
      generalize bl[k].cap = cm at *
      by_cases h200 : 200 < m
      · have e1 : decide (200 < m) = true := by simp; omega
        go_wp2_with fail
        go_ret
        exact HNO.out _ HU.out
      have e1 : decide (200 < m) = false := by simp; omega
      have hw : IntKind.i64.wrap ((x : Int) + (m : Int)) = (x : Int) + (m : Int) := by rw [IntKind.wrap_i64]; omega
      have HKK := Lib.hid (HKK.out (by omega))
      go_wp2_with fail
      go_roundg (gk - 1)
      case measure => omega
      case rel => exact ⟨k + 1, x + m, by go_num, by go_num, by omega, by omega, HKK, rfl⟩
    · have hltz : ¬ (k : Int) < (n : Int) := by omega
      go_wp2_with fail
      go_ret
      exact HOK.out _ (by omega) (fun s hs => by obtain ⟨i, hi, rfl⟩ := List.mem_iff_getElem.1 hs; exact HK.out i hi (by have := HN.out; omega)) _ HU.out

end Go.Proofs.YtneodiemgemhfaaGreat
