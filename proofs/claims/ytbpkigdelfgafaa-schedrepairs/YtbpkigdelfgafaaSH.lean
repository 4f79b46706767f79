/- head of the laws of layer 2: it returns true and turns nothing old. -/
import Derived.Test.YtbpkigdelfgafaaSG
namespace Go.Proofs.Ytbpkigdelfgafaa
open Go.RowKit

theorem lit_ints {w : World} (xs : List Int) (O : Obj) (h : O = .cells (icells xs) 3 (0, 0)) : Ints (w.alloc O) (some ⟨w.heap.size, 0, none⟩) xs := by
  subst h; exact ints_block (heap_alloc1 _ _)
theorem thr_of {n : Nat} {l : List Int} (h : (l.all fun x => decide (0 ≤ x) && decide (x < (n : Int))) = true) : Thr n l := by
  intro x hx
  have := List.all_eq_true.1 h x hx
  simpa using this

set_option maxRecDepth 100000 in
set_option maxHeartbeats 2000000 in
theorem head_any (w : World) : Calls Try.prog 9 #[] w fun e w' => e = .returned (.bool true) ∧ Upd [] w w' := by
  go_enter Try.func9, Try.ntmps9
  go_wp2_with fail
  refine (RoundRobin_any 1 3 5 (by omega) (by omega) (by omega) _).mono ?_
  rintro e w1 ⟨a1, c1, rfl, hi1, hu1, _⟩
  have HI1 := Lib.hid hi1; have HU1 := Lib.hid hu1; clear hi1 hu1
  go_wp2_with fail
  refine (Same_any a1 _ c1 _ (rrL 1 3 5) [1, 2, 0, 1, 2] _ (HI1.out.stay ((Upd.refl [] _).alloc _)) (lit_ints _ _ rfl) (by decide) (by decide)).mono ?_
  rintro e w2 ⟨rfl, hu2⟩
  have HU2 : Hid (Upd [] w w2) := (HU1.out.alloc _).trans hu2 (by simp)
  clear hu2 HU1 HI1
  rw [show eqL (rrL 1 3 5) [1, 2, 0, 1, 2] = true by decide]
  go_wp2_with fail
  refine (Repair_any _ _ [0, 0, 0, 0] 2 2 (by omega) (by omega) (by omega) (by omega) (by decide) (thr_of (by decide)) _ (lit_ints _ _ rfl)).mono ?_
  rintro e w3 ⟨a1, c1, rfl, hi1, hu1, _⟩
  have HI1 := Lib.hid hi1; have HU1 : Hid (Upd [] w w3) := (HU2.out.alloc _).trans hu1 (by simp)
  clear hi1 hu1 HU2
  go_wp2_with fail
  refine (Same_any a1 _ c1 _ (repair 2 2 [0, 0, 0, 0]) [0, 1, 0, 1] _ (HI1.out.stay ((Upd.refl [] _).alloc _)) (lit_ints _ _ rfl) (by decide) (by decide)).mono ?_
  rintro e w4 ⟨rfl, hu2⟩
  have HU2 : Hid (Upd [] w w4) := (HU1.out.alloc _).trans hu2 (by simp)
  clear hu2 HU1 HI1
  rw [show eqL (repair 2 2 [0, 0, 0, 0]) [0, 1, 0, 1] = true by decide]
  go_wp2_with fail
  refine (Repair_any _ _ [1, 1, 0] 2 9 (by omega) (by omega) (by omega) (by omega) (by decide) (thr_of (by decide)) _ (lit_ints _ _ rfl)).mono ?_
  rintro e w5 ⟨a1, c1, rfl, hi1, hu1, _⟩
  have HI1 := Lib.hid hi1; have HU1 : Hid (Upd [] w w5) := (HU2.out.alloc _).trans hu1 (by simp)
  clear hi1 hu1 HU2
  go_wp2_with fail
  refine (Same_any a1 _ c1 _ (repair 2 9 [1, 1, 0]) [1, 1, 0] _ (HI1.out.stay ((Upd.refl [] _).alloc _)) (lit_ints _ _ rfl) (by decide) (by decide)).mono ?_
  rintro e w6 ⟨rfl, hu2⟩
  have HU2 : Hid (Upd [] w w6) := (HU1.out.alloc _).trans hu2 (by simp)
  clear hu2 HU1 HI1
  rw [show eqL (repair 2 9 [1, 1, 0]) [1, 1, 0] = true by decide]
  go_wp2_with fail
  refine (Fair_any _ _ [0, 1, 1, 0] 2 3 (by omega) (by omega) (by omega) (by omega) (by decide) (by decide) (thr_of (by decide)) _ (lit_ints _ _ rfl)).mono ?_
  rintro e w7 ⟨rfl, hu2⟩
  have HU3 : Hid (Upd [] w w7) := (HU2.out.alloc _).trans hu2 (by simp)
  clear hu2 HU2
  rw [show fairB 2 3 [0, 1, 1, 0] = true by decide]
  go_wp2_with fail
  refine (Fair_any _ _ [0, 1, 1, 0] 2 2 (by omega) (by omega) (by omega) (by omega) (by decide) (by decide) (thr_of (by decide)) _ (lit_ints _ _ rfl)).mono ?_
  rintro e w8 ⟨rfl, hu2⟩
  have HU4 : Hid (Upd [] w w8) := (HU3.out.alloc _).trans hu2 (by simp)
  clear hu2 HU3
  rw [show fairB 2 2 [0, 1, 1, 0] = false by decide]
  go_wp2_with fail
  refine (Random_any 1 (by omega) 10 3 (by omega) (by omega) (by omega) _).mono ?_
  rintro e w9 ⟨a1, c1, rfl, hi1, hu1, _⟩
  have HI1 := Lib.hid hi1; have HU5 : Hid (Upd [] w w9) := HU4.out.trans hu1 (by simp)
  clear hi1 hu1 HU4
  go_wp2_with fail
  refine (RRnd_any 1 (by omega) 10 3 (by omega) (by omega) (by omega) _).mono ?_
  rintro e w10 ⟨a2, c2, rfl, hi2, hu1, _⟩
  have HI1' := Lib.hid (HI1.out.stay hu1)
  have HI2 := Lib.hid hi2; have HU6 : Hid (Upd [] w w10) := HU5.out.trans hu1 (by simp)
  clear hi2 hu1 HU5 HI1
  go_wp2_with fail
  refine (Same_any a1 a2 c1 c2 (rndL 1 10 3) (rndL 1 10 3) _ HI1'.out HI2.out (by rw [rndL_length]; omega) (by rw [rndL_length]; omega)).mono ?_
  rintro e w11 ⟨rfl, hu2⟩
  have HU7 : Hid (Upd [] w w11) := HU6.out.trans hu2 (by simp)
  clear hu2 HU6 HI1' HI2
  rw [show eqL (rndL 1 10 3) (rndL 1 10 3) = true by simp [eqL]]
  go_wp2_with fail
  refine (Random_any 1 (by omega) 10 3 (by omega) (by omega) (by omega) _).mono ?_
  rintro e w12 ⟨a1, c1, rfl, hi1, hu1, _⟩
  have HU8 : Hid (Upd [] w w12) := HU7.out.trans hu1 (by simp)
  clear hi1 hu1 HU7
  rw [rndL_length]
  go_wp2_with fail
  go_ret
  exact ⟨rfl, HU8.out⟩
end Go.Proofs.Ytbpkigdelfgafaa
