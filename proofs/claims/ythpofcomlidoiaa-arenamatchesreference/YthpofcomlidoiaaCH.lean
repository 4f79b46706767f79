/- Contracts: the reference's handles. -/
import Derived.Test.YthpofcomlidoiaaG
import Derived.Test.YthpofcomlidoiaaCP
namespace Go.Proofs.Ythpofcomlidoiaa
open Go.RowKit Go.Lib

theorem ret_bool {a b : Bool} (h : a = b) : Ending.returned (.bool a) = .returned (.bool b) := by rw [h]
def validB (h : Int) : Bool := decide (0 ≤ h) && decide (h ≤ 70368744177727)
theorem validB_yes {h : Int} : validB h = true ↔ 0 ≤ h ∧ h ≤ 70368744177727 := by simp [validB]
theorem validB_no {h : Int} : validB h = false ↔ ¬ (0 ≤ h ∧ h ≤ 70368744177727) := by rw [← validB_yes]; simp
set_option maxHeartbeats 400000 in
theorem RValid_any (h : Int) (w : World) :
    Calls Try.prog 57 #[.int .i64 h] w fun e w' => e = .returned (.bool (validB h)) ∧ w = w' := by
  by_cases h0 : 0 ≤ h
  · have d0 : decide (0 ≤ h) = true := by simpa using h0
    by_cases h1 : h ≤ 70368744177727
    · have d1 : decide (h ≤ 70368744177727) = true := by simpa using h1
      go_enter Try.func57, Try.ntmps57
      go_wp2
      go_ret
      exact ⟨ret_bool (by simp [validB, h0, h1]), rfl⟩
    · have d1 : decide (h ≤ 70368744177727) = false := by simpa using h1
      go_enter Try.func57, Try.ntmps57
      go_wp2
      go_ret
      exact ⟨ret_bool (by simp [validB, h1]), rfl⟩
  · have d0 : decide (0 ≤ h) = false := by simpa using h0
    go_enter Try.func57, Try.ntmps57
    go_wp2
    go_ret
    exact ⟨ret_bool (by rw [validB, d0]; rfl), rfl⟩
set_option maxHeartbeats 400000 in
theorem RMake_in (i g : Int) (hi : 0 ≤ i ∧ i < 64) (hg : 0 ≤ g ∧ g ≤ 1099511627776) (w : World) :
    Calls Try.prog 39 #[.int .i64 i, .int .i64 g] w fun e w' => e = .returned (.int .i64 (64 * g + i)) ∧ w = w' := by
  go_enter Try.func39, Try.ntmps39
  go_wp2
  go_ret
  exact ⟨ret_int (by omega), rfl⟩
def slotZ (h : Int) : Int := if validB h then h % 64 else -1
def genZ (h : Int) : Int := if validB h then h / 64 else -1
theorem slotZ_yes {h : Int} (k : validB h = true) : slotZ h = h % 64 := by rw [slotZ, if_pos k]
theorem slotZ_no {h : Int} (k : validB h = false) : slotZ h = -1 := by rw [slotZ, if_neg (by rw [k]; simp)]
theorem genZ_yes {h : Int} (k : validB h = true) : genZ h = h / 64 := by rw [genZ, if_pos k]
theorem genZ_no {h : Int} (k : validB h = false) : genZ h = -1 := by rw [genZ, if_neg (by rw [k]; simp)]
set_option maxHeartbeats 400000 in
theorem RSlot_any (h : Int) (w : World) :
    Calls Try.prog 52 #[.int .i64 h] w fun e w' => e = .returned (.int .i64 (slotZ h)) ∧ w = w' := by
  go_enter Try.func52, Try.ntmps52
  go_wp2_with fail
  refine (RValid_any h _).mono ?_
  rintro e w' ⟨rfl, rfl⟩
  rcases hb : validB h with _ | _
  · have HB := Lib.hid hb; clear hb
    go_wp2_with fail
    go_ret
    exact ⟨ret_int (by rw [slotZ_no HB.out]), rfl⟩
  · have HB := Lib.hid hb; clear hb
    have hd : h.tmod 64 = h % 64 := Int.tmod_eq_emod_of_nonneg (validB_yes.1 HB.out).1
    have hr := validB_yes.1 HB.out
    go_wp2_with fail
    go_ret
    exact ⟨ret_int (by rw [slotZ_yes HB.out]), rfl⟩
set_option maxHeartbeats 400000 in
theorem RGeneration_any (h : Int) (w : World) :
    Calls Try.prog 53 #[.int .i64 h] w fun e w' => e = .returned (.int .i64 (genZ h)) ∧ w = w' := by
  go_enter Try.func53, Try.ntmps53
  go_wp2_with fail
  refine (RValid_any h _).mono ?_
  rintro e w' ⟨rfl, rfl⟩
  rcases hb : validB h with _ | _
  · have HB := Lib.hid hb; clear hb
    go_wp2_with fail
    go_ret
    exact ⟨ret_int (by rw [genZ_no HB.out]), rfl⟩
  · have HB := Lib.hid hb; clear hb
    have hd : h.tdiv 64 = h / 64 := Int.tdiv_eq_ediv_of_nonneg (validB_yes.1 HB.out).1
    have hr := validB_yes.1 HB.out
    go_wp2_with fail
    go_ret
    exact ⟨ret_int (by rw [genZ_yes HB.out]), rfl⟩
end Go.Proofs.Ythpofcomlidoiaa
