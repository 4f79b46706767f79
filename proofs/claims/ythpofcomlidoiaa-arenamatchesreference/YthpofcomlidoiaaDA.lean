/- Contracts: the program's handles. -/
import Derived.Test.YthpofcomlidoiaaCH
import Derived.Lib.Walk
import Derived.Lib.SliceRun
namespace Go.Proofs.Ythpofcomlidoiaa
open Go.RowKit Go.Lib

set_option maxHeartbeats 400000 in
theorem Make_in (i g : Int) (hi : 0 ≤ i ∧ i < 64) (hg : 0 ≤ g ∧ g ≤ 1099511627776) (w : World) :
    Calls Try.prog 37 #[.int .i64 i, .int .i64 g] w fun e w' => e = .returned (.int .i64 (64 * g + i)) ∧ w = w' := by
  go_enter Try.func37, Try.ntmps37
  go_wp2
  go_ret
  exact ⟨ret_int (by omega), rfl⟩
set_option maxHeartbeats 400000 in
theorem hgen_in (x : Int) (h : 0 ≤ x ∧ x ≤ 70368744177727) (w : World) :
    Calls Try.prog 56 #[.int .i64 x] w fun e w' => e = .returned (.int .i64 (x / 64)) ∧ w = w' := by
  have hd : x.tdiv 64 = x / 64 := Int.tdiv_eq_ediv_of_nonneg h.1
  go_enter Try.func56, Try.ntmps56
  go_wp2
  go_ret
  exact ⟨ret_int (by omega), rfl⟩
set_option maxHeartbeats 400000 in
theorem hslot_in (x : Int) (h : 0 ≤ x ∧ x ≤ 70368744177727) (w : World) :
    Calls Try.prog 55 #[.int .i64 x] w fun e w' => e = .returned (.int .i64 (x % 64)) ∧ w = w' := by
  have hd : x.tmod 64 = x % 64 := Int.tmod_eq_emod_of_nonneg h.1
  go_enter Try.func55, Try.ntmps55
  go_wp2
  go_ret
  exact ⟨ret_int (by omega), rfl⟩
set_option maxHeartbeats 400000 in
theorem Valid_any (h : Int) (w : World) :
    Calls Try.prog 58 #[.int .i64 h] w fun e w' => e = .returned (.bool (validB h)) ∧ w = w' := by
  by_cases h0 : 0 ≤ h
  · have d0 : decide (0 ≤ h) = true := by simpa using h0
    by_cases h1 : h ≤ 70368744177727
    · have d1 : decide (h ≤ 70368744177727) = true := by simpa using h1
      go_enter Try.func58, Try.ntmps58
      go_wp2
      go_ret
      exact ⟨ret_bool (by simp [validB, h0, h1]), rfl⟩
    · have d1 : decide (h ≤ 70368744177727) = false := by simpa using h1
      go_enter Try.func58, Try.ntmps58
      go_wp2
      go_ret
      exact ⟨ret_bool (by simp [validB, h1]), rfl⟩
  · have d0 : decide (0 ≤ h) = false := by simpa using h0
    go_enter Try.func58, Try.ntmps58
    go_wp2
    go_ret
    exact ⟨ret_bool (by rw [validB, d0]; rfl), rfl⟩
set_option maxHeartbeats 400000 in
theorem field_slot (h : Int) (w : World) :
    Calls Try.prog 54 #[.int .i64 h, .func (.func 55) #[.int .i64 h] #[]] w fun e w' => e = .returned (.int .i64 (slotZ h)) ∧ w = w' := by
  go_enter Try.func54, Try.ntmps54
  go_wp2_with fail
  refine (Valid_any h _).mono ?_
  rintro e w' ⟨rfl, rfl⟩
  rcases hb : validB h with _ | _
  · have HB := Lib.hid hb; clear hb
    go_wp2_with fail
    go_ret
    exact ⟨ret_int (by rw [slotZ_no HB.out]), rfl⟩
  · have HB := Lib.hid hb; clear hb
    go_wp2_with fail
    refine (hslot_in h (validB_yes.1 HB.out) _).mono ?_
    rintro e w' ⟨rfl, rfl⟩
    go_wp2_with fail
    go_ret
    exact ⟨ret_int (by rw [slotZ_yes HB.out]), rfl⟩
set_option maxHeartbeats 400000 in
theorem Slot_any (h : Int) (w : World) :
    Calls Try.prog 50 #[.int .i64 h] w fun e w' => e = .returned (.int .i64 (slotZ h)) ∧ w = w' := by
  go_enter Try.func50, Try.ntmps50
  go_wp2_with fail
  refine (field_slot h _).mono ?_
  rintro e w' ⟨rfl, rfl⟩
  go_wp2_with fail
  go_ret
  exact ⟨rfl, rfl⟩
set_option maxHeartbeats 400000 in
theorem field_generation (h : Int) (w : World) :
    Calls Try.prog 54 #[.int .i64 h, .func (.func 56) #[.int .i64 h] #[]] w fun e w' => e = .returned (.int .i64 (genZ h)) ∧ w = w' := by
  go_enter Try.func54, Try.ntmps54
  go_wp2_with fail
  refine (Valid_any h _).mono ?_
  rintro e w' ⟨rfl, rfl⟩
  rcases hb : validB h with _ | _
  · have HB := Lib.hid hb; clear hb
    go_wp2_with fail
    go_ret
    exact ⟨ret_int (by rw [genZ_no HB.out]), rfl⟩
  · have HB := Lib.hid hb; clear hb
    go_wp2_with fail
    refine (hgen_in h (validB_yes.1 HB.out) _).mono ?_
    rintro e w' ⟨rfl, rfl⟩
    go_wp2_with fail
    go_ret
    exact ⟨ret_int (by rw [genZ_yes HB.out]), rfl⟩
set_option maxHeartbeats 400000 in
theorem Generation_any (h : Int) (w : World) :
    Calls Try.prog 51 #[.int .i64 h] w fun e w' => e = .returned (.int .i64 (genZ h)) ∧ w = w' := by
  go_enter Try.func51, Try.ntmps51
  go_wp2_with fail
  refine (field_generation h _).mono ?_
  rintro e w' ⟨rfl, rfl⟩
  go_wp2_with fail
  go_ret
  exact ⟨rfl, rfl⟩
end Go.Proofs.Ythpofcomlidoiaa
