/- Contracts: the fields of words and handles, the head. -/
import Derived.Test.YtgbjhbokljjekaaJA
namespace Go.Proofs.Ytgbjhbokljjekaa
open Go.RowKit Go.Lib

set_option maxHeartbeats 400000 in
theorem Gen_in (x : Int) (h : 0 ≤ x ∧ x ≤ 70368744177727) (w : World) :
    Calls Try.prog 12 #[.int .i64 x] w fun e w' => e = .returned (.int .i64 (x / 4)) ∧ w = w' := by
  go_enter Try.func12, Try.ntmps12
  go_wp2_with fail
  refine (wgen_in x h _).mono ?_
  rintro e w' ⟨rfl, rfl⟩
  go_wp2_with fail
  go_ret
  exact ⟨rfl, rfl⟩
set_option maxHeartbeats 400000 in
theorem State_in (x : Int) (h : 0 ≤ x ∧ x ≤ 70368744177727) (w : World) :
    Calls Try.prog 14 #[.int .i64 x] w fun e w' => e = .returned (.int .i64 (x % 4)) ∧ w = w' := by
  go_enter Try.func14, Try.ntmps14
  go_wp2_with fail
  refine (wstate_in x h _).mono ?_
  rintro e w' ⟨rfl, rfl⟩
  go_wp2_with fail
  go_ret
  exact ⟨rfl, rfl⟩
def slotZ (h : Int) : Int := if validB h then h % 64 else -1
def genZ (h : Int) : Int := if validB h then h / 64 else -1

theorem slotZ_yes {h : Int} (k : validB h = true) : slotZ h = h % 64 := by rw [slotZ, if_pos k]
theorem slotZ_no {h : Int} (k : validB h = false) : slotZ h = -1 := by rw [slotZ, if_neg (by rw [k]; simp)]
theorem genZ_yes {h : Int} (k : validB h = true) : genZ h = h / 64 := by rw [genZ, if_pos k]
theorem genZ_no {h : Int} (k : validB h = false) : genZ h = -1 := by rw [genZ, if_neg (by rw [k]; simp)]

set_option maxHeartbeats 400000 in
theorem field_slot (h : Int) (w : World) :
    Calls Try.prog 26 #[.int .i64 h, .func (.func 27) #[.int .i64 h] #[]] w fun e w' => e = .returned (.int .i64 (slotZ h)) ∧ w = w' := by
  go_enter Try.func26, Try.ntmps26
  go_wp2_with fail
  refine (Valid_any h _).mono ?_
  rintro e w' ⟨rfl, rfl⟩
  rcases hb : validB h with _ | _
  · have HB := Lib.hid hb; clear hb
    go_wp2_with fail
    go_ret
    exact ⟨ret_int (by rw [slotZ_no HB.out]), rfl⟩
  · have HB := Lib.hid hb; clear hb
    go_wp2_with fail
    refine (hslot_in h (validB_yes.1 HB.out) _).mono ?_
    rintro e w' ⟨rfl, rfl⟩
    go_wp2_with fail
    go_ret
    exact ⟨ret_int (by rw [slotZ_yes HB.out]), rfl⟩
set_option maxHeartbeats 400000 in
theorem Slot_any (h : Int) (w : World) :
    Calls Try.prog 20 #[.int .i64 h] w fun e w' => e = .returned (.int .i64 (slotZ h)) ∧ w = w' := by
  go_enter Try.func20, Try.ntmps20
  go_wp2_with fail
  refine (field_slot h _).mono ?_
  rintro e w' ⟨rfl, rfl⟩
  go_wp2_with fail
  go_ret
  exact ⟨rfl, rfl⟩
set_option maxHeartbeats 400000 in
theorem RSlot_any (h : Int) (w : World) :
    Calls Try.prog 21 #[.int .i64 h] w fun e w' => e = .returned (.int .i64 (slotZ h)) ∧ w = w' := by
  go_enter Try.func21, Try.ntmps21
  go_wp2_with fail
  refine (RValid_any h _).mono ?_
  rintro e w' ⟨rfl, rfl⟩
  rcases hb : validB h with _ | _
  · have HB := Lib.hid hb; clear hb
    go_wp2_with fail
    go_ret
    exact ⟨ret_int (by rw [slotZ_no HB.out]), rfl⟩
  · have HB := Lib.hid hb; clear hb
    have hd : h.tmod 64 = h % 64 := Int.tmod_eq_emod_of_nonneg (validB_yes.1 HB.out).1
    have hr := validB_yes.1 HB.out
    go_wp2_with fail
    go_ret
    exact ⟨ret_int (by rw [slotZ_yes HB.out]), rfl⟩

set_option maxHeartbeats 400000 in
theorem field_generation (h : Int) (w : World) :
    Calls Try.prog 26 #[.int .i64 h, .func (.func 28) #[.int .i64 h] #[]] w fun e w' => e = .returned (.int .i64 (genZ h)) ∧ w = w' := by
  go_enter Try.func26, Try.ntmps26
  go_wp2_with fail
  refine (Valid_any h _).mono ?_
  rintro e w' ⟨rfl, rfl⟩
  rcases hb : validB h with _ | _
  · have HB := Lib.hid hb; clear hb
    go_wp2_with fail
    go_ret
    exact ⟨ret_int (by rw [genZ_no HB.out]), rfl⟩
  · have HB := Lib.hid hb; clear hb
    go_wp2_with fail
    refine (hgen_in h (validB_yes.1 HB.out) _).mono ?_
    rintro e w' ⟨rfl, rfl⟩
    go_wp2_with fail
    go_ret
    exact ⟨ret_int (by rw [genZ_yes HB.out]), rfl⟩
set_option maxHeartbeats 400000 in
theorem Generation_any (h : Int) (w : World) :
    Calls Try.prog 22 #[.int .i64 h] w fun e w' => e = .returned (.int .i64 (genZ h)) ∧ w = w' := by
  go_enter Try.func22, Try.ntmps22
  go_wp2_with fail
  refine (field_generation h _).mono ?_
  rintro e w' ⟨rfl, rfl⟩
  go_wp2_with fail
  go_ret
  exact ⟨rfl, rfl⟩
set_option maxHeartbeats 400000 in
theorem RGeneration_any (h : Int) (w : World) :
    Calls Try.prog 23 #[.int .i64 h] w fun e w' => e = .returned (.int .i64 (genZ h)) ∧ w = w' := by
  go_enter Try.func23, Try.ntmps23
  go_wp2_with fail
  refine (RValid_any h _).mono ?_
  rintro e w' ⟨rfl, rfl⟩
  rcases hb : validB h with _ | _
  · have HB := Lib.hid hb; clear hb
    go_wp2_with fail
    go_ret
    exact ⟨ret_int (by rw [genZ_no HB.out]), rfl⟩
  · have HB := Lib.hid hb; clear hb
    have hd : h.tdiv 64 = h / 64 := Int.tdiv_eq_ediv_of_nonneg (validB_yes.1 HB.out).1
    have hr := validB_yes.1 HB.out
    go_wp2_with fail
    go_ret
    exact ⟨ret_int (by rw [genZ_yes HB.out]), rfl⟩

set_option maxHeartbeats 1000000 in
theorem head_any (w : World) :
    Calls Try.prog 8 #[] w fun e w' => e = .returned (.bool true) ∧ w = w' := by
  have e1 := Word_in 3 1 (by decide) (by decide)
  have e2 := Gen_in 13 (by decide)
  have e3 := State_in 13 (by decide)
  have e4 := Make_in 5 2 (by decide) (by decide)
  have e5 := Slot_any 133
  have e6 := Generation_any 133
  have e7 := Valid_any 0
  have e8 := Valid_any (-1)
  have e9 := Slot_any (-1)
  have e10 := Generation_any (-64)
  rw [show slotZ 133 = 5 from by decide] at e5
  rw [show genZ 133 = 2 from by decide] at e6
  rw [show validB 0 = true from by decide] at e7
  rw [show validB (-1) = false from by decide] at e8
  rw [show slotZ (-1) = -1 from by decide] at e9
  rw [show genZ (-64) = -1 from by decide] at e10
  have E1 := Lib.hid e1; have E2 := Lib.hid e2; have E3 := Lib.hid e3; have E4 := Lib.hid e4; have E5 := Lib.hid e5
  have E6 := Lib.hid e6; have E7 := Lib.hid e7; have E8 := Lib.hid e8; have E9 := Lib.hid e9; have E10 := Lib.hid e10
  clear e1 e2 e3 e4 e5 e6 e7 e8 e9 e10
  go_enter Try.func8, Try.ntmps8
  go_wp2_with fail
  refine (E1.out _).mono ?_
  rintro e w' ⟨rfl, rfl⟩
  go_wp2_with fail
  refine (E2.out _).mono ?_
  rintro e w' ⟨rfl, rfl⟩
  go_wp2_with fail
  refine (E3.out _).mono ?_
  rintro e w' ⟨rfl, rfl⟩
  go_wp2_with fail
  refine (E4.out _).mono ?_
  rintro e w' ⟨rfl, rfl⟩
  go_wp2_with fail
  refine (E5.out _).mono ?_
  rintro e w' ⟨rfl, rfl⟩
  go_wp2_with fail
  refine (E6.out _).mono ?_
  rintro e w' ⟨rfl, rfl⟩
  go_wp2_with fail
  refine (E7.out _).mono ?_
  rintro e w' ⟨rfl, rfl⟩
  go_wp2_with fail
  refine (E8.out _).mono ?_
  rintro e w' ⟨rfl, rfl⟩
  go_wp2_with fail
  refine (E9.out _).mono ?_
  rintro e w' ⟨rfl, rfl⟩
  go_wp2_with fail
  refine (E10.out _).mono ?_
  rintro e w' ⟨rfl, rfl⟩
  go_wp2_with fail
  go_ret
  exact ⟨rfl, rfl⟩
end Go.Proofs.Ytgbjhbokljjekaa
