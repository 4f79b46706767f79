/- HandleUnpack: the walk. -/
import Derived.Test.YtgbjhbokljjekaaJB
namespace Go.Proofs.Ytgbjhbokljjekaa
open Go.RowKit Go.Lib

set_option maxHeartbeats 1000000 in
theorem Unpack_yes (h : Int) (hv : validB h = true) (w : World) :
    Calls Try.prog 5 #[.int .i64 h] w fun e w' => e = .returned (.bool true) ∧ Upd [] w w' := by
  have hr := validB_yes.1 hv
  have EH := Lib.hid head_any
  have e1 := Slot_any h
  have e2 := Generation_any h
  have e3 := Valid_any h
  rw [slotZ_yes hv] at e1
  rw [genZ_yes hv] at e2
  rw [hv] at e3
  obtain ⟨s, hs⟩ : ∃ s, s = h % 64 := ⟨_, rfl⟩
  obtain ⟨g, hg⟩ : ∃ s, s = h / 64 := ⟨_, rfl⟩
  rw [← hs] at e1
  rw [← hg] at e2
  have s0 : decide (0 ≤ s) = true := by simp; omega
  have s1 : decide (s < 64) = true := by simp; omega
  have g0 : decide (0 ≤ g) = true := by simp; omega
  have g1 : decide (g ≤ 1099511627776) = true := by simp; omega
  have e4 := Make_in s g (by omega) (by omega)
  rw [show 64 * g + s = h from by omega] at e4
  have E1 := Lib.hid e1; have E2 := Lib.hid e2; have E3 := Lib.hid e3; have E4 := Lib.hid e4
  clear e1 e2 e3 e4 hs hg hv
  go_enter Try.func5, Try.ntmps5
  go_wp2_with fail
  refine (EH.out _).mono ?_
  rintro e w' ⟨rfl, rfl⟩
  go_wp2_with fail
  refine (E1.out _).mono ?_
  rintro e w' ⟨rfl, rfl⟩
  go_wp2_with fail
  refine (E2.out _).mono ?_
  rintro e w' ⟨rfl, rfl⟩
  go_wp2_with fail
  refine (E3.out _).mono ?_
  rintro e w' ⟨rfl, rfl⟩
  go_wp2_with fail
  refine (E4.out _).mono ?_
  rintro e w' ⟨rfl, rfl⟩
  go_wp2_with fail
  go_ret
  exact ⟨rfl, Upd.refl [] _⟩

set_option maxHeartbeats 1000000 in
theorem Unpack_no (h : Int) (hv : validB h = false) (w : World) :
    Calls Try.prog 5 #[.int .i64 h] w fun e w' => e = .returned (.bool true) ∧ Upd [] w w' := by
  have hr := validB_no.1 hv
  have EH := Lib.hid head_any
  have e1 := Slot_any h
  have e2 := Generation_any h
  have e3 := Valid_any h
  rw [slotZ_no hv] at e1
  rw [genZ_no hv] at e2
  rw [hv] at e3
  have E1 := Lib.hid e1; have E2 := Lib.hid e2; have E3 := Lib.hid e3
  clear e1 e2 e3 hv
  by_cases h0 : h < 0
  · have d0 : decide (h < 0) = true := by simpa using h0
    clear hr
    go_enter Try.func5, Try.ntmps5
    go_wp2_with fail
    refine (EH.out _).mono ?_
    rintro e w' ⟨rfl, rfl⟩
    go_wp2_with fail
    refine (E1.out _).mono ?_
    rintro e w' ⟨rfl, rfl⟩
    go_wp2_with fail
    refine (E2.out _).mono ?_
    rintro e w' ⟨rfl, rfl⟩
    go_wp2_with fail
    refine (E3.out _).mono ?_
    rintro e w' ⟨rfl, rfl⟩
    go_wp2_with fail
    go_ret
    exact ⟨rfl, Upd.refl [] _⟩
  · have d0 : decide (h < 0) = false := by simpa using h0
    have d1 : decide (70368744177727 < h) = true := by simp; omega
    clear hr
    go_enter Try.func5, Try.ntmps5
    go_wp2_with fail
    refine (EH.out _).mono ?_
    rintro e w' ⟨rfl, rfl⟩
    go_wp2_with fail
    refine (E1.out _).mono ?_
    rintro e w' ⟨rfl, rfl⟩
    go_wp2_with fail
    refine (E2.out _).mono ?_
    rintro e w' ⟨rfl, rfl⟩
    go_wp2_with fail
    refine (E3.out _).mono ?_
    rintro e w' ⟨rfl, rfl⟩
    go_wp2_with fail
    go_ret
    exact ⟨rfl, Upd.refl [] _⟩
theorem Unpack_any (h : Int) (w : World) :
    Calls Try.prog 5 #[.int .i64 h] w fun e w' => e = .returned (.bool true) ∧ Upd [] w w' := by
  rcases hv : validB h with _ | _
  · exact Unpack_no h hv w
  · exact Unpack_yes h hv w
end Go.Proofs.Ytgbjhbokljjekaa
