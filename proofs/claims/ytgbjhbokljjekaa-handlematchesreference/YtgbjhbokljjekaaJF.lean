/- HandleMatchesReference: the walk. -/
import Derived.Test.YtgbjhbokljjekaaJB
namespace Go.Proofs.Ytgbjhbokljjekaa
open Go.RowKit Go.Lib

set_option maxHeartbeats 2000000 in
theorem Matches_any (a x y h : Int) (ha : 0 ≤ a ∧ a < 18446744073709551616) (hx : 0 ≤ x ∧ x < 256) (hy : 0 ≤ y ∧ y < 256) (w : World) :
    Calls Try.prog 3 #[.int .u64 a, .int .u8 x, .int .u8 y, .int .i64 h] w fun e w' => e = .returned (.bool true) ∧ Upd [] w w' := by
  have d4 : x.tmod 4 = x % 4 := Int.tmod_eq_emod_of_nonneg hx.1
  have d64 : y.tmod 64 = y % 64 := Int.tmod_eq_emod_of_nonneg hy.1
  have EH := Lib.hid head_any
  have EG := Lib.hid (Gen_law a ha)
  obtain ⟨g, hg⟩ : ∃ g, g = a % 1099511627777 := ⟨_, rfl⟩
  rw [← hg] at EG
  have hg2 : 0 ≤ g ∧ g ≤ 1099511627776 := by omega
  clear hg
  obtain ⟨s, hs⟩ : ∃ g, g = x % 4 := ⟨_, rfl⟩
  obtain ⟨i, hi⟩ : ∃ g, g = y % 64 := ⟨_, rfl⟩
  have hs5 : 0 ≤ s ∧ s < 4 := by omega
  have hi5 : 0 ≤ i ∧ i < 64 := by omega
  rw [← hs] at d4
  rw [← hi] at d64
  clear hs hi
  have e1 := RWord_in g s hg2 hs5
  have e2 := Word_in g s hg2 hs5
  have e3 := Gen_in (4 * g + s) (by omega)
  have e4 := RGen_in (4 * g + s) (by omega)
  have e5 := State_in (4 * g + s) (by omega)
  have e6 := RState_in (4 * g + s) (by omega)
  have e7 := Make_in i g hi5 hg2
  have e8 := RMake_in i g hi5 hg2
  have e9 := Valid_any h
  have e10 := RValid_any h
  have e11 := Slot_any h
  have e12 := RSlot_any h
  have e13 := Generation_any h
  have e14 := RGeneration_any h
  generalize 4 * g + s = W at *
  generalize W / 4 = W1 at *
  generalize W % 4 = W2 at *
  generalize 64 * g + i = H at *
  generalize validB h = V at *
  generalize slotZ h = Z1 at *
  generalize genZ h = Z2 at *
  have E1 := Lib.hid e1; have E2 := Lib.hid e2; have E3 := Lib.hid e3; have E4 := Lib.hid e4; have E5 := Lib.hid e5
  have E6 := Lib.hid e6; have E7 := Lib.hid e7; have E8 := Lib.hid e8; have E9 := Lib.hid e9; have E10 := Lib.hid e10
  have E11 := Lib.hid e11; have E12 := Lib.hid e12; have E13 := Lib.hid e13; have E14 := Lib.hid e14
  clear e1 e2 e3 e4 e5 e6 e7 e8 e9 e10 e11 e12 e13 e14 hg2 hs5 hi5
  go_enter Try.func3, Try.ntmps3
  go_wp2_with fail
  refine (EH.out _).mono ?_
  rintro e w' ⟨rfl, rfl⟩
  go_wp2_with fail
  refine (EG.out _).mono ?_
  rintro e w' ⟨rfl, rfl⟩
  go_wp2_with fail
  refine (E1.out _).mono ?_
  rintro e w' ⟨rfl, rfl⟩
  go_wp2_with fail
  refine (E2.out _).mono ?_
  rintro e w' ⟨rfl, rfl⟩
  go_wp2_with fail
  refine (E3.out _).mono ?_
  rintro e w' ⟨rfl, rfl⟩
  go_wp2_with fail
  refine (E4.out _).mono ?_
  rintro e w' ⟨rfl, rfl⟩
  go_wp2_with fail
  refine (E5.out _).mono ?_
  rintro e w' ⟨rfl, rfl⟩
  go_wp2_with fail
  refine (E6.out _).mono ?_
  rintro e w' ⟨rfl, rfl⟩
  go_wp2_with fail
  refine (E7.out _).mono ?_
  rintro e w' ⟨rfl, rfl⟩
  go_wp2_with fail
  refine (E8.out _).mono ?_
  rintro e w' ⟨rfl, rfl⟩
  go_wp2_with fail
  refine (E9.out _).mono ?_
  rintro e w' ⟨rfl, rfl⟩
  go_wp2_with fail
  refine (E10.out _).mono ?_
  rintro e w' ⟨rfl, rfl⟩
  go_wp2_with fail
  refine (E11.out _).mono ?_
  rintro e w' ⟨rfl, rfl⟩
  go_wp2_with fail
  refine (E12.out _).mono ?_
  rintro e w' ⟨rfl, rfl⟩
  go_wp2_with fail
  refine (E13.out _).mono ?_
  rintro e w' ⟨rfl, rfl⟩
  go_wp2_with fail
  refine (E14.out _).mono ?_
  rintro e w' ⟨rfl, rfl⟩
  go_wp2_with fail
  go_ret
  exact ⟨rfl, Upd.refl [] _⟩
end Go.Proofs.Ytgbjhbokljjekaa
