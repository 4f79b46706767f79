/- HandleRoundTrip and HandleUnpack: the walks. -/
import Derived.Test.YtgbjhbokljjekaaJB
namespace Go.Proofs.Ytgbjhbokljjekaa
open Go.RowKit Go.Lib

set_option maxHeartbeats 1000000 in
theorem RoundTrip_any (x s i : Int) (hx : 0 ≤ x ∧ x < 18446744073709551616) (hs : 0 ≤ s ∧ s < 256) (hi : 0 ≤ i ∧ i < 256) (w : World) :
    Calls Try.prog 4 #[.int .u64 x, .int .u8 s, .int .u8 i] w fun e w' => e = .returned (.bool true) ∧ Upd [] w w' := by
  have d4 : s.tmod 4 = s % 4 := Int.tmod_eq_emod_of_nonneg hs.1
  have d64 : i.tmod 64 = i % 64 := Int.tmod_eq_emod_of_nonneg hi.1
  have EH := Lib.hid head_any
  have EG := Lib.hid (Gen_law x hx)
  obtain ⟨g, hg⟩ : ∃ g, g = x % 1099511627777 := ⟨_, rfl⟩
  rw [← hg] at EG
  have hg2 : 0 ≤ g ∧ g ≤ 1099511627776 := by omega
  clear hg
  obtain ⟨s4, hs4⟩ : ∃ g, g = s % 4 := ⟨_, rfl⟩
  obtain ⟨i6, hi6⟩ : ∃ g, g = i % 64 := ⟨_, rfl⟩
  have hs5 : 0 ≤ s4 ∧ s4 < 4 := by omega
  have hi5 : 0 ≤ i6 ∧ i6 < 64 := by omega
  rw [← hs4] at d4
  rw [← hi6] at d64
  have E1 := Lib.hid (Word_in g s4 hg2 hs5)
  have E2 := Lib.hid (Make_in i6 g hi5 hg2)
  have e3 := Gen_in (4 * g + s4) (by omega)
  have e4 := State_in (4 * g + s4) (by omega)
  have e5 := Valid_any (64 * g + i6)
  have e6 := Slot_any (64 * g + i6)
  have e7 := Generation_any (64 * g + i6)
  have hv : validB (64 * g + i6) = true := validB_yes.2 (by omega)
  rw [hv] at e5
  rw [slotZ_yes hv] at e6
  rw [genZ_yes hv] at e7
  rw [show (4 * g + s4) / 4 = g from by omega] at e3
  rw [show (4 * g + s4) % 4 = s4 from by omega] at e4
  rw [show (64 * g + i6) % 64 = i6 from by omega] at e6
  rw [show (64 * g + i6) / 64 = g from by omega] at e7
  generalize 4 * g + s4 = W at E1 e3 e4
  generalize 64 * g + i6 = H at E2 e5 e6 e7
  have E3 := Lib.hid e3; have E4 := Lib.hid e4; have E5 := Lib.hid e5; have E6 := Lib.hid e6; have E7 := Lib.hid e7
  clear e3 e4 e5 e6 e7 hv hs4 hi6
  go_enter Try.func4, Try.ntmps4
  go_wp2_with fail
  refine (EH.out _).mono ?_
  rintro e w' ⟨rfl, rfl⟩
  go_wp2_with fail
  refine (EG.out _).mono ?_
  rintro e w' ⟨rfl, rfl⟩
  go_wp2_with fail
  refine (E1.out _).mono ?_
  rintro e w' ⟨rfl, rfl⟩
  go_wp2_with fail
  refine (E2.out _).mono ?_
  rintro e w' ⟨rfl, rfl⟩
  go_wp2_with fail
  refine (E3.out _).mono ?_
  rintro e w' ⟨rfl, rfl⟩
  go_wp2_with fail
  refine (E4.out _).mono ?_
  rintro e w' ⟨rfl, rfl⟩
  go_wp2_with fail
  refine (E5.out _).mono ?_
  rintro e w' ⟨rfl, rfl⟩
  go_wp2_with fail
  refine (E6.out _).mono ?_
  rintro e w' ⟨rfl, rfl⟩
  go_wp2_with fail
  refine (E7.out _).mono ?_
  rintro e w' ⟨rfl, rfl⟩
  go_wp2_with fail
  go_ret
  exact ⟨rfl, Upd.refl [] _⟩
end Go.Proofs.Ytgbjhbokljjekaa
