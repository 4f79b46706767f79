/- Contracts: packed words and handles, the program's and the reference's. -/
import Derived.Test.YtgbjhbokljjekaaF
import Derived.Lib.Hide
namespace Go.Proofs.Ytgbjhbokljjekaa
open Go.RowKit Go.Lib

theorem ret_int {a b : Int} (h : a = b) : Ending.returned (.int .i64 a) = .returned (.int .i64 b) := by rw [h]
theorem ret_bool {a b : Bool} (h : a = b) : Ending.returned (.bool a) = .returned (.bool b) := by rw [h]

set_option maxHeartbeats 400000 in
theorem Gen_law (x : Int) (h : 0 ≤ x ∧ x < 18446744073709551616) (w : World) :
    Calls Try.prog 9 #[.int .u64 x] w fun e w' => e = .returned (.int .i64 (x % 1099511627777)) ∧ w = w' := by
  obtain ⟨h0, h1⟩ := h
  go_enter Try.func9, Try.ntmps9
  go_wp2
  go_ret
  exact ⟨ret_int (by omega), rfl⟩

set_option maxHeartbeats 400000 in
theorem Word_in (g s : Int) (hg : 0 ≤ g ∧ g ≤ 1099511627776) (hs : 0 ≤ s ∧ s < 4) (w : World) :
    Calls Try.prog 11 #[.int .i64 g, .int .i64 s] w fun e w' => e = .returned (.int .i64 (4 * g + s)) ∧ w = w' := by
  go_enter Try.func11, Try.ntmps11
  go_wp2
  go_ret
  exact ⟨ret_int (by omega), rfl⟩
set_option maxHeartbeats 400000 in
theorem RWord_in (g s : Int) (hg : 0 ≤ g ∧ g ≤ 1099511627776) (hs : 0 ≤ s ∧ s < 4) (w : World) :
    Calls Try.prog 10 #[.int .i64 g, .int .i64 s] w fun e w' => e = .returned (.int .i64 (4 * g + s)) ∧ w = w' := by
  go_enter Try.func10, Try.ntmps10
  go_wp2
  go_ret
  exact ⟨ret_int (by omega), rfl⟩
set_option maxHeartbeats 400000 in
theorem Make_in (i g : Int) (hi : 0 ≤ i ∧ i < 64) (hg : 0 ≤ g ∧ g ≤ 1099511627776) (w : World) :
    Calls Try.prog 16 #[.int .i64 i, .int .i64 g] w fun e w' => e = .returned (.int .i64 (64 * g + i)) ∧ w = w' := by
  go_enter Try.func16, Try.ntmps16
  go_wp2
  go_ret
  exact ⟨ret_int (by omega), rfl⟩
set_option maxHeartbeats 400000 in
theorem RMake_in (i g : Int) (hi : 0 ≤ i ∧ i < 64) (hg : 0 ≤ g ∧ g ≤ 1099511627776) (w : World) :
    Calls Try.prog 17 #[.int .i64 i, .int .i64 g] w fun e w' => e = .returned (.int .i64 (64 * g + i)) ∧ w = w' := by
  go_enter Try.func17, Try.ntmps17
  go_wp2
  go_ret
  exact ⟨ret_int (by omega), rfl⟩
set_option maxHeartbeats 400000 in
theorem wgen_in (x : Int) (h : 0 ≤ x ∧ x ≤ 70368744177727) (w : World) :
    Calls Try.prog 24 #[.int .i64 x] w fun e w' => e = .returned (.int .i64 (x / 4)) ∧ w = w' := by
  have hd : x.tdiv 4 = x / 4 := Int.tdiv_eq_ediv_of_nonneg h.1
  go_enter Try.func24, Try.ntmps24
  go_wp2
  go_ret
  exact ⟨ret_int (by omega), rfl⟩
set_option maxHeartbeats 400000 in
theorem wstate_in (x : Int) (h : 0 ≤ x ∧ x ≤ 70368744177727) (w : World) :
    Calls Try.prog 25 #[.int .i64 x] w fun e w' => e = .returned (.int .i64 (x % 4)) ∧ w = w' := by
  have hd : x.tmod 4 = x % 4 := Int.tmod_eq_emod_of_nonneg h.1
  go_enter Try.func25, Try.ntmps25
  go_wp2
  go_ret
  exact ⟨ret_int (by omega), rfl⟩
set_option maxHeartbeats 400000 in
theorem hgen_in (x : Int) (h : 0 ≤ x ∧ x ≤ 70368744177727) (w : World) :
    Calls Try.prog 28 #[.int .i64 x] w fun e w' => e = .returned (.int .i64 (x / 64)) ∧ w = w' := by
  have hd : x.tdiv 64 = x / 64 := Int.tdiv_eq_ediv_of_nonneg h.1
  go_enter Try.func28, Try.ntmps28
  go_wp2
  go_ret
  exact ⟨ret_int (by omega), rfl⟩
set_option maxHeartbeats 400000 in
theorem hslot_in (x : Int) (h : 0 ≤ x ∧ x ≤ 70368744177727) (w : World) :
    Calls Try.prog 27 #[.int .i64 x] w fun e w' => e = .returned (.int .i64 (x % 64)) ∧ w = w' := by
  have hd : x.tmod 64 = x % 64 := Int.tmod_eq_emod_of_nonneg h.1
  go_enter Try.func27, Try.ntmps27
  go_wp2
  go_ret
  exact ⟨ret_int (by omega), rfl⟩
set_option maxHeartbeats 400000 in
theorem RGen_in (x : Int) (h : 0 ≤ x ∧ x ≤ 70368744177727) (w : World) :
    Calls Try.prog 13 #[.int .i64 x] w fun e w' => e = .returned (.int .i64 (x / 4)) ∧ w = w' := by
  have hd : x.tdiv 4 = x / 4 := Int.tdiv_eq_ediv_of_nonneg h.1
  go_enter Try.func13, Try.ntmps13
  go_wp2
  go_ret
  exact ⟨ret_int (by omega), rfl⟩
set_option maxHeartbeats 400000 in
theorem RState_in (x : Int) (h : 0 ≤ x ∧ x ≤ 70368744177727) (w : World) :
    Calls Try.prog 15 #[.int .i64 x] w fun e w' => e = .returned (.int .i64 (x % 4)) ∧ w = w' := by
  have hd : x.tmod 4 = x % 4 := Int.tmod_eq_emod_of_nonneg h.1
  go_enter Try.func15, Try.ntmps15
  go_wp2
  go_ret
  exact ⟨ret_int (by omega), rfl⟩

def validB (h : Int) : Bool := decide (0 ≤ h) && decide (h ≤ 70368744177727)
theorem validB_yes {h : Int} : validB h = true ↔ 0 ≤ h ∧ h ≤ 70368744177727 := by simp [validB]
theorem validB_no {h : Int} : validB h = false ↔ ¬ (0 ≤ h ∧ h ≤ 70368744177727) := by rw [← validB_yes]; simp
set_option maxHeartbeats 400000 in
theorem Valid_any (h : Int) (w : World) :
    Calls Try.prog 18 #[.int .i64 h] w fun e w' => e = .returned (.bool (validB h)) ∧ w = w' := by
  by_cases h0 : 0 ≤ h
  · have d0 : decide (0 ≤ h) = true := by simpa using h0
    by_cases h1 : h ≤ 70368744177727
    · have d1 : decide (h ≤ 70368744177727) = true := by simpa using h1
      go_enter Try.func18, Try.ntmps18
      go_wp2
      go_ret
      exact ⟨ret_bool (by simp [validB, h0, h1]), rfl⟩
    · have d1 : decide (h ≤ 70368744177727) = false := by simpa using h1
      go_enter Try.func18, Try.ntmps18
      go_wp2
      go_ret
      exact ⟨ret_bool (by simp [validB, h1]), rfl⟩
  · have d0 : decide (0 ≤ h) = false := by simpa using h0
    go_enter Try.func18, Try.ntmps18
    go_wp2
    go_ret
    exact ⟨ret_bool (by rw [validB, d0]; rfl), rfl⟩
set_option maxHeartbeats 400000 in
theorem RValid_any (h : Int) (w : World) :
    Calls Try.prog 19 #[.int .i64 h] w fun e w' => e = .returned (.bool (validB h)) ∧ w = w' := by
  by_cases h0 : 0 ≤ h
  · have d0 : decide (0 ≤ h) = true := by simpa using h0
    by_cases h1 : h ≤ 70368744177727
    · have d1 : decide (h ≤ 70368744177727) = true := by simpa using h1
      go_enter Try.func19, Try.ntmps19
      go_wp2
      go_ret
      exact ⟨ret_bool (by simp [validB, h0, h1]), rfl⟩
    · have d1 : decide (h ≤ 70368744177727) = false := by simpa using h1
      go_enter Try.func19, Try.ntmps19
      go_wp2
      go_ret
      exact ⟨ret_bool (by simp [validB, h1]), rfl⟩
  · have d0 : decide (0 ≤ h) = false := by simpa using h0
    go_enter Try.func19, Try.ntmps19
    go_wp2
    go_ret
    exact ⟨ret_bool (by rw [validB, d0]; rfl), rfl⟩
end Go.Proofs.Ytgbjhbokljjekaa
