/- Contracts: the program's small tests. -/
import Derived.Test.YthpofcomlidoiaaDB
namespace Go.Proofs.Ythpofcomlidoiaa
open Go.RowKit Go.Lib

def capB (c : Int) : Bool := decide (1 ≤ c ∧ c ≤ 64)
set_option maxHeartbeats 1000000 in
theorem validCapacity_any (c : Int) (w : World) : Calls Try.prog 28 #[.int .i64 c] w fun e w' => e = .returned (.bool (capB c)) ∧ w = w' := by
  by_cases h1 : 1 ≤ c
  · have d1 : decide (1 ≤ c) = true := by simpa using h1
    by_cases h2 : c ≤ 64
    · have d2 : decide (c ≤ 64) = true := by simpa using h2
      go_enter Try.func28, Try.ntmps28
      go_wp2_with fail
      go_ret
      exact ⟨ret_bool (by symm; unfold capB; rw [decide_eq_true_iff]; omega), rfl⟩
    · have d2 : decide (c ≤ 64) = false := by simpa using h2
      go_enter Try.func28, Try.ntmps28
      go_wp2_with fail
      go_ret
      exact ⟨ret_bool (by symm; unfold capB; rw [decide_eq_false_iff_not]; omega), rfl⟩
  · have d1 : decide (1 ≤ c) = false := by simpa using h1
    go_enter Try.func28, Try.ntmps28
    go_wp2_with fail
    go_ret
    exact ⟨ret_bool (by symm; unfold capB; rw [decide_eq_false_iff_not]; omega), rfl⟩
set_option maxHeartbeats 1000000 in
theorem validTime_any (c : Int) (w : World) : Calls Try.prog 33 #[.int .i64 c] w fun e w' => e = .returned (.bool (decide (TimeOk c))) ∧ w = w' := by
  by_cases h1 : 0 ≤ c
  · have d1 : decide (0 ≤ c) = true := by simpa using h1
    by_cases h2 : c ≤ 1152921504606846976
    · have d2 : decide (c ≤ 1152921504606846976) = true := by simpa using h2
      go_enter Try.func33, Try.ntmps33
      go_wp2_with fail
      go_ret
      exact ⟨ret_bool (by symm; rw [decide_eq_true_iff]; unfold TimeOk; omega), rfl⟩
    · have d2 : decide (c ≤ 1152921504606846976) = false := by simpa using h2
      go_enter Try.func33, Try.ntmps33
      go_wp2_with fail
      go_ret
      exact ⟨ret_bool (by symm; rw [decide_eq_false_iff_not]; unfold TimeOk; omega), rfl⟩
  · have d1 : decide (0 ≤ c) = false := by simpa using h1
    go_enter Try.func33, Try.ntmps33
    go_wp2_with fail
    go_ret
    exact ⟨ret_bool (by symm; rw [decide_eq_false_iff_not]; unfold TimeOk; omega), rfl⟩
def liveB (s : Int) : Bool := decide (1 ≤ s ∧ s ≤ 3)
set_option maxHeartbeats 1000000 in
theorem isLive_any (s : Int) (w : World) : Calls Try.prog 42 #[.int .i64 s] w fun e w' => e = .returned (.bool (liveB s)) ∧ w = w' := by
  by_cases h1 : s = 1
  · have d1 : (s == 1) = true := by simpa using h1
    go_enter Try.func42, Try.ntmps42
    go_wp2_with fail
    go_ret
    exact ⟨ret_bool (by symm; unfold liveB; rw [decide_eq_true_iff]; omega), rfl⟩
  · have d1 : (s == 1) = false := by simpa using h1
    by_cases h2 : s = 2
    · have d2 : (s == 2) = true := by simpa using h2
      go_enter Try.func42, Try.ntmps42
      go_wp2_with fail
      go_ret
      exact ⟨ret_bool (by symm; unfold liveB; rw [decide_eq_true_iff]; omega), rfl⟩
    · have d2 : (s == 2) = false := by simpa using h2
      by_cases h3 : s = 3
      · have d3 : (s == 3) = true := by simpa using h3
        go_enter Try.func42, Try.ntmps42
        go_wp2_with fail
        go_ret
        exact ⟨ret_bool (by symm; unfold liveB; rw [decide_eq_true_iff]; omega), rfl⟩
      · have d3 : (s == 3) = false := by simpa using h3
        go_enter Try.func42, Try.ntmps42
        go_wp2_with fail
        go_ret
        exact ⟨ret_bool (by symm; unfold liveB; rw [decide_eq_false_iff_not]; omega), rfl⟩
def idxB (n : Nat) (i : Int) : Bool := decide (0 ≤ i ∧ i < (n : Int))
set_option maxHeartbeats 1000000 in
theorem isIndex_any (sa ia : Option Addr) (n sc ni ic : Nat) (nx i : Int) (w : World) : Calls Try.prog 47 #[.agg #[.slice sa n sc, .slice ia ni ic, .int .i64 nx], .int .i64 i] w fun e w' => e = .returned (.bool (idxB n i)) ∧ Grown w w' := by
  by_cases h1 : 0 ≤ i
  · have d1 : decide (0 ≤ i) = true := by simpa using h1
    by_cases h2 : i < (n : Int)
    · have d2 : decide (i < (n : Int)) = true := by simpa using h2
      go_enter Try.func47, Try.ntmps47
      go_wp2_with fail
      go_ret
      exact ⟨ret_bool (by symm; unfold idxB; rw [decide_eq_true_iff]; omega), (Grown.refl _).alloc _⟩
    · have d2 : decide (i < (n : Int)) = false := by simpa using h2
      go_enter Try.func47, Try.ntmps47
      go_wp2_with fail
      go_ret
      exact ⟨ret_bool (by symm; unfold idxB; rw [decide_eq_false_iff_not]; omega), (Grown.refl _).alloc _⟩
  · have d1 : decide (0 ≤ i) = false := by simpa using h1
    go_enter Try.func47, Try.ntmps47
    go_wp2_with fail
    go_ret
    exact ⟨ret_bool (by symm; unfold idxB; rw [decide_eq_false_iff_not]; omega), (Grown.refl _).alloc _⟩
set_option maxHeartbeats 4000000 in
theorem validSlot_any (g s t q nx : Int) (w : World) :
    Calls Try.prog 45 #[.agg #[.int .i64 g, .int .i64 s, .int .i64 t, .int .i64 q], .int .i64 nx] w fun e w' => e = .returned (.bool (slotA ⟨g, s, t, q⟩ nx)) ∧ Grown w w' := by
  obtain ⟨r, hr⟩ : ∃ r, r = slotA ⟨g, s, t, q⟩ nx := ⟨_, rfl⟩
  rw [← hr]
  have HR := Lib.hid hr
  clear hr
  have HL := Lib.hid (isLive_any s)
  have HT := Lib.hid (validTime_any t)
  by_cases h1 : g < 0
  · have dh1 : decide (g < 0) = true := by simpa using h1
    go_enter Try.func45, Try.ntmps45
    go_wp2_with fail
    go_ret
    exact ⟨ret_bool (by rw [HR.out]; exact (slotA_no (by simp only [SlotOk]; omega)).symm), (Grown.refl _).alloc _⟩
  · have dh1 : decide (g < 0) = false := by simpa using h1
    by_cases h2 : 1099511627776 < g
    · have dh2 : decide (1099511627776 < g) = true := by simpa using h2
      go_enter Try.func45, Try.ntmps45
      go_wp2_with fail
      go_ret
      exact ⟨ret_bool (by rw [HR.out]; exact (slotA_no (by simp only [SlotOk]; omega)).symm), (Grown.refl _).alloc _⟩
    · have dh2 : decide (1099511627776 < g) = false := by simpa using h2
      by_cases h5 : s = 0
      · have dh5 : (s == 0) = true := by simpa using h5
        by_cases h6 : t = 0
        · have dh6 : (t == 0) = true := by simpa using h6
          by_cases h7 : q = 0
          · have dh7 : (q == 0) = true := by simpa using h7
            go_enter Try.func45, Try.ntmps45
            go_wp2_with fail
            go_ret
            exact ⟨ret_bool (by rw [HR.out]; exact (slotA_yes (by simp only [SlotOk]; omega)).symm), (Grown.refl _).alloc _⟩
          · have dh7 : (q == 0) = false := by simpa using h7
            go_enter Try.func45, Try.ntmps45
            go_wp2_with fail
            go_ret
            exact ⟨ret_bool (by rw [HR.out]; exact (slotA_no (by simp only [SlotOk]; omega)).symm), (Grown.refl _).alloc _⟩
        · have dh6 : (t == 0) = false := by simpa using h6
          go_enter Try.func45, Try.ntmps45
          go_wp2_with fail
          go_ret
          exact ⟨ret_bool (by rw [HR.out]; exact (slotA_no (by simp only [SlotOk]; omega)).symm), (Grown.refl _).alloc _⟩
      · have dh5 : (s == 0) = false := by simpa using h5
        by_cases h3 : 1 ≤ s ∧ s ≤ 3
        · have e3 : liveB s = true := by unfold liveB; rw [decide_eq_true_iff]; exact h3
          rw [e3] at HL
          by_cases h4 : 0 ≤ t ∧ t ≤ 1152921504606846976
          · have e4 : decide (TimeOk t) = true := by rw [decide_eq_true_iff]; exact h4
            rw [e4] at HT
            by_cases h10 : 0 ≤ q
            · have dh10 : decide (0 ≤ q) = true := by simpa using h10
              by_cases h11 : q < nx
              · have dh11 : decide (q < nx) = true := by simpa using h11
                go_enter Try.func45, Try.ntmps45
                go_wp2_with fail
                refine (HL.out _).mono ?_
                rintro e w' ⟨rfl, rfl⟩
                go_wp2_with fail
                refine (HT.out _).mono ?_
                rintro e w' ⟨rfl, rfl⟩
                go_wp2_with fail
                go_ret
                exact ⟨ret_bool (by rw [HR.out]; exact (slotA_yes (by simp only [SlotOk]; omega)).symm), (Grown.refl _).alloc _⟩
              · have dh11 : decide (q < nx) = false := by simpa using h11
                go_enter Try.func45, Try.ntmps45
                go_wp2_with fail
                refine (HL.out _).mono ?_
                rintro e w' ⟨rfl, rfl⟩
                go_wp2_with fail
                refine (HT.out _).mono ?_
                rintro e w' ⟨rfl, rfl⟩
                go_wp2_with fail
                go_ret
                exact ⟨ret_bool (by rw [HR.out]; exact (slotA_no (by simp only [SlotOk]; omega)).symm), (Grown.refl _).alloc _⟩
            · have dh10 : decide (0 ≤ q) = false := by simpa using h10
              go_enter Try.func45, Try.ntmps45
              go_wp2_with fail
              refine (HL.out _).mono ?_
              rintro e w' ⟨rfl, rfl⟩
              go_wp2_with fail
              refine (HT.out _).mono ?_
              rintro e w' ⟨rfl, rfl⟩
              go_wp2_with fail
              go_ret
              exact ⟨ret_bool (by rw [HR.out]; exact (slotA_no (by simp only [SlotOk]; omega)).symm), (Grown.refl _).alloc _⟩
          · have e4 : decide (TimeOk t) = false := by rw [decide_eq_false_iff_not]; exact h4
            rw [e4] at HT
            go_enter Try.func45, Try.ntmps45
            go_wp2_with fail
            refine (HL.out _).mono ?_
            rintro e w' ⟨rfl, rfl⟩
            go_wp2_with fail
            refine (HT.out _).mono ?_
            rintro e w' ⟨rfl, rfl⟩
            go_wp2_with fail
            go_ret
            exact ⟨ret_bool (by rw [HR.out]; exact (slotA_no (by simp only [SlotOk]; omega)).symm), (Grown.refl _).alloc _⟩
        · have e3 : liveB s = false := by unfold liveB; rw [decide_eq_false_iff_not]; exact h3
          rw [e3] at HL
          go_enter Try.func45, Try.ntmps45
          go_wp2_with fail
          refine (HL.out _).mono ?_
          rintro e w' ⟨rfl, rfl⟩
          go_wp2_with fail
          go_ret
          exact ⟨ret_bool (by rw [HR.out]; exact (slotA_no (by simp only [SlotOk]; omega)).symm), (Grown.refl _).alloc _⟩
end Go.Proofs.Ythpofcomlidoiaa
