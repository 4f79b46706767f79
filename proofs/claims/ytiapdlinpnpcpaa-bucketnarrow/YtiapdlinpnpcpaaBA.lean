/- Contracts: buckets of equal width, the program's and the reference's. -/
import Derived.Test.YtiapdlinpnpcpaaF
import Derived.Lib.Hide
import Derived.BigQuiet
namespace Go.Proofs.Ytiapdlinpnpcpaa
open Go.RowKit Go.Lib

theorem ret_int {a b : Int} (h : a = b) : Ending.returned (.int .i64 a) = .returned (.int .i64 b) := by rw [h]

set_option maxHeartbeats 400000 in
theorem Time_law (x : Int) (h : 0 ≤ x ∧ x < 18446744073709551616) (w : World) :
    Calls Try.prog 9 #[.int .u64 x] w fun e w' => e = .returned (.int .i64 (x % 1152921504606846977)) ∧ w = w' := by
  obtain ⟨h0, h1⟩ := h
  go_enter Try.func9, Try.ntmps9
  go_wp2
  go_ret
  exact ⟨ret_int (by omega), rfl⟩
set_option maxHeartbeats 400000 in
theorem Span_law (x : Int) (h : 0 ≤ x ∧ x < 18446744073709551616) (w : World) :
    Calls Try.prog 10 #[.int .u64 x] w fun e w' => e = .returned (.int .i64 (x % 144115188075855873 + 1)) ∧ w = w' := by
  obtain ⟨h0, h1⟩ := h
  go_enter Try.func10, Try.ntmps10
  go_wp2
  go_ret
  exact ⟨ret_int (by omega), rfl⟩

theorem div_bd {a b : Int} (ha : 0 ≤ a) (hb : 1 ≤ b) : 0 ≤ a / b ∧ a / b ≤ a :=
  ⟨Int.ediv_nonneg ha (by omega), Int.ediv_le_self _ ha⟩
theorem mod_bd {a b : Int} (hb : 1 ≤ b) : 0 ≤ a % b ∧ a % b < b :=
  ⟨Int.emod_nonneg _ (by omega), Int.emod_lt_of_pos _ (by omega)⟩

set_option maxHeartbeats 1000000 in
theorem divide_down (a b : Int) (ha : 0 ≤ a ∧ a ≤ 4611686018427387904) (hb : 1 ≤ b ∧ b ≤ 4611686018427387904) (w : World) :
    Calls Try.prog 19 #[.int .i64 a, .int .i64 b, .bool false] w fun e w' => e = .returned (.int .i64 (a / b)) ∧ Upd [] w w' := by
  have hd : a.tdiv b = a / b := Int.tdiv_eq_ediv_of_nonneg ha.1
  have hm : a.tmod b = a % b := Int.tmod_eq_emod_of_nonneg ha.1
  have b1 := div_bd ha.1 hb.1
  have b2 := mod_bd (a := a) hb.1
  have hz : (b == 0) = false := by simp; omega
  have hz2 : decide (b ≤ 0) = false := by simp; omega
  have hn : decide (a % b < 0) = false := by simp; omega
  have hw1 : IntKind.i64.wrap (a / b) = a / b := by rw [IntKind.wrap_i64]; omega
  have hw2 : IntKind.i64.wrap (a % b) = a % b := by rw [IntKind.wrap_i64]; omega
  generalize a / b = q at *
  generalize a % b = r at *
  go_enter Try.func19, Try.ntmps19
  go_wp2_with fail
  go_quiet (fail)
  go_wp2_with fail
  go_ret
  exact ⟨rfl, (Upd.refl [] _).drewN _⟩

set_option maxHeartbeats 1000000 in
theorem divide_up (a : Int) (ha : 0 ≤ a ∧ a ≤ 4611686018427387904) (w : World) :
    Calls Try.prog 19 #[.int .i64 a, .int .i64 8, .bool true] w fun e w' => e = .returned (.int .i64 ((a + 7) / 8)) ∧ Upd [] w w' := by
  have hd : a.tdiv 8 = a / 8 := Int.tdiv_eq_ediv_of_nonneg ha.1
  have hm : a.tmod 8 = a % 8 := Int.tmod_eq_emod_of_nonneg ha.1
  have hw1 : IntKind.i64.wrap (a / 8) = a / 8 := by rw [IntKind.wrap_i64]; omega
  have hw2 : IntKind.i64.wrap (a % 8) = a % 8 := by rw [IntKind.wrap_i64]; omega
  have hw3 : IntKind.i64.wrap (a / 8 + 1) = a / 8 + 1 := by rw [IntKind.wrap_i64]; omega
  by_cases h0 : 0 < a % 8
  · have d0 : decide (0 < a % 8) = true := by simpa using h0
    have hs : (a + 7) / 8 = a / 8 + 1 := by omega
    rw [hs]
    clear hs
    generalize a / 8 = q at *
    generalize a % 8 = r at *
    go_enter Try.func19, Try.ntmps19
    go_wp2_with fail
    go_quiet (fail)
    go_wp2_with fail
    go_ret
    exact ⟨rfl, (Upd.refl [] _).drewN _⟩
  · have d0 : decide (0 < a % 8) = false := by simpa using h0
    have hs : (a + 7) / 8 = a / 8 := by omega
    rw [hs]
    clear hs
    generalize a / 8 = q at *
    generalize a % 8 = r at *
    go_enter Try.func19, Try.ntmps19
    go_wp2_with fail
    go_quiet (fail)
    go_wp2_with fail
    go_ret
    exact ⟨rfl, (Upd.refl [] _).drewN _⟩

set_option maxHeartbeats 400000 in
theorem Width_in (x y : Int) (hx : 0 ≤ x) (h : x ≤ y) (hy : y ≤ 1152921504606846976) (w : World) :
    Calls Try.prog 11 #[.int .i64 x, .int .i64 y] w fun e w' => e = .returned (.int .i64 ((y - x) / 8 + 1)) ∧ Upd [] w w' := by
  have hs : IntKind.i64.wrap (y - x) = y - x := by rw [IntKind.wrap_i64]; omega
  have ht : IntKind.i64.wrap ((y - x) / 8 + 1) = (y - x) / 8 + 1 := by rw [IntKind.wrap_i64]; omega
  have E1 := Lib.hid (divide_down (y - x) 8 (by omega) (by decide))
  go_enter Try.func11, Try.ntmps11
  go_wp2_with fail
  refine (E1.out _).mono ?_
  rintro e w' ⟨rfl, hu⟩
  go_wp2_with fail
  go_ret
  exact ⟨rfl, hu⟩
set_option maxHeartbeats 400000 in
theorem Narrow_in (n : Int) (h : 0 ≤ n ∧ n ≤ 4611686018427387904) (w : World) :
    Calls Try.prog 13 #[.int .i64 n] w fun e w' => e = .returned (.int .i64 ((n + 7) / 8)) ∧ Upd [] w w' := by
  have E1 := Lib.hid (divide_up n h)
  go_enter Try.func13, Try.ntmps13
  go_wp2_with fail
  refine (E1.out _).mono ?_
  rintro e w' ⟨rfl, hu⟩
  go_wp2_with fail
  go_ret
  exact ⟨rfl, hu⟩
set_option maxHeartbeats 400000 in
theorem Index_in (f n t : Int) (hf : 0 ≤ f) (h : f ≤ t) (ht : t ≤ 4611686018427387904) (hn : 1 ≤ n ∧ n ≤ 4611686018427387904) (w : World) :
    Calls Try.prog 15 #[.int .i64 f, .int .i64 n, .int .i64 t] w fun e w' => e = .returned (.int .i64 ((t - f) / n)) ∧ Upd [] w w' := by
  have hs : IntKind.i64.wrap (t - f) = t - f := by rw [IntKind.wrap_i64]; omega
  have E1 := Lib.hid (divide_down (t - f) n (by omega) hn)
  go_enter Try.func15, Try.ntmps15
  go_wp2_with fail
  refine (E1.out _).mono ?_
  rintro e w' ⟨rfl, hu⟩
  go_wp2_with fail
  go_ret
  exact ⟨rfl, hu⟩
set_option maxHeartbeats 400000 in
theorem Start_in (f n i : Int) (hf : 0 ≤ f ∧ f ≤ 1152921504606846976) (hp : 0 ≤ i * n ∧ i * n ≤ 4611686018427387904) (w : World) :
    Calls Try.prog 17 #[.int .i64 f, .int .i64 n, .int .i64 i] w fun e w' => e = .returned (.int .i64 (f + i * n)) ∧ Upd [] w w' := by
  have hs : IntKind.i64.wrap (i * n) = i * n := by rw [IntKind.wrap_i64]; omega
  have ht : IntKind.i64.wrap (f + i * n) = f + i * n := by rw [IntKind.wrap_i64]; omega
  go_enter Try.func17, Try.ntmps17
  go_wp2_with fail
  go_ret
  exact ⟨rfl, Upd.refl [] _⟩
set_option maxHeartbeats 400000 in
theorem RWidth_in (x y : Int) (hx : 0 ≤ x) (h : x ≤ y) (hy : y ≤ 1152921504606846976) (w : World) :
    Calls Try.prog 12 #[.int .i64 x, .int .i64 y] w fun e w' => e = .returned (.int .i64 ((y - x) / 8 + 1)) ∧ Upd [] w w' := by
  have hs : IntKind.i64.wrap (y - x) = y - x := by rw [IntKind.wrap_i64]; omega
  have hd : (y - x).tdiv 8 = (y - x) / 8 := Int.tdiv_eq_ediv_of_nonneg (by omega)
  have hr : IntKind.i64.wrap ((y - x) / 8) = (y - x) / 8 := by rw [IntKind.wrap_i64]; omega
  have ht : IntKind.i64.wrap ((y - x) / 8 + 1) = (y - x) / 8 + 1 := by rw [IntKind.wrap_i64]; omega
  go_enter Try.func12, Try.ntmps12
  go_wp2_with fail
  go_ret
  exact ⟨rfl, Upd.refl [] _⟩
set_option maxHeartbeats 400000 in
theorem RNarrow_in (n : Int) (h : 0 ≤ n ∧ n ≤ 4611686018427387904) (w : World) :
    Calls Try.prog 14 #[.int .i64 n] w fun e w' => e = .returned (.int .i64 ((n + 7) / 8)) ∧ Upd [] w w' := by
  have hs : IntKind.i64.wrap (n + 7) = n + 7 := by rw [IntKind.wrap_i64]; omega
  have hd : (n + 7).tdiv 8 = (n + 7) / 8 := Int.tdiv_eq_ediv_of_nonneg (by omega)
  have hr : IntKind.i64.wrap ((n + 7) / 8) = (n + 7) / 8 := by rw [IntKind.wrap_i64]; omega
  go_enter Try.func14, Try.ntmps14
  go_wp2_with fail
  go_ret
  exact ⟨rfl, Upd.refl [] _⟩
set_option maxHeartbeats 400000 in
theorem RIndex_in (f n t : Int) (hf : 0 ≤ f) (h : f ≤ t) (ht : t ≤ 4611686018427387904) (hn : 1 ≤ n ∧ n ≤ 4611686018427387904) (w : World) :
    Calls Try.prog 16 #[.int .i64 f, .int .i64 n, .int .i64 t] w fun e w' => e = .returned (.int .i64 ((t - f) / n)) ∧ Upd [] w w' := by
  have hs : IntKind.i64.wrap (t - f) = t - f := by rw [IntKind.wrap_i64]; omega
  have hz : (n == 0) = false := by simp; omega
  have hd : (t - f).tdiv n = (t - f) / n := Int.tdiv_eq_ediv_of_nonneg (by omega)
  have b1 := div_bd (a := t - f) (by omega) hn.1
  have hr : IntKind.i64.wrap ((t - f) / n) = (t - f) / n := by rw [IntKind.wrap_i64]; omega
  go_enter Try.func16, Try.ntmps16
  go_wp2_with fail
  go_ret
  exact ⟨rfl, Upd.refl [] _⟩
set_option maxHeartbeats 400000 in
theorem RStart_in (f n i : Int) (hf : 0 ≤ f ∧ f ≤ 1152921504606846976) (hp : 0 ≤ i * n ∧ i * n ≤ 4611686018427387904) (w : World) :
    Calls Try.prog 18 #[.int .i64 f, .int .i64 n, .int .i64 i] w fun e w' => e = .returned (.int .i64 (f + i * n)) ∧ Upd [] w w' := by
  have hs : IntKind.i64.wrap (i * n) = i * n := by rw [IntKind.wrap_i64]; omega
  have ht : IntKind.i64.wrap (f + i * n) = f + i * n := by rw [IntKind.wrap_i64]; omega
  go_enter Try.func18, Try.ntmps18
  go_wp2_with fail
  go_ret
  exact ⟨rfl, Upd.refl [] _⟩
end Go.Proofs.Ytiapdlinpnpcpaa
