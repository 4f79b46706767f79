/- BucketCovers: the walk. -/
import Derived.Test.YtiapdlinpnpcpaaBB
namespace Go.Proofs.Ytiapdlinpnpcpaa
open Go.RowKit Go.Lib

theorem cover {d n w : Int} (hd : 0 ≤ d) (h : d ≤ n) (hw : w = n / 8 + 1) : 0 ≤ d / w ∧ d / w < 8 ∧ (0 ≤ d / w * w ∧ d / w * w ≤ d) ∧ d < (d / w + 1) * w ∧ (d / w + 1) * w ≤ 8 * w ∧ n < 8 * w := by
  have w1 : 1 ≤ w := by omega
  have h1 := Int.ediv_nonneg hd (show 0 ≤ w by omega)
  have h3 := Int.ediv_mul_add_emod d w
  have h4 := mod_bd (a := d) w1
  have h5 : d / w < 8 := Int.ediv_lt_of_lt_mul (by omega) (by omega)
  have h6 : (d / w + 1) * w = d / w * w + w := by rw [Int.add_mul]; omega
  have h8 : 0 ≤ d / w * w := Int.mul_nonneg h1 (by omega)
  have h7 : (d / w + 1) * w ≤ 8 * w := Int.mul_le_mul_of_nonneg_right (by omega) (by omega)
  omega

set_option maxHeartbeats 2000000 in
theorem Covers_any (a b c : Int) (ha : 0 ≤ a ∧ a < 18446744073709551616) (hb : 0 ≤ b ∧ b < 18446744073709551616) (hc : 0 ≤ c ∧ c < 18446744073709551616) (w : World) :
    Calls Try.prog 4 #[.int .u64 a, .int .u64 b, .int .u64 c] w fun e w' => e = .returned (.bool true) ∧ Upd [] w w' := by
  have EH := Lib.hid head_any
  obtain ⟨A, eA⟩ : ∃ g, g = a % 1152921504606846977 := ⟨_, rfl⟩
  obtain ⟨B, eB⟩ : ∃ g, g = b % 1152921504606846977 := ⟨_, rfl⟩
  have ETA := Lib.hid (Time_law a ha)
  have ETB := Lib.hid (Time_law b hb)
  rw [← eA] at ETA
  rw [← eB] at ETB
  have hA : 0 ≤ A ∧ A ≤ 1152921504606846976 := by omega
  have hB : 0 ≤ B ∧ B ≤ 1152921504606846976 := by omega
  clear eA eB
  by_cases hAB : A < B
  · have d0 : decide (A < B) = true := by simpa using hAB
    have d1 : decide (B < A) = false := by simp; omega
    obtain ⟨r, er⟩ : ∃ g, g = c % (B - A + 1) := ⟨_, rfl⟩
    have hr := mod_bd (a := c) (show 1 ≤ B - A + 1 by omega)
    rw [← er] at hr
    have z : (B - A + 1 == 0) = false := by simp; omega
    have hm : c.tmod (B - A + 1) = r := by rw [er]; exact Int.tmod_eq_emod_of_nonneg hc.1
    have q1 : IntKind.i64.wrap (B - A) = B - A := by rw [IntKind.wrap_i64]; omega
    have q2 : IntKind.i64.wrap (B - A + 1) = B - A + 1 := by rw [IntKind.wrap_i64]; omega
    have q3 : IntKind.u64.wrap (B - A + 1) = B - A + 1 := by rw [IntKind.wrap_u64]; omega
    have q4 : IntKind.i64.wrap r = r := by rw [IntKind.wrap_i64]; omega
    have q4' : IntKind.u64.wrap r = r := by rw [IntKind.wrap_u64]; omega
    have q5 : IntKind.i64.wrap (A + r) = A + r := by rw [IntKind.wrap_i64]; omega
    clear er
    obtain ⟨n, en⟩ : ∃ n, n = (B - A) / 8 + 1 := ⟨_, rfl⟩
    have e1 := Width_in A B (by omega) (by omega) (by omega)
    rw [← en] at e1
    have e2 := Index_in A n (A + r) (by omega) (by omega) (by omega) (by omega)
    rw [show A + r - A = r by omega] at e2
    obtain ⟨k0, k1, k2, k3, k4, k5⟩ := cover hr.1 (show r ≤ B - A by omega) en
    have e3 := Start_in A n (r / n) (by omega) (by omega)
    have e4 := Start_in A n (r / n + 1) (by omega) (by omega)
    have e5 := Start_in A n 8 (by omega) (by omega)
    generalize r / n = i at *
    have q6 : IntKind.i64.wrap (i + 1) = i + 1 := by rw [IntKind.wrap_i64]; omega
    have j0 : decide (n < 1) = false := by simp; omega
    have j1 : decide (0 ≤ i) = true := by simp; omega
    have j2 : decide (i < 8) = true := by simp; omega
    have j3 : decide (A + i * n ≤ A + r) = true := by simp; omega
    have j4 : decide (A + r < A + (i + 1) * n) = true := by simp; omega
    have j5 : decide (B < A + 8 * n) = true := by simp; omega
    generalize A + i * n = s0 at *
    generalize A + (i + 1) * n = s1 at *
    generalize A + 8 * n = s2 at *
    have E1 := Lib.hid e1; have E2 := Lib.hid e2; have E3 := Lib.hid e3; have E4 := Lib.hid e4; have E5 := Lib.hid e5
    clear e1 e2 e3 e4 e5 k0 k1 k2 k3 k4 k5 en
    go_enter Try.func4, Try.ntmps4
    go_wp2_with fail
    (with_reducible refine (EH.out _).mono ?_)
    rintro e w0 ⟨rfl, u0⟩
    go_wp2_with fail
    (with_reducible refine (ETA.out _).mono ?_)
    rintro e w' ⟨rfl, rfl⟩
    go_wp2_with fail
    (with_reducible refine (ETB.out _).mono ?_)
    rintro e w' ⟨rfl, rfl⟩
    go_wp2_with fail
    (with_reducible refine (ETA.out _).mono ?_)
    rintro e w' ⟨rfl, rfl⟩
    go_wp2_with fail
    (with_reducible refine (ETB.out _).mono ?_)
    rintro e w' ⟨rfl, rfl⟩
    go_wp2_with fail
    (with_reducible refine (E1.out _).mono ?_)
    rintro e w5 ⟨rfl, u5⟩
    go_wp2_with fail
    (with_reducible refine (E2.out _).mono ?_)
    rintro e w6 ⟨rfl, u6⟩
    go_wp2_with fail
    (with_reducible refine (E3.out _).mono ?_)
    rintro e w7 ⟨rfl, u7⟩
    go_wp2_with fail
    (with_reducible refine (E4.out _).mono ?_)
    rintro e w8 ⟨rfl, u8⟩
    go_wp2_with fail
    (with_reducible refine (E5.out _).mono ?_)
    rintro e w9 ⟨rfl, u9⟩
    go_wp2_with fail
    go_ret
    exact ⟨rfl, u0.thn (u5.thn (u6.thn (u7.thn (u8.thn (u9)))))⟩
  · have d0 : decide (A < B) = false := by simpa using hAB
    by_cases hBA : B < A
    · have d1 : decide (B < A) = true := by simpa using hBA
      obtain ⟨r, er⟩ : ∃ g, g = c % (A - B + 1) := ⟨_, rfl⟩
      have hr := mod_bd (a := c) (show 1 ≤ A - B + 1 by omega)
      rw [← er] at hr
      have z : (A - B + 1 == 0) = false := by simp; omega
      have hm : c.tmod (A - B + 1) = r := by rw [er]; exact Int.tmod_eq_emod_of_nonneg hc.1
      have q1 : IntKind.i64.wrap (A - B) = A - B := by rw [IntKind.wrap_i64]; omega
      have q2 : IntKind.i64.wrap (A - B + 1) = A - B + 1 := by rw [IntKind.wrap_i64]; omega
      have q3 : IntKind.u64.wrap (A - B + 1) = A - B + 1 := by rw [IntKind.wrap_u64]; omega
      have q4 : IntKind.i64.wrap r = r := by rw [IntKind.wrap_i64]; omega
      have q4' : IntKind.u64.wrap r = r := by rw [IntKind.wrap_u64]; omega
      have q5 : IntKind.i64.wrap (B + r) = B + r := by rw [IntKind.wrap_i64]; omega
      clear er
      obtain ⟨n, en⟩ : ∃ n, n = (A - B) / 8 + 1 := ⟨_, rfl⟩
      have e1 := Width_in B A (by omega) (by omega) (by omega)
      rw [← en] at e1
      have e2 := Index_in B n (B + r) (by omega) (by omega) (by omega) (by omega)
      rw [show B + r - B = r by omega] at e2
      obtain ⟨k0, k1, k2, k3, k4, k5⟩ := cover hr.1 (show r ≤ A - B by omega) en
      have e3 := Start_in B n (r / n) (by omega) (by omega)
      have e4 := Start_in B n (r / n + 1) (by omega) (by omega)
      have e5 := Start_in B n 8 (by omega) (by omega)
      generalize r / n = i at *
      have q6 : IntKind.i64.wrap (i + 1) = i + 1 := by rw [IntKind.wrap_i64]; omega
      have j0 : decide (n < 1) = false := by simp; omega
      have j1 : decide (0 ≤ i) = true := by simp; omega
      have j2 : decide (i < 8) = true := by simp; omega
      have j3 : decide (B + i * n ≤ B + r) = true := by simp; omega
      have j4 : decide (B + r < B + (i + 1) * n) = true := by simp; omega
      have j5 : decide (A < B + 8 * n) = true := by simp; omega
      generalize B + i * n = s0 at *
      generalize B + (i + 1) * n = s1 at *
      generalize B + 8 * n = s2 at *
      have E1 := Lib.hid e1; have E2 := Lib.hid e2; have E3 := Lib.hid e3; have E4 := Lib.hid e4; have E5 := Lib.hid e5
      clear e1 e2 e3 e4 e5 k0 k1 k2 k3 k4 k5 en
      go_enter Try.func4, Try.ntmps4
      go_wp2_with fail
      (with_reducible refine (EH.out _).mono ?_)
      rintro e w0 ⟨rfl, u0⟩
      go_wp2_with fail
      (with_reducible refine (ETA.out _).mono ?_)
      rintro e w' ⟨rfl, rfl⟩
      go_wp2_with fail
      (with_reducible refine (ETB.out _).mono ?_)
      rintro e w' ⟨rfl, rfl⟩
      go_wp2_with fail
      (with_reducible refine (ETA.out _).mono ?_)
      rintro e w' ⟨rfl, rfl⟩
      go_wp2_with fail
      (with_reducible refine (ETB.out _).mono ?_)
      rintro e w' ⟨rfl, rfl⟩
      go_wp2_with fail
      (with_reducible refine (E1.out _).mono ?_)
      rintro e w5 ⟨rfl, u5⟩
      go_wp2_with fail
      (with_reducible refine (E2.out _).mono ?_)
      rintro e w6 ⟨rfl, u6⟩
      go_wp2_with fail
      (with_reducible refine (E3.out _).mono ?_)
      rintro e w7 ⟨rfl, u7⟩
      go_wp2_with fail
      (with_reducible refine (E4.out _).mono ?_)
      rintro e w8 ⟨rfl, u8⟩
      go_wp2_with fail
      (with_reducible refine (E5.out _).mono ?_)
      rintro e w9 ⟨rfl, u9⟩
      go_wp2_with fail
      go_ret
      exact ⟨rfl, u0.thn (u5.thn (u6.thn (u7.thn (u8.thn (u9)))))⟩
    · obtain rfl : A = B := by omega
      have e1 := Width_in A A (by omega) (by omega) (by omega)
      rw [show (A - A) / 8 + 1 = 1 by omega] at e1
      have e2 := Index_in A 1 A (by omega) (by omega) (by omega) (by decide)
      rw [show (A - A) / 1 = 0 by omega] at e2
      have e3 := Start_in A 1 0 (by omega) (by decide)
      have e4 := Start_in A 1 1 (by omega) (by decide)
      have e5 := Start_in A 1 8 (by omega) (by decide)
      rw [show A + 0 * 1 = A by omega] at e3
      rw [show A + 1 * 1 = A + 1 by omega] at e4
      rw [show A + 8 * 1 = A + 8 by omega] at e5
      have j3 : decide (A ≤ A) = true := by simp
      have j4 : decide (A < A + 1) = true := by simp; omega
      have j5 : decide (A < A + 8) = true := by simp; omega
      generalize A + 1 = s1 at *
      generalize A + 8 = s2 at *
      have E1 := Lib.hid e1; have E2 := Lib.hid e2; have E3 := Lib.hid e3; have E4 := Lib.hid e4; have E5 := Lib.hid e5
      clear e1 e2 e3 e4 e5
      go_enter Try.func4, Try.ntmps4
      go_wp2_with fail
      (with_reducible refine (EH.out _).mono ?_)
      rintro e w0 ⟨rfl, u0⟩
      go_wp2_with fail
      (with_reducible refine (ETA.out _).mono ?_)
      rintro e w' ⟨rfl, rfl⟩
      go_wp2_with fail
      (with_reducible refine (ETB.out _).mono ?_)
      rintro e w' ⟨rfl, rfl⟩
      go_wp2_with fail
      (with_reducible refine (ETA.out _).mono ?_)
      rintro e w' ⟨rfl, rfl⟩
      go_wp2_with fail
      (with_reducible refine (ETB.out _).mono ?_)
      rintro e w' ⟨rfl, rfl⟩
      go_wp2_with fail
      (with_reducible refine (E1.out _).mono ?_)
      rintro e w5 ⟨rfl, u5⟩
      go_wp2_with fail
      (with_reducible refine (E2.out _).mono ?_)
      rintro e w6 ⟨rfl, u6⟩
      go_wp2_with fail
      (with_reducible refine (E3.out _).mono ?_)
      rintro e w7 ⟨rfl, u7⟩
      go_wp2_with fail
      (with_reducible refine (E4.out _).mono ?_)
      rintro e w8 ⟨rfl, u8⟩
      go_wp2_with fail
      (with_reducible refine (E5.out _).mono ?_)
      rintro e w9 ⟨rfl, u9⟩
      go_wp2_with fail
      go_ret
      exact ⟨rfl, u0.thn (u5.thn (u6.thn (u7.thn (u8.thn (u9)))))⟩
end Go.Proofs.Ytiapdlinpnpcpaa
