/- BucketNarrow: the walk. -/
import Derived.Test.YtiapdlinpnpcpaaBB
namespace Go.Proofs.Ytiapdlinpnpcpaa
open Go.RowKit Go.Lib

set_option maxHeartbeats 2000000 in
theorem Narrow_any (a b c : Int) (ha : 0 ≤ a ∧ a < 18446744073709551616) (hb : 0 ≤ b ∧ b < 18446744073709551616) (hc : 0 ≤ c ∧ c < 18446744073709551616) (w : World) :
    Calls Try.prog 5 #[.int .u64 a, .int .u64 b, .int .u64 c] w fun e w' => e = .returned (.bool true) ∧ Upd [] w w' := by
  have EH := Lib.hid head_any
  obtain ⟨W, eW⟩ : ∃ g, g = a % 144115188075855873 + 1 := ⟨_, rfl⟩
  have ETW := Lib.hid (Span_law a ha)
  rw [← eW] at ETW
  have hW : 1 ≤ W ∧ W ≤ 144115188075855873 := by omega
  clear eW
  obtain ⟨F, eF⟩ : ∃ g, g = b % 1152921504606846977 := ⟨_, rfl⟩
  have ETF := Lib.hid (Time_law b hb)
  rw [← eF] at ETF
  have hF : 0 ≤ F ∧ F ≤ 1152921504606846976 := by omega
  clear eF
  have e1 := Narrow_in W (by omega)
  obtain ⟨n, en⟩ : ∃ g, g = (W + 7) / 8 := ⟨_, rfl⟩
  rw [← en] at e1
  have hd : F.tdiv 2 = F / 2 := Int.tdiv_eq_ediv_of_nonneg hF.1
  obtain ⟨f, ef⟩ : ∃ g, g = F / 2 := ⟨_, rfl⟩
  rw [← ef] at hd
  have hf : 0 ≤ f ∧ f ≤ 576460752303423488 := by omega
  have qf : IntKind.i64.wrap f = f := by rw [IntKind.wrap_i64]; omega
  obtain ⟨r, er⟩ : ∃ g, g = c % W := ⟨_, rfl⟩
  have hr := mod_bd (a := c) hW.1
  rw [← er] at hr
  have z : (W == 0) = false := by simp; omega
  have hm : c.tmod W = r := by rw [er]; exact Int.tmod_eq_emod_of_nonneg hc.1
  have q3 : IntKind.u64.wrap W = W := by rw [IntKind.wrap_u64]; omega
  have q4 : IntKind.i64.wrap r = r := by rw [IntKind.wrap_i64]; omega
  have q4' : IntKind.u64.wrap r = r := by rw [IntKind.wrap_u64]; omega
  have q5 : IntKind.i64.wrap (f + r) = f + r := by rw [IntKind.wrap_i64]; omega
  have hn : 1 ≤ n ∧ n ≤ 144115188075855873 := by omega
  have e2 := Index_in f n (f + r) (by omega) (by omega) (by omega) (by omega)
  rw [show f + r - f = r by omega] at e2
  have k0 := Int.ediv_nonneg hr.1 (show 0 ≤ n by omega)
  have k1 : r / n < 8 := Int.ediv_lt_of_lt_mul (by omega) (by omega)
  generalize r / n = i at *
  have j0 : decide (n < 1) = false := by simp; omega
  have j1 : decide (0 ≤ i) = true := by simp; omega
  have j2 : decide (i < 8) = true := by simp; omega
  have j3 : decide (W ≤ 8 * n) = true := by simp; omega
  have j4 : decide (8 * (n - 1) < W) = true := by simp; omega
  have q6 : IntKind.i64.wrap (8 * n) = 8 * n := by rw [IntKind.wrap_i64]; omega
  have q7 : IntKind.i64.wrap (n - 1) = n - 1 := by rw [IntKind.wrap_i64]; omega
  have q8 : IntKind.i64.wrap (8 * (n - 1)) = 8 * (n - 1) := by rw [IntKind.wrap_i64]; omega
  have E1 := Lib.hid e1; have E2 := Lib.hid e2
  by_cases h1 : W = 1
  · have hn1 : n = 1 := by omega
    subst h1 hn1
    clear e1 e2 ha hb hF en ef er k0 k1 hr
    go_enter Try.func5, Try.ntmps5
    go_wp2_with fail
    (with_reducible refine (EH.out _).mono ?_)
    rintro e w0 ⟨rfl, u0⟩
    go_wp2_with fail
    (with_reducible refine (ETW.out _).mono ?_)
    rintro e w' ⟨rfl, rfl⟩
    go_wp2_with fail
    (with_reducible refine (E1.out _).mono ?_)
    rintro e w2 ⟨rfl, u2⟩
    go_wp2_with fail
    (with_reducible refine (ETF.out _).mono ?_)
    rintro e w' ⟨rfl, rfl⟩
    go_wp2_with fail
    (with_reducible refine (E2.out _).mono ?_)
    rintro e w4 ⟨rfl, u4⟩
    go_wp2_with fail
    (with_reducible refine (E2.out _).mono ?_)
    rintro e w5 ⟨rfl, u5⟩
    go_wp2_with fail
    go_ret
    exact ⟨rfl, u0.thn (u2.thn (u4.thn (u5)))⟩
  · have j5 : decide (n < W) = true := by simp; omega
    clear e1 e2 ha hb hF en ef er k0 k1 hr h1
    go_enter Try.func5, Try.ntmps5
    go_wp2_with fail
    (with_reducible refine (EH.out _).mono ?_)
    rintro e w0 ⟨rfl, u0⟩
    go_wp2_with fail
    (with_reducible refine (ETW.out _).mono ?_)
    rintro e w' ⟨rfl, rfl⟩
    go_wp2_with fail
    (with_reducible refine (E1.out _).mono ?_)
    rintro e w2 ⟨rfl, u2⟩
    go_wp2_with fail
    (with_reducible refine (ETF.out _).mono ?_)
    rintro e w' ⟨rfl, rfl⟩
    go_wp2_with fail
    (with_reducible refine (E2.out _).mono ?_)
    rintro e w4 ⟨rfl, u4⟩
    go_wp2_with fail
    (with_reducible refine (E2.out _).mono ?_)
    rintro e w5 ⟨rfl, u5⟩
    go_wp2_with fail
    go_ret
    exact ⟨rfl, u0.thn (u2.thn (u4.thn (u5)))⟩
end Go.Proofs.Ytiapdlinpnpcpaa
