/- BucketStarts: the walk. -/
import Derived.Test.YtiapdlinpnpcpaaBB
namespace Go.Proofs.Ytiapdlinpnpcpaa
open Go.RowKit Go.Lib

set_option maxHeartbeats 2000000 in
theorem Starts_any (a b c : Int) (ha : 0 ≤ a ∧ a < 18446744073709551616) (hb : 0 ≤ b ∧ b < 18446744073709551616) (hc : 0 ≤ c ∧ c < 256) (w : World) :
    Calls Try.prog 7 #[.int .u64 a, .int .u64 b, .int .u8 c] w fun e w' => e = .returned (.bool true) ∧ Upd [] w w' := by
  have EH := Lib.hid head_any
  obtain ⟨F, eF⟩ : ∃ g, g = a % 1152921504606846977 := ⟨_, rfl⟩
  have ETF := Lib.hid (Time_law a ha)
  rw [← eF] at ETF
  have hF : 0 ≤ F ∧ F ≤ 1152921504606846976 := by omega
  clear eF
  obtain ⟨W, eW⟩ : ∃ g, g = b % 144115188075855873 + 1 := ⟨_, rfl⟩
  have ETW := Lib.hid (Span_law b hb)
  rw [← eW] at ETW
  have hW : 1 ≤ W ∧ W ≤ 144115188075855873 := by omega
  clear eW
  have hd : W.tdiv 8 = W / 8 := Int.tdiv_eq_ediv_of_nonneg (by omega)
  have qd : IntKind.i64.wrap (W / 8) = W / 8 := by rw [IntKind.wrap_i64]; omega
  obtain ⟨n, en⟩ : ∃ g, g = W / 8 + 1 := ⟨_, rfl⟩
  have qn : IntKind.i64.wrap (W / 8 + 1) = n := by rw [IntKind.wrap_i64]; omega
  have hn : 1 ≤ n ∧ n ≤ 18014398509481986 := by omega
  clear en
  generalize W / 8 = W8 at *
  have qc : IntKind.i64.wrap c = c := by rw [IntKind.wrap_i64]; omega
  have hm : c.tmod 8 = c % 8 := Int.tmod_eq_emod_of_nonneg hc.1
  have hk : 0 ≤ c % 8 ∧ c % 8 < 8 := by omega
  generalize c % 8 = k at *
  have q1 : IntKind.i64.wrap k = k := by rw [IntKind.wrap_i64]; omega
  have q2 : IntKind.i64.wrap (k + 1) = k + 1 := by rw [IntKind.wrap_i64]; omega
  have p1 : 0 ≤ k * n := Int.mul_nonneg hk.1 (by omega)
  have p2 : k * n ≤ 7 * n := Int.mul_le_mul_of_nonneg_right (by omega) (by omega)
  have p3 : (k + 1) * n = k * n + n := by rw [Int.add_mul]; omega
  have e1 := Start_in F n k (by omega) (by omega)
  have e2 := Start_in F n (k + 1) (by omega) (by omega)
  have e3 := Index_in F n (F + k * n) (by omega) (by omega) (by omega) (by omega)
  have e4 := Index_in F n (F + (k + 1) * n - 1) (by omega) (by omega) (by omega) (by omega)
  have e5 := Index_in F n (F + (k + 1) * n) (by omega) (by omega) (by omega) (by omega)
  have v3 : (F + k * n - F) / n = k := by
    rw [show F + k * n - F = k * n by omega]
    exact Int.mul_ediv_cancel k (by omega)
  have v5 : (F + (k + 1) * n - F) / n = k + 1 := by
    rw [show F + (k + 1) * n - F = (k + 1) * n by omega]
    exact Int.mul_ediv_cancel (k + 1) (by omega)
  have v4 : (F + (k + 1) * n - 1 - F) / n = k := by
    rw [show F + (k + 1) * n - 1 - F = n - 1 + k * n by omega, Int.add_mul_ediv_right _ _ (by omega), Int.ediv_eq_zero_of_lt (by omega) (by omega)]
    omega
  rw [v3] at e3
  rw [v4] at e4
  rw [v5] at e5
  clear v3 v4 v5
  have g1 : F + (k + 1) * n - (F + k * n) = n := by omega
  have g2 : IntKind.i64.wrap n = n := by rw [IntKind.wrap_i64]; omega
  have g3 : IntKind.i64.wrap (F + (k + 1) * n - 1) = F + (k + 1) * n - 1 := by rw [IntKind.wrap_i64]; omega
  generalize F + (k + 1) * n = e at *
  generalize F + k * n = s at *
  have E1 := Lib.hid e1; have E2 := Lib.hid e2; have E3 := Lib.hid e3; have E4 := Lib.hid e4; have E5 := Lib.hid e5
  clear e1 e2 e3 e4 e5 ha hb hW p1 p2 p3
  go_enter Try.func7, Try.ntmps7
  go_wp2_with fail
  (with_reducible refine (EH.out _).mono ?_)
  rintro e w0 ⟨rfl, u0⟩
  go_wp2_with fail
  (with_reducible refine (ETF.out _).mono ?_)
  rintro e w' ⟨rfl, rfl⟩
  go_wp2_with fail
  (with_reducible refine (ETW.out _).mono ?_)
  rintro e w' ⟨rfl, rfl⟩
  go_wp2_with fail
  (with_reducible refine (E1.out _).mono ?_)
  rintro e w3 ⟨rfl, u3⟩
  go_wp2_with fail
  (with_reducible refine (E2.out _).mono ?_)
  rintro e w4 ⟨rfl, u4⟩
  go_wp2_with fail
  (with_reducible refine (E3.out _).mono ?_)
  rintro e w5 ⟨rfl, u5⟩
  go_wp2_with fail
  (with_reducible refine (E4.out _).mono ?_)
  rintro e w6 ⟨rfl, u6⟩
  go_wp2_with fail
  (with_reducible refine (E5.out _).mono ?_)
  rintro e w7 ⟨rfl, u7⟩
  go_wp2_with fail
  go_ret
  exact ⟨rfl, u0.thn (u3.thn (u4.thn (u5.thn (u6.thn (u7)))))⟩
end Go.Proofs.Ytiapdlinpnpcpaa
