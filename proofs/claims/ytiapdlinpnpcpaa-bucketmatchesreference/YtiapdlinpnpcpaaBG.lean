/- BucketMatchesReference: the walk. -/
import Derived.Test.YtiapdlinpnpcpaaBB
namespace Go.Proofs.Ytiapdlinpnpcpaa
open Go.RowKit Go.Lib

set_option maxHeartbeats 2000000 in
theorem Matches_any (a b v c : Int) (ha : 0 ≤ a ∧ a < 18446744073709551616) (hb : 0 ≤ b ∧ b < 18446744073709551616) (hv : 0 ≤ v ∧ v < 18446744073709551616) (hc : 0 ≤ c ∧ c < 256) (w : World) :
    Calls Try.prog 3 #[.int .u64 a, .int .u64 b, .int .u64 v, .int .u8 c] w fun e w' => e = .returned (.bool true) ∧ Upd [] w w' := by
  have EH := Lib.hid head_any
  obtain ⟨A, eA⟩ : ∃ g, g = a % 1152921504606846977 := ⟨_, rfl⟩
  have ETA := Lib.hid (Time_law a ha)
  rw [← eA] at ETA
  have hA : 0 ≤ A ∧ A ≤ 1152921504606846976 := by omega
  clear eA
  obtain ⟨B, eB⟩ : ∃ g, g = b % 1152921504606846977 := ⟨_, rfl⟩
  have ETB := Lib.hid (Time_law b hb)
  rw [← eB] at ETB
  have hB : 0 ≤ B ∧ B ≤ 1152921504606846976 := by omega
  clear eB
  obtain ⟨N, eN⟩ : ∃ g, g = v % 144115188075855873 + 1 := ⟨_, rfl⟩
  have ETN := Lib.hid (Span_law v hv)
  rw [← eN] at ETN
  have hN : 1 ≤ N ∧ N ≤ 144115188075855873 := by omega
  clear eN
  obtain ⟨x, hx⟩ : ∃ g, (if B < A then B else A) = g := ⟨_, rfl⟩
  obtain ⟨y, hy⟩ : ∃ g, (if A < B then B else A) = g := ⟨_, rfl⟩
  have hxy : 0 ≤ x ∧ x ≤ y ∧ y ≤ 1152921504606846976 := by omega
  have hd : N.tdiv 8 = N / 8 := Int.tdiv_eq_ediv_of_nonneg (by omega)
  have qd : IntKind.i64.wrap (N / 8) = N / 8 := by rw [IntKind.wrap_i64]; omega
  obtain ⟨n, en⟩ : ∃ g, g = N / 8 + 1 := ⟨_, rfl⟩
  have qn : IntKind.i64.wrap (N / 8 + 1) = n := by rw [IntKind.wrap_i64]; omega
  have hn : 1 ≤ n ∧ n ≤ 18014398509481986 := by omega
  clear en
  generalize N / 8 = N8 at *
  have qc : IntKind.i64.wrap c = c := by rw [IntKind.wrap_i64]; omega
  have hm : c.tmod 9 = c % 9 := Int.tmod_eq_emod_of_nonneg hc.1
  have hk : 0 ≤ c % 9 ∧ c % 9 < 9 := by omega
  generalize c % 9 = k at *
  have q1 : IntKind.i64.wrap k = k := by rw [IntKind.wrap_i64]; omega
  have p1 : 0 ≤ k * n := Int.mul_nonneg hk.1 (by omega)
  have p2 : k * n ≤ 8 * n := Int.mul_le_mul_of_nonneg_right (by omega) (by omega)
  have e1 := Width_in x y (by omega) (by omega) (by omega)
  have e2 := RWidth_in x y (by omega) (by omega) (by omega)
  have e3 := Narrow_in N (by omega)
  have e4 := RNarrow_in N (by omega)
  have e5 := Index_in x N y (by omega) (by omega) (by omega) (by omega)
  have e6 := RIndex_in x N y (by omega) (by omega) (by omega) (by omega)
  have e7 := Start_in x n k (by omega) (by omega)
  have e8 := RStart_in x n k (by omega) (by omega)
  generalize (y - x) / 8 + 1 = r1 at *
  generalize (N + 7) / 8 = r2 at *
  generalize (y - x) / N = r3 at *
  generalize x + k * n = r4 at *
  have E1 := Lib.hid e1; have E2 := Lib.hid e2; have E3 := Lib.hid e3; have E4 := Lib.hid e4; have E5 := Lib.hid e5
  have E6 := Lib.hid e6; have E7 := Lib.hid e7; have E8 := Lib.hid e8
  clear e1 e2 e3 e4 e5 e6 e7 e8 ha hb hv hA hB p1 p2 hxy
  go_enter Try.func3, Try.ntmps3
  go_wp2_with fail
  (with_reducible refine (EH.out _).mono ?_)
  rintro e w0 ⟨rfl, u0⟩
  go_wp2_with fail
  (with_reducible refine (ETA.out _).mono ?_)
  rintro e w' ⟨rfl, rfl⟩
  go_wp2_with fail
  (with_reducible refine (ETB.out _).mono ?_)
  rintro e w' ⟨rfl, rfl⟩
  go_wp2_with fail
  (with_reducible refine (ETA.out _).mono ?_)
  rintro e w' ⟨rfl, rfl⟩
  go_wp2_with fail
  (with_reducible refine (ETB.out _).mono ?_)
  rintro e w' ⟨rfl, rfl⟩
  go_wp2_with fail
  (with_reducible refine (ETN.out _).mono ?_)
  rintro e w' ⟨rfl, rfl⟩
  go_wp2_with fail
  (with_reducible refine (E1.out _).mono ?_)
  rintro e w6 ⟨rfl, u6⟩
  go_wp2_with fail
  (with_reducible refine (E2.out _).mono ?_)
  rintro e w7 ⟨rfl, u7⟩
  go_wp2_with fail
  (with_reducible refine (E3.out _).mono ?_)
  rintro e w8 ⟨rfl, u8⟩
  go_wp2_with fail
  (with_reducible refine (E4.out _).mono ?_)
  rintro e w9 ⟨rfl, u9⟩
  go_wp2_with fail
  (with_reducible refine (E5.out _).mono ?_)
  rintro e w10 ⟨rfl, u10⟩
  go_wp2_with fail
  (with_reducible refine (E6.out _).mono ?_)
  rintro e w11 ⟨rfl, u11⟩
  go_wp2_with fail
  (with_reducible refine (E7.out _).mono ?_)
  rintro e w12 ⟨rfl, u12⟩
  go_wp2_with fail
  (with_reducible refine (E8.out _).mono ?_)
  rintro e w13 ⟨rfl, u13⟩
  go_wp2_with fail
  go_ret
  exact ⟨rfl, u0.thn (u6.thn (u7.thn (u8.thn (u9.thn (u10.thn (u11.thn (u12.thn (u13))))))))⟩
end Go.Proofs.Ytiapdlinpnpcpaa
