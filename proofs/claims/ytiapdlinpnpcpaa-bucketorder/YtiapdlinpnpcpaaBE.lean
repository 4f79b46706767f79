/- BucketOrder: the walk. -/
import Derived.Test.YtiapdlinpnpcpaaBB
namespace Go.Proofs.Ytiapdlinpnpcpaa
open Go.RowKit Go.Lib

theorem order_div {d e n : Int} (h : d ≤ e) (hn : 1 ≤ n) : d / n ≤ e / n ∧ (d / n = e / n → e - d < n) ∧ (1 < e / n - d / n → n < e - d) := by
  have h1 := Int.ediv_mul_add_emod d n
  have h2 := mod_bd (a := d) hn
  have h3 := Int.ediv_mul_add_emod e n
  have h4 := mod_bd (a := e) hn
  refine ⟨Int.ediv_le_ediv (by omega) h, fun he => ?_, fun he => ?_⟩
  · rw [he] at h1
    omega
  · have h5 : (d / n + 2) * n ≤ e / n * n := Int.mul_le_mul_of_nonneg_right (by omega) (by omega)
    rw [Int.add_mul] at h5
    omega

set_option maxHeartbeats 2000000 in
theorem Order_any (a b c v : Int) (ha : 0 ≤ a ∧ a < 18446744073709551616) (hb : 0 ≤ b ∧ b < 18446744073709551616) (hc : 0 ≤ c ∧ c < 18446744073709551616) (hv : 0 ≤ v ∧ v < 18446744073709551616) (w : World) :
    Calls Try.prog 6 #[.int .u64 a, .int .u64 b, .int .u64 c, .int .u64 v] w fun e w' => e = .returned (.bool true) ∧ Upd [] w w' := by
  have EH := Lib.hid head_any
  obtain ⟨A, eA⟩ : ∃ g, g = a % 1152921504606846977 := ⟨_, rfl⟩
  obtain ⟨B, eB⟩ : ∃ g, g = b % 1152921504606846977 := ⟨_, rfl⟩
  have ETA := Lib.hid (Time_law a ha)
  have ETB := Lib.hid (Time_law b hb)
  rw [← eA] at ETA
  rw [← eB] at ETB
  have hA : 0 ≤ A ∧ A ≤ 1152921504606846976 := by omega
  have hB : 0 ≤ B ∧ B ≤ 1152921504606846976 := by omega
  clear eA eB
  obtain ⟨C, eC⟩ : ∃ g, g = c % 1152921504606846977 := ⟨_, rfl⟩
  have ETC := Lib.hid (Time_law c hc)
  rw [← eC] at ETC
  have hC : 0 ≤ C ∧ C ≤ 1152921504606846976 := by omega
  clear eC
  obtain ⟨n, en⟩ : ∃ g, g = v % 144115188075855873 + 1 := ⟨_, rfl⟩
  have ETN := Lib.hid (Span_law v hv)
  rw [← en] at ETN
  have hn : 1 ≤ n ∧ n ≤ 144115188075855873 := by omega
  clear en
  obtain ⟨m, hm⟩ : ∃ g, (if B < A then B else A) = g := ⟨_, rfl⟩
  obtain ⟨M, hM⟩ : ∃ g, (if A < B then B else A) = g := ⟨_, rfl⟩
  obtain ⟨f, hf⟩ : ∃ g, (if C < m then C else m) = g := ⟨_, rfl⟩
  obtain ⟨t, ht⟩ : ∃ g, (if C < M then C else M) = g := ⟨_, rfl⟩
  obtain ⟨u, hu⟩ : ∃ g, (if M < C then C else M) = g := ⟨_, rfl⟩
  have hs1 : ∀ w, Sem.run Try.prog (Builtin.min_ #[3, 3, 3] 3 #[.int .i64 A, .int .i64 B, .int .i64 C]) w = .ok (.int .i64 f) w := by
    intro w
    rw [← hf, ← hm]
    rfl
  have hs2 : ∀ w, Sem.run Try.prog (Builtin.max_ #[3, 3, 3] 3 #[.int .i64 A, .int .i64 B, .int .i64 C]) w = .ok (.int .i64 u) w := by
    intro w
    rw [← hu, ← hM]
    rfl
  have hord : 0 ≤ f ∧ f ≤ t ∧ t ≤ u ∧ u ≤ 1152921504606846976 := by omega
  obtain ⟨o1, o2, o3⟩ := order_div (d := t - f) (e := u - f) (by omega) hn.1
  rw [show u - f - (t - f) = u - t by omega] at o2 o3
  have b1 := div_bd (a := t - f) (by omega) hn.1
  have b2 := div_bd (a := u - f) (by omega) hn.1
  have e1 := Index_in f n t (by omega) (by omega) (by omega) (by omega)
  have e2 := Index_in f n u (by omega) (by omega) (by omega) (by omega)
  generalize (t - f) / n = i at *
  generalize (u - f) / n = k at *
  have E1 := Lib.hid e1; have E2 := Lib.hid e2
  have d1 : decide (t < f) = false := by simp; omega
  have d2 : decide (u < t) = false := by simp; omega
  have d3 : decide (i ≤ k) = true := by simp; omega
  have q1 : IntKind.i64.wrap (u - t) = u - t := by rw [IntKind.wrap_i64]; omega
  have q2 : IntKind.i64.wrap (k - i) = k - i := by rw [IntKind.wrap_i64]; omega
  clear e1 e2 hA hB hC ha hb hc hv hm hf hu
  by_cases h1 : i = k
  · have d5 : decide (u - t < n) = true := by simpa using o2 h1
    subst h1
    clear o1 o2 o3 b1 b2 hord
    go_enter Try.func6, Try.ntmps6
    go_wp2_with fail
    (with_reducible refine (EH.out _).mono ?_)
    rintro e w0 ⟨rfl, u0⟩
    go_wp2_with fail
    (with_reducible refine (ETA.out _).mono ?_)
    rintro e w' ⟨rfl, rfl⟩
    go_wp2_with fail
    (with_reducible refine (ETB.out _).mono ?_)
    rintro e w' ⟨rfl, rfl⟩
    go_wp2_with fail
    (with_reducible refine (ETC.out _).mono ?_)
    rintro e w' ⟨rfl, rfl⟩
    go_wp2_with fail
    (with_reducible refine (ETA.out _).mono ?_)
    rintro e w' ⟨rfl, rfl⟩
    go_wp2_with fail
    (with_reducible refine (ETB.out _).mono ?_)
    rintro e w' ⟨rfl, rfl⟩
    go_wp2_with fail
    (with_reducible refine (ETC.out _).mono ?_)
    rintro e w' ⟨rfl, rfl⟩
    go_wp2_with fail
    (with_reducible refine (ETA.out _).mono ?_)
    rintro e w' ⟨rfl, rfl⟩
    go_wp2_with fail
    (with_reducible refine (ETB.out _).mono ?_)
    rintro e w' ⟨rfl, rfl⟩
    go_wp2_with fail
    (with_reducible refine (ETC.out _).mono ?_)
    rintro e w' ⟨rfl, rfl⟩
    go_wp2_with fail
    (with_reducible refine (ETN.out _).mono ?_)
    rintro e w' ⟨rfl, rfl⟩
    go_wp2_with fail
    (with_reducible refine (E1.out _).mono ?_)
    rintro e w11 ⟨rfl, u11⟩
    go_wp2_with fail
    (with_reducible refine (E2.out _).mono ?_)
    rintro e w12 ⟨rfl, u12⟩
    go_wp2_with fail
    go_ret
    exact ⟨rfl, u0.thn (u11.thn (u12))⟩
  · by_cases h2 : k - i ≤ 1
    · have d6 : decide (k - i ≤ 1) = true := by simpa using h2
      clear h2 o1 o2 o3 b1 b2 hord
      go_enter Try.func6, Try.ntmps6
      go_wp2_with fail
      (with_reducible refine (EH.out _).mono ?_)
      rintro e w0 ⟨rfl, u0⟩
      go_wp2_with fail
      (with_reducible refine (ETA.out _).mono ?_)
      rintro e w' ⟨rfl, rfl⟩
      go_wp2_with fail
      (with_reducible refine (ETB.out _).mono ?_)
      rintro e w' ⟨rfl, rfl⟩
      go_wp2_with fail
      (with_reducible refine (ETC.out _).mono ?_)
      rintro e w' ⟨rfl, rfl⟩
      go_wp2_with fail
      (with_reducible refine (ETA.out _).mono ?_)
      rintro e w' ⟨rfl, rfl⟩
      go_wp2_with fail
      (with_reducible refine (ETB.out _).mono ?_)
      rintro e w' ⟨rfl, rfl⟩
      go_wp2_with fail
      (with_reducible refine (ETC.out _).mono ?_)
      rintro e w' ⟨rfl, rfl⟩
      go_wp2_with fail
      (with_reducible refine (ETA.out _).mono ?_)
      rintro e w' ⟨rfl, rfl⟩
      go_wp2_with fail
      (with_reducible refine (ETB.out _).mono ?_)
      rintro e w' ⟨rfl, rfl⟩
      go_wp2_with fail
      (with_reducible refine (ETC.out _).mono ?_)
      rintro e w' ⟨rfl, rfl⟩
      go_wp2_with fail
      (with_reducible refine (ETN.out _).mono ?_)
      rintro e w' ⟨rfl, rfl⟩
      go_wp2_with fail
      (with_reducible refine (E1.out _).mono ?_)
      rintro e w11 ⟨rfl, u11⟩
      go_wp2_with fail
      (with_reducible refine (E2.out _).mono ?_)
      rintro e w12 ⟨rfl, u12⟩
      go_wp2_with fail
      go_ret
      exact ⟨rfl, u0.thn (u11.thn (u12))⟩
    · have d6 : decide (k - i ≤ 1) = false := by simpa using h2
      have d7 : decide (n < u - t) = true := by simpa using o3 (by omega)
      clear h2 o1 o2 o3 b1 b2 hord
      go_enter Try.func6, Try.ntmps6
      go_wp2_with fail
      (with_reducible refine (EH.out _).mono ?_)
      rintro e w0 ⟨rfl, u0⟩
      go_wp2_with fail
      (with_reducible refine (ETA.out _).mono ?_)
      rintro e w' ⟨rfl, rfl⟩
      go_wp2_with fail
      (with_reducible refine (ETB.out _).mono ?_)
      rintro e w' ⟨rfl, rfl⟩
      go_wp2_with fail
      (with_reducible refine (ETC.out _).mono ?_)
      rintro e w' ⟨rfl, rfl⟩
      go_wp2_with fail
      (with_reducible refine (ETA.out _).mono ?_)
      rintro e w' ⟨rfl, rfl⟩
      go_wp2_with fail
      (with_reducible refine (ETB.out _).mono ?_)
      rintro e w' ⟨rfl, rfl⟩
      go_wp2_with fail
      (with_reducible refine (ETC.out _).mono ?_)
      rintro e w' ⟨rfl, rfl⟩
      go_wp2_with fail
      (with_reducible refine (ETA.out _).mono ?_)
      rintro e w' ⟨rfl, rfl⟩
      go_wp2_with fail
      (with_reducible refine (ETB.out _).mono ?_)
      rintro e w' ⟨rfl, rfl⟩
      go_wp2_with fail
      (with_reducible refine (ETC.out _).mono ?_)
      rintro e w' ⟨rfl, rfl⟩
      go_wp2_with fail
      (with_reducible refine (ETN.out _).mono ?_)
      rintro e w' ⟨rfl, rfl⟩
      go_wp2_with fail
      (with_reducible refine (E1.out _).mono ?_)
      rintro e w11 ⟨rfl, u11⟩
      go_wp2_with fail
      (with_reducible refine (E2.out _).mono ?_)
      rintro e w12 ⟨rfl, u12⟩
      go_wp2_with fail
      go_ret
      exact ⟨rfl, u0.thn (u11.thn (u12))⟩
end Go.Proofs.Ytiapdlinpnpcpaa
