/- HandleDistinct and HandleOrder: the walks. -/
import Derived.Test.YtgbjhbokljjekaaJB
namespace Go.Proofs.Ytgbjhbokljjekaa
open Go.RowKit Go.Lib

theorem beq_of_iff {a b c d : Int} {p q : Bool} (hp : (a == b) = p) (hq : (c == d) = q) {u v : Int} (h : u = v ↔ a = b ∧ c = d) : (u == v) = (p && q) := by
  subst hp hq
  rw [Bool.eq_iff_iff]
  simp only [beq_iff_eq, Bool.and_eq_true]
  exact h

set_option maxHeartbeats 4000000 in
theorem Distinct_any (a b x y : Int) (ha : 0 ≤ a ∧ a < 18446744073709551616) (hb : 0 ≤ b ∧ b < 18446744073709551616) (hx : 0 ≤ x ∧ x < 256) (hy : 0 ≤ y ∧ y < 256) (w : World) :
    Calls Try.prog 6 #[.int .u64 a, .int .u64 b, .int .u8 x, .int .u8 y] w fun e w' => e = .returned (.bool true) ∧ Upd [] w w' := by
  have d4 : x.tmod 4 = x % 4 := Int.tmod_eq_emod_of_nonneg hx.1
  have d64 : x.tmod 64 = x % 64 := Int.tmod_eq_emod_of_nonneg hx.1
  have c4 : y.tmod 4 = y % 4 := Int.tmod_eq_emod_of_nonneg hy.1
  have c64 : y.tmod 64 = y % 64 := Int.tmod_eq_emod_of_nonneg hy.1
  have EH := Lib.hid head_any
  have EG := Lib.hid (Gen_law a ha)
  have EK := Lib.hid (Gen_law b hb)
  obtain ⟨g, hg⟩ : ∃ g, g = a % 1099511627777 := ⟨_, rfl⟩
  obtain ⟨k, hk⟩ : ∃ g, g = b % 1099511627777 := ⟨_, rfl⟩
  rw [← hg] at EG
  rw [← hk] at EK
  have hg2 : 0 ≤ g ∧ g ≤ 1099511627776 := by omega
  have hk2 : 0 ≤ k ∧ k ≤ 1099511627776 := by omega
  clear hg hk
  obtain ⟨s, hs⟩ : ∃ g, g = x % 4 := ⟨_, rfl⟩
  obtain ⟨t, ht⟩ : ∃ g, g = y % 4 := ⟨_, rfl⟩
  obtain ⟨i, hi⟩ : ∃ g, g = x % 64 := ⟨_, rfl⟩
  obtain ⟨j, hj⟩ : ∃ g, g = y % 64 := ⟨_, rfl⟩
  have hs5 : 0 ≤ s ∧ s < 4 := by omega
  have ht5 : 0 ≤ t ∧ t < 4 := by omega
  have hi5 : 0 ≤ i ∧ i < 64 := by omega
  have hj5 : 0 ≤ j ∧ j < 64 := by omega
  rw [← hs] at d4
  rw [← hi] at d64
  rw [← ht] at c4
  rw [← hj] at c64
  clear hs ht hi hj
  have E1 := Lib.hid (Word_in g s hg2 hs5)
  have E2 := Lib.hid (Word_in k t hk2 ht5)
  have E3 := Lib.hid (Make_in i g hi5 hg2)
  have E4 := Lib.hid (Make_in j k hj5 hk2)
  obtain ⟨p, hp⟩ : ∃ p, (g == k) = p := ⟨_, rfl⟩
  obtain ⟨q, hq⟩ : ∃ p, (s == t) = p := ⟨_, rfl⟩
  obtain ⟨r, hr⟩ : ∃ p, (i == j) = p := ⟨_, rfl⟩
  have h1 : (4 * g + s == 4 * k + t) = (p && q) := beq_of_iff hp hq (by omega)
  have h2 : (64 * g + i == 64 * k + j) = (p && r) := beq_of_iff hp hr (by omega)
  generalize 4 * g + s = W at *
  generalize 4 * k + t = V at *
  generalize 64 * g + i = H at *
  generalize 64 * k + j = J at *
  clear hg2 hk2 hs5 ht5 hi5 hj5
  cases p <;> cases q <;> cases r <;> simp only [Bool.and_true, Bool.and_false] at h1 h2
  all_goals
    go_enter Try.func6, Try.ntmps6
    go_wp2_with fail
    refine (EH.out _).mono ?_
    rintro e w' ⟨rfl, rfl⟩
    go_wp2_with fail
    refine (EG.out _).mono ?_
    rintro e w' ⟨rfl, rfl⟩
    go_wp2_with fail
    refine (EK.out _).mono ?_
    rintro e w' ⟨rfl, rfl⟩
    go_wp2_with fail
    refine (E1.out _).mono ?_
    rintro e w' ⟨rfl, rfl⟩
    go_wp2_with fail
    refine (E2.out _).mono ?_
    rintro e w' ⟨rfl, rfl⟩
    go_wp2_with fail
    refine (E3.out _).mono ?_
    rintro e w' ⟨rfl, rfl⟩
    go_wp2_with fail
    refine (E4.out _).mono ?_
    rintro e w' ⟨rfl, rfl⟩
    go_wp2_with fail
    go_ret
    exact ⟨rfl, Upd.refl [] _⟩

set_option maxHeartbeats 4000000 in
theorem Order_any (a b x y : Int) (ha : 0 ≤ a ∧ a < 18446744073709551616) (hb : 0 ≤ b ∧ b < 18446744073709551616) (hx : 0 ≤ x ∧ x < 256) (hy : 0 ≤ y ∧ y < 256) (w : World) :
    Calls Try.prog 7 #[.int .u64 a, .int .u64 b, .int .u8 x, .int .u8 y] w fun e w' => e = .returned (.bool true) ∧ Upd [] w w' := by
  have d4 : x.tmod 4 = x % 4 := Int.tmod_eq_emod_of_nonneg hx.1
  have d64 : x.tmod 64 = x % 64 := Int.tmod_eq_emod_of_nonneg hx.1
  have c4 : y.tmod 4 = y % 4 := Int.tmod_eq_emod_of_nonneg hy.1
  have c64 : y.tmod 64 = y % 64 := Int.tmod_eq_emod_of_nonneg hy.1
  have EH := Lib.hid head_any
  have EG := Lib.hid (Gen_law a ha)
  have EK := Lib.hid (Gen_law b hb)
  obtain ⟨g, hg⟩ : ∃ g, g = a % 1099511627777 := ⟨_, rfl⟩
  obtain ⟨k, hk⟩ : ∃ g, g = b % 1099511627777 := ⟨_, rfl⟩
  rw [← hg] at EG
  rw [← hk] at EK
  have hg2 : 0 ≤ g ∧ g ≤ 1099511627776 := by omega
  have hk2 : 0 ≤ k ∧ k ≤ 1099511627776 := by omega
  clear hg hk
  by_cases hle : k ≤ g
  · have d0 : decide (k ≤ g) = true := by simpa using hle
    go_enter Try.func7, Try.ntmps7
    go_wp2_with fail
    refine (EH.out _).mono ?_
    rintro e w' ⟨rfl, rfl⟩
    go_wp2_with fail
    refine (EG.out _).mono ?_
    rintro e w' ⟨rfl, rfl⟩
    go_wp2_with fail
    refine (EK.out _).mono ?_
    rintro e w' ⟨rfl, rfl⟩
    go_wp2_with fail
    go_ret
    exact ⟨rfl, Upd.refl [] _⟩
  · have d0 : decide (k ≤ g) = false := by simpa using hle
    obtain ⟨s, hs⟩ : ∃ g, g = x % 4 := ⟨_, rfl⟩
    obtain ⟨t, ht⟩ : ∃ g, g = y % 4 := ⟨_, rfl⟩
    obtain ⟨i, hi⟩ : ∃ g, g = x % 64 := ⟨_, rfl⟩
    obtain ⟨j, hj⟩ : ∃ g, g = y % 64 := ⟨_, rfl⟩
    have hs5 : 0 ≤ s ∧ s < 4 := by omega
    have ht5 : 0 ≤ t ∧ t < 4 := by omega
    have hi5 : 0 ≤ i ∧ i < 64 := by omega
    have hj5 : 0 ≤ j ∧ j < 64 := by omega
    rw [← hs] at d4
    rw [← hi] at d64
    rw [← ht] at c4
    rw [← hj] at c64
    clear hs ht hi hj
    have E1 := Lib.hid (Word_in g s hg2 hs5)
    have E2 := Lib.hid (Word_in k t hk2 ht5)
    have E3 := Lib.hid (Make_in i g hi5 hg2)
    have E4 := Lib.hid (Make_in j k hj5 hk2)
    have h1 : 4 * g + s < 4 * k + t := by omega
    have h2 : 64 * g + i < 64 * k + j := by omega
    generalize 4 * g + s = W at *
    generalize 4 * k + t = V at *
    generalize 64 * g + i = H at *
    generalize 64 * k + j = J at *
    clear hg2 hk2 hs5 ht5 hi5 hj5
    have h3 : decide (W < V) = true := by simpa using h1
    have h4 : decide (H < J) = true := by simpa using h2
    go_enter Try.func7, Try.ntmps7
    go_wp2_with fail
    refine (EH.out _).mono ?_
    rintro e w' ⟨rfl, rfl⟩
    go_wp2_with fail
    refine (EG.out _).mono ?_
    rintro e w' ⟨rfl, rfl⟩
    go_wp2_with fail
    refine (EK.out _).mono ?_
    rintro e w' ⟨rfl, rfl⟩
    go_wp2_with fail
    refine (E1.out _).mono ?_
    rintro e w' ⟨rfl, rfl⟩
    go_wp2_with fail
    refine (E2.out _).mono ?_
    rintro e w' ⟨rfl, rfl⟩
    go_wp2_with fail
    refine (E3.out _).mono ?_
    rintro e w' ⟨rfl, rfl⟩
    go_wp2_with fail
    refine (E4.out _).mono ?_
    rintro e w' ⟨rfl, rfl⟩
    go_wp2_with fail
    go_ret
    exact ⟨rfl, Upd.refl [] _⟩
end Go.Proofs.Ytgbjhbokljjekaa
