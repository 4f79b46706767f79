/- The reference memory's Do in one contract. -/
import Derived.Test.YtbalfkdeemgclaaRD
namespace Go.Proofs.Ytbalfkdeemgclaa
open Go.RowKit
section
variable {F : List Nat} {p bw : Nat} {s : St} {w : World}
theorem Do_step {n : Nat} (h : RMem F p bw s w) (h4 : Four n s) (hn : n ≤ 100000) (k t i a b : Int) (hk : 1 ≤ k ∧ k ≤ 7) (ht : 0 ≤ t) :
    Calls Try.prog 14 #[.pointer (some ⟨p, 0, none⟩), .agg #[.int .i64 k, .int .i64 t, .int .i64 i, .int .i64 a, .int .i64 b]] w fun e w' =>
      e = .returned (.tuple #[.int .i64 (s.step ⟨k, t, i, a, b⟩).2.1, .bool (s.step ⟨k, t, i, a, b⟩).2.2]) ∧ ∃ F', RMem F' p bw (s.step ⟨k, t, i, a, b⟩).1 w' ∧ Goes F F' w w' := by
  have hs := h4.small hn
  by_cases c4 : k ≤ 4
  · by_cases hi : 0 ≤ i ∧ i < s.ws.length
    · obtain ⟨j, rfl⟩ := Int.eq_ofNat_of_zero_le hi.1
      have hj : j < s.ws.length := by omega
      have hd := Do_word h hs k t j a b ⟨hk.1, c4⟩ hj s.ws[j] rfl
      have hsame : s.ws.set j s.ws[j] = s.ws := by simp
      simp only [St.step, if_pos c4, if_pos hi, x_at hj]
      rcases (show k = 1 ∨ k = 2 ∨ k = 3 ∨ k = 4 from by omega) with rfl | rfl | rfl | rfl
      · have := hd s.ws[j] s.ws[j] true false (by simp) (by simp) (by simp) (by simp)
        rw [hsame] at this
        simpa using this
      · have := hd (wrap64 (s.ws[j] + a)) (wrap64 (s.ws[j] + a)) true false (by simp) (by simp) (by simp) (by simp)
        simpa using this
      · by_cases hx : s.ws[j] = a
        · have := hd b 0 true true (by simp [hx]) (by simp [hx]) (by simp) (by simp)
          simpa [hx] using this
        · have := hd s.ws[j] 0 false false (by simp [hx]) (by simp [hx]) (by simp) (by simp)
          rw [hsame] at this
          simpa [hx] using this
      · have := hd a 0 true false (by simp) (by simp) (by simp) (by simp)
        simpa using this
    · simp only [St.step, if_pos c4, if_neg hi]
      exact (Do_out h hs k t i a b ⟨hk.1, c4⟩ (by omega)).mono fun e w' ⟨he, hu⟩ => ⟨he, F, h.stay hu, hu.mono (by simp), fun _ hx => .inl hx⟩
  · have h5 : 5 ≤ k := by omega
    have h0 : (s.step ⟨k, t, i, a, b⟩).2.1 = 0 := step_int ⟨k, t, i, a, b⟩ (by simp only [ne_eq]; omega) (by simp only [ne_eq]; omega)
    rw [h0]
    refine Do_mutex (s.step ⟨k, t, i, a, b⟩).1 h k t i a b h5 _ ?_
    intro w1 h1
    by_cases hi : 0 ≤ i ∧ i < s.ms.length
    · obtain ⟨j, rfl⟩ := Int.eq_ofNat_of_zero_le hi.1
      have hj : j < s.ms.length := by omega
      have hh := h4.held j
      rw [m_at hj] at hh
      by_cases k7 : k = 7
      · subst k7
        have := Mu7_in h1 hs t j a b hj s.ms[j] rfl hh
        simp only [St.step, if_neg c4, if_pos hi, m_at hj, show ¬ (7 : Int) = 5 from by decide, show ¬ (7 : Int) = 6 from by decide, if_false]
        by_cases hm : s.ms[j] = (true, t)
        · simp only [hm, if_true, decide_true] at this ⊢
          exact this.mono fun e w' ⟨he, hM, hu⟩ => ⟨he, F, hM, hu, fun _ hx => .inl hx⟩
        · simp only [hm, if_false, decide_false] at this ⊢
          exact this.mono fun e w' ⟨he, hM, hu⟩ => ⟨he, F, hM, hu, fun _ hx => .inl hx⟩
      · have hd := Mu_in h1 hs k t j a b (by omega) hj s.ms[j] rfl hh ht
        by_cases k5 : k = 5
        · subst k5
          simp only [St.step, if_neg c4, if_pos hi, m_at hj, if_true]
          by_cases hm : s.ms[j].1 = true
          · have := hd false (by simp [hm]) 1 (by simp [hm, b2i]) s.v (by simp) (true, t) (by simp)
            simpa [hm, msNew, b2i] using this
          · have hm' : s.ms[j].1 = false := by simpa using hm
            have := hd true (by simp [hm']) 1 (by simp [hm', b2i]) s.v (by simp) (true, t) (by simp)
            simpa [hm', msNew, b2i] using this
        · have k6 : k = 6 := by omega
          subst k6
          simp only [St.step, if_neg c4, if_pos hi, m_at hj, if_true, if_neg k5]
          by_cases hm : s.ms[j] = (true, t)
          · have := hd true (by simp [hm]) 0 (by simp [hm, b2i]) s.v (by simp) (false, 0) (by simp)
            simpa [hm, msNew, b2i] using this
          · have := hd false (by simp [hm]) (b2i s.ms[j].1) (by simp) (s.v + 1) (by simp) (false, 0) (by simp)
            simpa [hm, msNew] using this
    · have := Mu_out h1 hs k t i a b ⟨h5, hk.2⟩ (by omega)
      simp only [St.step, if_neg c4, if_neg hi]
      by_cases k6 : k ≤ 6
      · rw [if_pos k6]
        rw [if_neg (by omega)] at this
        exact this.mono fun e w' ⟨he, hM, hu⟩ => ⟨he, F, hM, hu, fun _ hx => .inl hx⟩
      · rw [if_neg k6]
        rw [if_pos (by omega)] at this
        exact this.mono fun e w' ⟨he, hM, hu⟩ => ⟨he, F, hM, hu, fun _ hx => .inl hx⟩
end
end Go.Proofs.Ytbalfkdeemgclaa
