/- Schedules, plainly: ages, windows, repair. Nothing of the program. -/
import Derived.Test.YtbpkigdelfgafaaRows
namespace Go.Proofs.Ytbpkigdelfgafaa

/-- How many picks lie behind the last pick of t, in the list of the picks so far (the newest first). -/
def ageR (t : Int) : List Int → Nat
  | [] => 0
  | x :: r => if x = t then 0 else ageR t r + 1
def age (t : Int) (l : List Int) : Nat := ageR t l.reverse
theorem age_nil (t : Int) : age t [] = 0 := rfl
theorem age_snoc (t : Int) (l : List Int) (x : Int) : age t (l ++ [x]) = if x = t then 0 else age t l + 1 := by
  simp [age, ageR]
theorem ageR_ge (t : Int) (r : List Int) : ∀ w, w ≤ ageR t r ↔ w ≤ r.length ∧ t ∉ r.take w := by
  induction r with
  | nil => intro w; simp [ageR]
  | cons x r ih =>
    intro w
    cases w with
    | zero => simp
    | succ w =>
      by_cases hx : x = t
      · simp [ageR, hx]
      · simp only [ageR, if_neg hx, Nat.add_le_add_iff_right, ih w, List.length_cons, List.take_succ_cons, List.mem_cons, not_or]
        constructor
        · rintro ⟨a, b⟩; exact ⟨a, fun e => hx e.symm, b⟩
        · rintro ⟨a, _, b⟩; exact ⟨a, b⟩
theorem age_ge (t : Int) (l : List Int) (w : Nat) : w ≤ age t l ↔ w ≤ l.length ∧ t ∉ l.drop (l.length - w) := by
  rw [age, ageR_ge, List.length_reverse, List.take_reverse]
  simp
theorem age_le (t : Int) (l : List Int) : age t l ≤ l.length := ((age_ge t l _).1 (Nat.le_refl _)).1

/-- Every window of w consecutive picks holds each of the n threads. -/
def Win (n w : Nat) (l : List Int) : Prop := ∀ i, i + w ≤ l.length → ∀ t : Nat, t < n → (t : Int) ∈ (l.drop i).take w
theorem win_iff (n w : Nat) (l : List Int) : Win n w l ↔ ∀ m, m ≤ l.length → ∀ t : Nat, t < n → age t (l.take m) < w ∨ w = 0 ∧ (l.take m).length < 0 ∨ w = 0 ∧ False ∨ age t (l.take m) < w := by
  constructor
  · intro h m hm t ht
    refine .inl (Nat.lt_of_not_le fun hw => ?_)
    obtain ⟨hl, hn⟩ := (age_ge t _ w).1 hw
    have hlm : (l.take m).length = m := by simp; omega
    rw [hlm] at hl hn
    have := h (m - w) (by omega) t ht
    rw [List.drop_take, show m - (m - w) = w by omega] at hn
    exact hn this
  · intro h i hi t ht
    have h1 : age t (l.take (i + w)) < w := by
      rcases h (i + w) hi t ht with a | a | a | a
      · exact a
      · exact absurd a.2 (by simp)
      · exact a.2.elim
      · exact a
    apply Classical.byContradiction
    intro hn
    have hlm : (l.take (i + w)).length = i + w := by simp; omega
    have : w ≤ age t (l.take (i + w)) := (age_ge t _ w).2 ⟨by omega, by
      rw [hlm, show i + w - w = i by omega, List.drop_take, show i + w - i = w by omega]
      exact hn⟩
    omega
theorem win_age (n w : Nat) (l : List Int) : Win n w l ↔ ∀ m, m ≤ l.length → ∀ t : Nat, t < n → age t (l.take m) < w := by
  rw [win_iff]
  constructor
  · intro h m hm t ht
    rcases h m hm t ht with a | a | a | a
    · exact a
    · exact absurd a.2 (by simp)
    · exact a.2.elim
    · exact a
  · intro h m hm t ht
    exact .inl (h m hm t ht)
def fairB (n w : Nat) (l : List Int) : Bool := (List.range (l.length + 1)).all fun i => !(decide (i + w ≤ l.length)) || (List.range n).all fun t => decide ((t : Int) ∈ (l.drop i).take w)
theorem fairB_iff (n w : Nat) (l : List Int) : fairB n w l = true ↔ Win n w l := by
  simp only [fairB, Win, List.all_eq_true, List.mem_range, Bool.or_eq_true, Bool.not_eq_true', decide_eq_false_iff_not, decide_eq_true_eq]
  constructor
  · intro h i hi t ht
    exact (h i (by omega)).resolve_left (by omega) t ht
  · intro h i _
    by_cases hi : i + w ≤ l.length
    · exact .inr (h i hi)
    · exact .inl hi

/-- The least index below n (counted up) at which f is greatest. -/
def old (f : Nat → Nat) : Nat → Nat
  | 0 => 0
  | k + 1 => if f (old f k) < f k then k else old f k
theorem old_lt (f : Nat → Nat) (n : Nat) (h : 0 < n) : old f n < n := by
  induction n with
  | zero => omega
  | succ k ih =>
    unfold old
    split
    · omega
    · cases k with
      | zero => simp [old]
      | succ k => have := ih (by omega); omega
theorem old_max (f : Nat → Nat) (n i : Nat) (h : i < n) : f i ≤ f (old f n) := by
  induction n with
  | zero => omega
  | succ k ih =>
    unfold old
    by_cases e : i = k
    · subst e
      split
      · exact Nat.le_refl _
      · omega
    · have := ih (by omega)
      split <;> omega

def ages (l : List Int) (t : Nat) : Nat := age t l
theorem ages_snoc (l : List Int) (x : Int) (t : Nat) : ages (l ++ [x]) t = if x = (t : Int) then 0 else ages l t + 1 := age_snoc t l x
/-- The pick that is made where p was asked for. -/
def choice (n w : Nat) (l : List Int) (p : Int) : Int := if w - n ≤ ages l (old (ages l) n) then (old (ages l) n : Nat) else p
def repair (n w : Nat) (ps : List Int) : List Int := ps.foldl (fun l p => l ++ [choice n w l p]) []
theorem repair_snoc (n w : Nat) (ps : List Int) (p : Int) : repair n w (ps ++ [p]) = repair n w ps ++ [choice n w (repair n w ps) p] := by
  simp [repair]
theorem repair_take_succ (n w : Nat) (ps : List Int) (k : Nat) (h : k < ps.length) : repair n w (ps.take (k + 1)) = repair n w (ps.take k) ++ [choice n w (repair n w (ps.take k)) ps[k]] := by
  rw [List.take_succ_eq_append_getElem h, repair_snoc]
theorem repair_take_length (n w : Nat) (ps : List Int) (k : Nat) (h : k ≤ ps.length) : (repair n w (ps.take k)).length = k := by
  induction k with
  | zero => simp [repair]
  | succ k ih => rw [repair_take_succ n w ps k (by omega), List.length_append, ih (by omega)]; rfl
theorem repair_length (n w : Nat) (ps : List Int) : (repair n w ps).length = ps.length := by
  have := repair_take_length n w ps ps.length (Nat.le_refl _)
  rwa [List.take_length] at this
theorem repair_pre (n w : Nat) (ps : List Int) (k m : Nat) (h : k ≤ m) (hm : m ≤ ps.length) : (repair n w (ps.take m)).take k = repair n w (ps.take k) := by
  induction m with
  | zero => obtain rfl : k = 0 := by omega
            simp [repair]
  | succ m ih =>
    by_cases e : k = m + 1
    · subst e
      exact List.take_of_length_le (by rw [repair_take_length n w ps _ hm]; exact Nat.le_refl _)
    · rw [repair_take_succ n w ps m (by omega), List.take_append_of_le_length (by rw [repair_take_length n w ps m (by omega)]; omega), ih (by omega) (by omega)]
theorem repair_take (n w : Nat) (ps : List Int) (k : Nat) (h : k ≤ ps.length) : (repair n w ps).take k = repair n w (ps.take k) := by
  have := repair_pre n w ps k ps.length h (Nat.le_refl _)
  rwa [List.take_length] at this
theorem repair_get (n w : Nat) (ps : List Int) (k : Nat) (h : k < ps.length) : (repair n w ps)[k]'(by rw [repair_length]; exact h) = choice n w ((repair n w ps).take k) ps[k] := by
  have h1 := repair_take n w ps (k + 1) (by omega)
  rw [repair_take_succ n w ps k h, ← repair_take n w ps k (by omega), List.take_succ_eq_append_getElem (by rw [repair_length]; exact h)] at h1
  have h2 := List.append_cancel_left h1
  exact (List.cons.inj h2).1

/-- All picks are of threads. -/
def Thr (n : Nat) (l : List Int) : Prop := ∀ x ∈ l, 0 ≤ x ∧ x < n
theorem choice_thr (n w : Nat) (l : List Int) (p : Int) (hn : 0 < n) (hp : 0 ≤ p ∧ p < n) : 0 ≤ choice n w l p ∧ choice n w l p < n := by
  unfold choice
  have := old_lt (ages l) n hn
  split
  · omega
  · exact hp
theorem repair_thr (n w : Nat) (ps : List Int) (hn : 0 < n) (h : Thr n ps) : Thr n (repair n w ps) := by
  intro x hx
  obtain ⟨k, hk, rfl⟩ := List.mem_iff_getElem.1 hx
  rw [repair_get n w ps k (by rw [repair_length] at hk; exact hk)]
  exact choice_thr n w _ _ hn (h _ (List.getElem_mem _))

theorem countP_but (P : Nat → Bool) (n q : Nat) (hq : q < n) (hP : P q = true) : (List.range n).countP (fun t => P t && !(t == q)) + 1 ≤ (List.range n).countP P := by
  induction n with
  | zero => omega
  | succ n ih =>
    rw [List.range_succ, List.countP_append, List.countP_append]
    by_cases e : q = n
    · subst e
      have h1 : (List.range q).countP (fun t => P t && !(t == q)) ≤ (List.range q).countP P := List.countP_mono_left (by intro x _ h; simp at h; exact h.1)
      simp [hP]
      simpa using h1
    · have := ih (by omega)
      have e2 : (n == q) = false := by simp; omega
      simp only [List.countP_cons, List.countP_nil, e2, Bool.not_false, Bool.and_true]
      omega
/-- Of the threads at most n - j have waited D + j picks. -/
def Few (n D : Nat) (l : List Int) : Prop := ∀ j, (List.range n).countP (fun t => decide (D + j ≤ ages l t)) ≤ n - j
theorem few_nil (n D : Nat) : Few n D [] := by
  intro j
  cases j with
  | zero => have := List.countP_le_length (p := fun t => decide (D + 0 ≤ ages [] t)) (l := List.range n); simpa using this
  | succ j =>
    rw [List.countP_eq_zero.2 (by intro a _; simp [ages, age_nil])]
    omega
theorem few_step (n w : Nat) (l : List Int) (p : Int) (h : Few n (w - n) l) : Few n (w - n) (l ++ [choice n w l p]) := by
  intro j
  cases j with
  | zero => have := List.countP_le_length (p := fun t => decide (w - n + 0 ≤ ages (l ++ [choice n w l p]) t)) (l := List.range n); simpa using this
  | succ j =>
    have hj := h j
    by_cases hd : ∃ t, t < n ∧ w - n + j ≤ ages l t
    · obtain ⟨t, ht, hge⟩ := hd
      have hmax := old_max (ages l) n t ht
      have hol := old_lt (ages l) n (by omega)
      have hc : choice n w l p = (old (ages l) n : Nat) := by unfold choice; rw [if_pos (by omega)]
      have hb := countP_but (fun t => decide (w - n + j ≤ ages l t)) n (old (ages l) n) hol (by simp; omega)
      have he : (List.range n).countP (fun t => decide (w - n + (j + 1) ≤ ages (l ++ [choice n w l p]) t)) = (List.range n).countP (fun t => decide (w - n + j ≤ ages l t) && !(t == old (ages l) n)) := by
        apply List.countP_congr
        intro t _
        rw [hc, ages_snoc]
        by_cases e : t = old (ages l) n
        · simp [e]
        · have e2 : ¬ ((old (ages l) n : Nat) : Int) = (t : Int) := by omega
          rw [if_neg e2]
          have e3 : (t == old (ages l) n) = false := by simpa using e
          rw [e3]
          simp
          omega
      rw [he]
      omega
    · rw [List.countP_eq_zero.2 (by
        intro t ht
        simp only [List.mem_range] at ht
        have : ¬ w - n + j ≤ ages l t := fun h => hd ⟨t, ht, h⟩
        rw [ages_snoc]
        split
        · simp
        · simp; omega)]
      omega
theorem repair_few (n w : Nat) (ps : List Int) (k : Nat) (h : k ≤ ps.length) : Few n (w - n) (repair n w (ps.take k)) := by
  induction k with
  | zero => exact few_nil n _
  | succ k ih => rw [repair_take_succ n w ps k (by omega)]; exact few_step n w _ _ (ih (by omega))
theorem few_age (n D : Nat) (l : List Int) (h : Few n D l) (t : Nat) (ht : t < n) : age t l < D + n := by
  have := h n
  rw [Nat.sub_self] at this
  have h0 := List.countP_eq_zero.1 (Nat.le_zero.1 this) t (List.mem_range.2 ht)
  have h1 : ¬ D + n ≤ ages l t := fun h => h0 (by simpa using h)
  simp only [ages] at h1
  omega
theorem repair_win (n w : Nat) (ps : List Int) (h : n ≤ w) : Win n w (repair n w ps) := by
  rw [win_age]
  intro m hm t ht
  rw [repair_length] at hm
  rw [repair_take n w ps m hm]
  have := few_age n _ _ (repair_few n w ps m hm) t ht
  omega

/-- Round robin. -/
def rrL (f n k : Nat) : List Int := (List.range k).map fun i => (((f + i) % n : Nat) : Int)
theorem rrL_length (f n k : Nat) : (rrL f n k).length = k := by simp [rrL]
theorem rrL_take (f n k m : Nat) (h : m ≤ k) : (rrL f n k).take m = rrL f n m := by
  simp [rrL, ← List.map_take, List.take_range, Nat.min_eq_left h]
theorem rrL_succ (f n k : Nat) : rrL f n (k + 1) = rrL f n k ++ [(((f + k) % n : Nat) : Int)] := by
  simp [rrL, List.range_succ]
theorem rrL_get (f n k i : Nat) (h : i < k) : (rrL f n k)[i]'(by rw [rrL_length]; exact h) = (((f + i) % n : Nat) : Int) := by simp [rrL]
theorem rr_hit (f n i t : Nat) (ht : t < n) : ∃ k, i ≤ k ∧ k < i + n ∧ (f + k) % n = t := by
  have h0 : (f + i) % n < n := Nat.mod_lt _ (by omega)
  by_cases h : (f + i) % n ≤ t
  · refine ⟨i + (t - (f + i) % n), by omega, by omega, ?_⟩
    rw [show f + (i + (t - (f + i) % n)) = (f + i) + (t - (f + i) % n) by omega, Nat.add_mod, Nat.mod_eq_of_lt (show t - (f + i) % n < n by omega), show (f + i) % n + (t - (f + i) % n) = t by omega, Nat.mod_eq_of_lt ht]
  · refine ⟨i + (n + t - (f + i) % n), by omega, by omega, ?_⟩
    rw [show f + (i + (n + t - (f + i) % n)) = (f + i) + (n + t - (f + i) % n) by omega, Nat.add_mod, Nat.mod_eq_of_lt (show n + t - (f + i) % n < n by omega), show (f + i) % n + (n + t - (f + i) % n) = t + n by omega, Nat.add_mod_right, Nat.mod_eq_of_lt ht]
theorem rr_win (f n w k : Nat) (h : n ≤ w) : Win n w (rrL f n k) := by
  intro i hi t ht
  rw [rrL_length] at hi
  obtain ⟨j, h1, h2, h3⟩ := rr_hit f n i t ht
  rw [List.mem_iff_getElem]
  refine ⟨j - i, ?_, ?_⟩
  · simp [rrL]; omega
  · simp only [List.getElem_take, List.getElem_drop]
    rw [rrL_get f n k _ (by omega)]
    rw [show i + (j - i) = j by omega, h3]
theorem rr_keep (f n k : Nat) (hn : 0 < n) : repair n (2 * n) (rrL f n k) = rrL f n k := by
  induction k with
  | zero => rfl
  | succ k ih =>
    rw [rrL_succ, repair_snoc, ih]
    congr 2
    unfold choice
    rw [if_neg]
    have h1 := (win_age n n (rrL f n k)).1 (rr_win f n n k (Nat.le_refl _)) k (by rw [rrL_length]; exact Nat.le_refl _) (old (ages (rrL f n k)) n) (old_lt _ _ hn)
    rw [List.take_of_length_le (by rw [rrL_length]; exact Nat.le_refl _)] at h1
    simp only [ages] at h1 ⊢
    omega

/-- The generator. -/
def lcg (x : Int) : Int := (1664525 * x + 1013904223) % 4294967296
def lcgN (s : Int) : Nat → Int
  | 0 => s
  | k + 1 => lcg (lcgN s k)
theorem lcg_bd (x : Int) : 0 ≤ lcg x ∧ lcg x < 4294967296 := by unfold lcg; omega
def rndL (s : Int) (n k : Nat) : List Int := (List.range k).map fun i => lcgN s (i + 1) / 65536 % (n : Int)
theorem rndL_length (s : Int) (n k : Nat) : (rndL s n k).length = k := by simp [rndL]
theorem rndL_succ (s : Int) (n k : Nat) : rndL s n (k + 1) = rndL s n k ++ [lcgN s (k + 1) / 65536 % (n : Int)] := by
  simp [rndL, List.range_succ]
theorem rndL_take (s : Int) (n k m : Nat) (h : m ≤ k) : (rndL s n k).take m = rndL s n m := by
  simp [rndL, ← List.map_take, List.take_range, Nat.min_eq_left h]
theorem rndL_get (s : Int) (n k i : Nat) (h : i < k) : (rndL s n k)[i]'(by rw [rndL_length]; exact h) = lcgN s (i + 1) / 65536 % (n : Int) := by simp [rndL]
end Go.Proofs.Ytbpkigdelfgafaa
