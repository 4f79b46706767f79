/- Plain maths: the order of items, insertion at a place, sorting by insertion. Nothing of the program. -/
import Derived.Test.YtneodiemgemhfaaUA
namespace Go.Proofs.Ytneodiemgemhfaa

/-- x comes before y. -/
def ltI (x y : It) : Prop := x.t < y.t ∨ (x.t = y.t ∧ x.q < y.q)
instance (x y : It) : Decidable (ltI x y) := by unfold ltI; infer_instance
/-- The same key. -/
def eqK (x y : It) : Prop := x.t = y.t ∧ x.q = y.q
def cmpI (x y : It) : Int := if ltI x y then -1 else if ltI y x then 1 else 0
theorem cmpI_gt {x y : It} : 0 < cmpI x y ↔ ltI y x := by
  unfold cmpI
  constructor
  · intro h
    split at h
    · omega
    · split at h
      · assumption
      · omega
  · intro h
    have : ¬ ltI x y := by unfold ltI at *; omega
    rw [if_neg this, if_pos h]; decide
theorem cmpI_lt {x y : It} : cmpI x y < 0 ↔ ltI x y := by
  unfold cmpI
  constructor
  · intro h
    split at h
    · assumption
    · split at h <;> omega
  · intro h
    rw [if_pos h]; decide
theorem cmpI_zero {x y : It} : cmpI x y = 0 ↔ eqK x y := by
  unfold cmpI eqK
  constructor
  · intro h
    split at h
    · omega
    · split at h
      · omega
      · unfold ltI at *; omega
  · intro h
    rw [if_neg (by unfold ltI; omega), if_neg (by unfold ltI; omega)]
theorem ltI_trans {x y z : It} (h : ltI x y) (k : ltI y z) : ltI x z := by unfold ltI at *; omega
theorem ltI_irrefl (x : It) : ¬ ltI x x := by unfold ltI; omega
theorem ltI_asymm {x y : It} (h : ltI x y) : ¬ ltI y x := by unfold ltI at *; omega
theorem ltI_or (x y : It) : ltI x y ∨ eqK x y ∨ ltI y x := by unfold ltI eqK; omega

/-- Where place puts it: behind the last that is not greater. -/
def plAt (it : It) : List It → Nat
  | [] => 0
  | x :: xs => if xs.any (fun y => !decide (ltI it y)) then plAt it xs + 1 else if ltI it x then 0 else 1
theorem plAt_le (it : It) : ∀ l, plAt it l ≤ l.length
  | [] => by simp [plAt]
  | x :: xs => by
    unfold plAt
    have := plAt_le it xs
    split
    · simp; omega
    · split <;> simp
/-- All behind the place are greater. -/
theorem plAt_gt (it : It) : ∀ (l : List It) (i : Nat) (h : i < l.length), plAt it l ≤ i → ltI it l[i]
  | x :: xs, i, h, hi => by
    unfold plAt at hi
    split at hi
    · obtain ⟨j, rfl⟩ : ∃ j, i = j + 1 := ⟨i - 1, by omega⟩
      exact plAt_gt it xs j (by simpa using h) (by omega)
    · rename_i hn
      have hall : ∀ y ∈ xs, ltI it y := fun y hy => by
        apply Classical.byContradiction
        intro hc
        exact hn (List.any_eq_true.2 ⟨y, hy, by simp [hc]⟩)
      cases i with
      | zero =>
        split at hi
        · assumption
        · omega
      | succ j => exact hall _ (List.getElem_mem (by simpa using h))
/-- The one before the place is not greater. -/
theorem plAt_not (it : It) : ∀ (l : List It) (h : 0 < plAt it l), ¬ ltI it (l[plAt it l - 1]'(by have := plAt_le it l; omega))
  | [], h => by simp [plAt] at h
  | x :: xs, h => by
    by_cases hn : xs.any (fun y => !decide (ltI it y)) = true
    · have e : plAt it (x :: xs) = plAt it xs + 1 := by rw [plAt, if_pos hn]
      have hpos : 0 < plAt it xs := by
        apply Classical.byContradiction
        intro h0
        obtain ⟨y, hy, hy2⟩ := List.any_eq_true.1 hn
        obtain ⟨i, hi, rfl⟩ := List.mem_iff_getElem.1 hy
        have := plAt_gt it xs i hi (by omega)
        simp [this] at hy2
      have ih := plAt_not it xs hpos
      simp only [e, Nat.add_sub_cancel]
      rw [List.getElem_cons, dif_neg (by omega)]
      exact ih
    · by_cases hx : ltI it x
      · rw [plAt, if_neg hn, if_pos hx] at h
        omega
      · have e : plAt it (x :: xs) = 1 := by rw [plAt, if_neg hn, if_neg hx]
        simp only [e]
        exact hx
/-- The place is the one that the search from behind finds. -/
theorem plAt_is {it : It} {l : List It} {k : Nat} (hk : k ≤ l.length) (h1 : ∀ i (h : i < l.length), k ≤ i → ltI it l[i]) (h2 : ∀ h : 0 < k, ¬ ltI it (l[k - 1]'(by omega))) : plAt it l = k := by
  rcases Nat.lt_trichotomy (plAt it l) k with h | h | h
  · exact absurd (plAt_gt it l (k - 1) (by omega) (by omega)) (h2 (by omega))
  · exact h
  · exact absurd (h1 (plAt it l - 1) (by have := plAt_le it l; omega) (by omega)) (plAt_not it l (by omega))
def plI (l : List It) (it : It) : List It := l.take (plAt it l) ++ it :: l.drop (plAt it l)
def sortI (l : List It) : List It := l.foldl plI []
theorem plI_perm (l : List It) (it : It) : (plI l it).Perm (it :: l) := by
  unfold plI
  refine List.perm_middle.trans ?_
  rw [List.take_append_drop]
theorem plI_length (l : List It) (it : It) : (plI l it).length = l.length + 1 := (plI_perm l it).length_eq
theorem foldl_plI_perm : ∀ (l acc : List It), (l.foldl plI acc).Perm (l ++ acc)
  | [], acc => List.Perm.refl _
  | x :: xs, acc => by
    refine (foldl_plI_perm xs (plI acc x)).trans ?_
    exact ((plI_perm acc x).append_left xs).trans List.perm_middle
theorem sortI_perm (l : List It) : (sortI l).Perm l := by have := foldl_plI_perm l []; rw [List.append_nil] at this; exact this
theorem sortI_length (l : List It) : (sortI l).length = l.length := (sortI_perm l).length_eq
/-- In order: none comes before one that stands ahead of it. -/
def SortedI (l : List It) : Prop := l.Pairwise (fun x y => ¬ ltI y x)
/-- Strictly in order. -/
def StrictI (l : List It) : Prop := l.Pairwise ltI
/-- No two with one key. -/
def DistI (l : List It) : Prop := l.Pairwise (fun x y => ¬ eqK x y)
theorem pairwise_at {R : It → It → Prop} {l : List It} : l.Pairwise R ↔ ∀ i j (hi : i < l.length) (hj : j < l.length), i < j → R l[i] l[j] := List.pairwise_iff_getElem
theorem plI_sorted {l : List It} (h : SortedI l) (it : It) : SortedI (plI l it) := by
  unfold SortedI plI at *
  have hle := plAt_le it l
  rw [List.pairwise_append]
  refine ⟨h.sublist (List.take_sublist _ _), List.pairwise_cons.2 ⟨fun y hy => ?_, h.sublist (List.drop_sublist _ _)⟩, fun a ha b hb => ?_⟩
  · obtain ⟨i, hi, rfl⟩ := List.mem_iff_getElem.1 hy
    rw [List.getElem_drop]
    have := plAt_gt it l (plAt it l + i) (by simp at hi; omega) (by omega)
    exact ltI_asymm this
  · obtain ⟨i, hi, rfl⟩ := List.mem_iff_getElem.1 ha
    simp only [List.length_take] at hi
    rw [List.getElem_take]
    have hp : 0 < plAt it l := by omega
    have hlast := plAt_not it l hp
    have hil : ¬ ltI it l[i] := by
      by_cases e : i = plAt it l - 1
      · subst e; exact hlast
      · have := pairwise_at.1 h i (plAt it l - 1) (by omega) (by omega) (by omega)
        intro hc
        have h3 := ltI_or it (l[plAt it l - 1]'(by omega))
        unfold ltI eqK at *
        omega
    rcases List.mem_cons.1 hb with rfl | hb
    · exact hil
    · obtain ⟨j, hj, rfl⟩ := List.mem_iff_getElem.1 hb
      rw [List.getElem_drop]
      exact pairwise_at.1 h i (plAt it l + j) (by omega) (by simp at hj; omega) (by omega)
theorem foldl_plI_sorted : ∀ (l acc : List It), SortedI acc → SortedI (l.foldl plI acc)
  | [], _, h => h
  | x :: xs, _, h => foldl_plI_sorted xs _ (plI_sorted h x)
theorem sortI_sorted (l : List It) : SortedI (sortI l) := foldl_plI_sorted l [] List.Pairwise.nil
theorem eqK_symm {x y : It} (h : eqK x y) : eqK y x := ⟨h.1.symm, h.2.symm⟩
theorem DistI.perm {l m : List It} (h : DistI l) (p : l.Perm m) : DistI m := List.Pairwise.perm h p (fun {_ _} hxy hyx => hxy (eqK_symm hyx))
theorem strict_of {l : List It} (hs : SortedI l) (hd : DistI l) : StrictI l := (hs.and hd).imp (fun {x y} ⟨h1, h2⟩ => by
  rcases ltI_or x y with h | h | h
  · exact h
  · exact absurd h h2
  · exact absurd h h1)
theorem StrictI.sorted {l : List It} (h : StrictI l) : SortedI l := h.imp (fun {_ _} h => ltI_asymm h)
theorem StrictI.dist {l : List It} (h : StrictI l) : DistI l := h.imp (fun {_ _} h => by unfold ltI eqK at *; omega)
theorem sortI_strict {l : List It} (h : DistI l) : StrictI (sortI l) := strict_of (sortI_sorted l) (h.perm (sortI_perm l).symm)
/-- A strict order of given items is the only one. -/
theorem strict_unique : ∀ {l m : List It}, StrictI l → StrictI m → l.Perm m → l = m
  | [], m, _, _, p => (List.nil_perm.1 p).symm
  | x :: xs, [], _, _, p => by have := p.length_eq; simp at this
  | x :: xs, y :: ys, hl, hm, p => by
    obtain ⟨hx, hxs⟩ := List.pairwise_cons.1 hl
    obtain ⟨hy, hys⟩ := List.pairwise_cons.1 hm
    have e : x = y := by
      have h1 : x ∈ y :: ys := p.subset (List.mem_cons_self)
      have h2 : y ∈ x :: xs := p.symm.subset (List.mem_cons_self)
      rcases List.mem_cons.1 h1 with h1 | h1
      · exact h1
      · rcases List.mem_cons.1 h2 with h2 | h2
        · exact h2.symm
        · exact absurd (hx y h2) (ltI_asymm (hy x h1))
    subst e
    rw [strict_unique hxs hys ((List.perm_cons x).1 p)]
theorem sortI_unique {l m : List It} (hm : StrictI m) (p : m.Perm l) : sortI l = m :=
  strict_unique (sortI_strict (hm.dist.perm p)) hm ((sortI_perm l).trans p.symm)
theorem sortI_of_perm {l m : List It} (h : DistI l) (p : l.Perm m) : sortI l = sortI m := sortI_unique (sortI_strict (h.perm p)) ((sortI_perm m).trans p.symm)
/-- The least, taken out. -/
theorem sortI_cons {x : It} {l : List It} (hd : DistI (x :: l)) (hx : ∀ y ∈ l, ltI x y) : sortI (x :: l) = x :: sortI l :=
  sortI_unique (List.pairwise_cons.2 ⟨fun y hy => hx y ((sortI_perm l).subset hy), sortI_strict (List.pairwise_cons.1 hd).2⟩) ((sortI_perm l).cons x)
end Go.Proofs.Ytneodiemgemhfaa
