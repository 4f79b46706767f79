/- The stable order: by the comparison, then by the place of origin. Plain facts on arrays. -/
import Derived.Test.YtdkkgajamogmeaaXR
namespace Go.Proofs.Ytdkkgajamogmeaa
open Go.Sort
variable {α : Type}

def tlt (lt : α → α → Bool) (tag : α → Nat) (x y : α) : Bool := lt x y || (!lt y x && decide (tag x < tag y))
section
variable {lt : α → α → Bool} {tag : α → Nat}
theorem tlt_false {x y : α} : tlt lt tag x y = false ↔ lt x y = false ∧ (lt y x = true ∨ tag y ≤ tag x) := by
  unfold tlt
  cases lt x y <;> cases lt y x <;> simp
theorem tlt_true {x y : α} : tlt lt tag x y = true ↔ lt x y = true ∨ (lt y x = false ∧ tag x < tag y) := by
  unfold tlt
  cases lt x y <;> cases lt y x <;> simp
theorem swo_pull (h : SWO lt) {x y z : α} (h1 : lt y x = true) (h2 : lt y z = false) : lt z x = true := by
  cases hz : lt z x with
  | true => rfl
  | false => rw [h.ntrans y z x h2 hz] at h1; exact h1
theorem swo_pull2 (h : SWO lt) {x y z : α} (h1 : lt z y = true) (h2 : lt x y = false) : lt z x = true := by
  cases hz : lt z x with
  | true => rfl
  | false => rw [h.ntrans z x y hz h2] at h1; exact h1
theorem swo_asymm (h : SWO lt) {x y : α} (hxy : lt x y = true) : lt y x = false := by
  cases hz : lt y x with
  | false => rfl
  | true => have := h.trans x y x hxy hz; rw [h.irrefl] at this; exact absurd this (by decide)
theorem tlt_swo (h : SWO lt) : SWO (tlt lt tag) where
  irrefl x := tlt_false.2 ⟨h.irrefl x, .inr (Nat.le_refl _)⟩
  trans x y z h1 h2 := by
    rw [tlt_true] at h1 h2 ⊢
    rcases h1 with h1 | ⟨h1, t1⟩ <;> rcases h2 with h2 | ⟨h2, t2⟩
    · exact .inl (h.trans x y z h1 h2)
    · exact .inl (by
        cases hx : lt x z with
        | true => rfl
        | false => rw [h.ntrans x z y hx h2] at h1; exact h1)
    · exact .inl (by
        cases hx : lt x z with
        | true => rfl
        | false => rw [h.ntrans y x z h1 hx] at h2; exact h2)
    · exact .inr ⟨h.ntrans z y x h2 h1, by omega⟩
  ntrans x y z h1 h2 := by
    rw [tlt_false] at h1 h2 ⊢
    refine ⟨h.ntrans x y z h1.1 h2.1, ?_⟩
    rcases h1.2 with a | a
    · exact .inl (swo_pull h a h2.1)
    · rcases h2.2 with b | b
      · exact .inl (swo_pull2 h b h1.1)
      · exact .inr (by omega)
theorem nt_of_tag {x y : α} (h1 : lt y x = false) (h2 : tag x < tag y) : tlt lt tag y x = false := tlt_false.2 ⟨h1, .inr (by omega)⟩
theorem nt_of_lt (h : SWO lt) {x y : α} (h1 : lt y x = true) : tlt lt tag x y = false := tlt_false.2 ⟨swo_asymm h h1, .inl h1⟩

variable [Inhabited α]
theorem sorted_le (h : SWO lt) {a b : Nat} {d : Array α} (hs : SortedIn lt a b d) {i j : Nat} (h1 : a ≤ i) (h2 : i ≤ j) (h3 : j < b) : lt d[j]! d[i]! = false := by
  rcases Nat.eq_or_lt_of_le h2 with rfl | h2
  · exact h.irrefl _
  · exact hs i j h1 h2 h3

/-- data[a] goes behind those of [a + 1, i) that are less. -/
theorem merge1 (h : SWO lt) {a b i : Nat} {d d' : Array α} (hs : SortedIn (tlt lt tag) (a + 1) b d) (ht : ∀ y, a + 1 ≤ y → y < b → tag d[a]! < tag d[y]!) (h1 : a + 1 ≤ i) (h2 : i ≤ b)
    (c1 : i = a + 1 ∨ lt d[i - 1]! d[a]! = true) (c2 : i = b ∨ lt d[i]! d[a]! = false) (hr : Rot a (a + 1) i d d') : SortedIn (tlt lt tag) a b d' := by
  have T := tlt_swo (tag := tag) h
  have g1 : ∀ p, a ≤ p → p + 1 < i → d'[p]! = d[p + 1]! := fun p hp hq => by rw [hr.inn p hp (by omega), rotF, if_pos (by omega)]; congr 1; omega
  have g2 : d'[i - 1]! = d[a]! := by rw [hr.inn _ (by omega) (by omega), rotF, if_neg (by omega)]; congr 1; omega
  have g3 : ∀ p, i ≤ p → d'[p]! = d[p]! := fun p hp => hr.out p (.inr hp)
  have x1 : ∀ p, a + 1 ≤ p → p < i → tlt lt tag d[a]! d[p]! = false := fun p hp hq => by
    rcases c1 with c | c
    · omega
    · exact T.ntrans _ _ _ (nt_of_lt h c) (sorted_le T hs hp (by omega) (by omega))
  have x2 : ∀ p, i ≤ p → p < b → tlt lt tag d[p]! d[a]! = false := fun p hp hq => by
    rcases c2 with c | c
    · omega
    · exact T.ntrans _ _ _ (sorted_le T hs h1 hp hq) (nt_of_tag c (ht i h1 (by omega)))
  intro p q hp hpq hq
  by_cases q1 : q + 1 < i
  · rw [g1 p hp (by omega), g1 q (by omega) q1]; exact hs _ _ (by omega) (by omega) (by omega)
  · by_cases q2 : q < i
    · obtain rfl : q = i - 1 := by omega
      rw [g1 p hp (by omega), g2]; exact x1 _ (by omega) (by omega)
    · rw [g3 q (by omega)]
      by_cases p1 : p + 1 < i
      · rw [g1 p hp p1]; exact hs _ _ (by omega) (by omega) hq
      · by_cases p2 : p < i
        · obtain rfl : p = i - 1 := by omega
          rw [g2]; exact x2 q (by omega) hq
        · rw [g3 p (by omega)]; exact hs _ _ (by omega) hpq hq

/-- data[m] goes ahead of those of [i, m) that are greater. -/
theorem merge2 (h : SWO lt) {a m i : Nat} {d d' : Array α} (hs : SortedIn (tlt lt tag) a m d) (ht : ∀ x, a ≤ x → x < m → tag d[x]! < tag d[m]!) (h1 : a ≤ i) (h2 : i ≤ m)
    (c1 : i = a ∨ lt d[m]! d[i - 1]! = false) (c2 : i = m ∨ lt d[m]! d[i]! = true) (hr : Rot i m (m + 1) d d') : SortedIn (tlt lt tag) a (m + 1) d' := by
  have T := tlt_swo (tag := tag) h
  have g1 : ∀ p, p < i → d'[p]! = d[p]! := fun p hp => hr.out p (.inl hp)
  have g2 : d'[i]! = d[m]! := by rw [hr.inn _ (by omega) (by omega), rotF, if_pos (by omega)]; congr 1; omega
  have g3 : ∀ p, i < p → p ≤ m → d'[p]! = d[p - 1]! := fun p hp hq => by rw [hr.inn p (by omega) (by omega), rotF, if_neg (by omega)]; congr 1; omega
  have x1 : ∀ p, a ≤ p → p < i → tlt lt tag d[m]! d[p]! = false := fun p hp hq => by
    rcases c1 with c | c
    · omega
    · exact T.ntrans _ _ _ (nt_of_tag c (ht (i - 1) (by omega) (by omega))) (sorted_le T hs hp (by omega) (by omega))
  have x2 : ∀ p, i ≤ p → p < m → tlt lt tag d[p]! d[m]! = false := fun p hp hq => by
    rcases c2 with c | c
    · omega
    · exact T.ntrans _ _ _ (sorted_le T hs h1 hp hq) (nt_of_lt h c)
  intro p q hp hpq hq
  by_cases q1 : q < i
  · rw [g1 p (by omega), g1 q q1]; exact hs _ _ hp hpq (by omega)
  · by_cases q2 : q = i
    · subst q2; rw [g2, g1 p hpq]; exact x1 p hp hpq
    · rw [g3 q (by omega) (by omega)]
      by_cases p1 : p < i
      · rw [g1 p p1]; exact hs _ _ hp (by omega) (by omega)
      · by_cases p2 : p = i
        · subst p2; rw [g2]; exact x2 _ (by omega) (by omega)
        · rw [g3 p (by omega) (by omega)]; exact hs _ _ (by omega) (by omega) (by omega)

/-- What stands once the middle parts have changed places. -/
structure Halves (lt : α → α → Bool) (tag : α → Nat) (a s mid e b : Nat) (d : Array α) : Prop where
  s1 : SortedIn (tlt lt tag) a s d
  s2 : SortedIn (tlt lt tag) s mid d
  s3 : SortedIn (tlt lt tag) mid e d
  s4 : SortedIn (tlt lt tag) e b d
  t1 : ∀ x y, a ≤ x → x < s → s ≤ y → y < mid → tag d[x]! < tag d[y]!
  t2 : ∀ x y, mid ≤ x → x < e → e ≤ y → y < b → tag d[x]! < tag d[y]!
  cross : ∀ x y, a ≤ x → x < mid → mid ≤ y → y < b → tlt lt tag d[y]! d[x]! = false
theorem halves (h : SWO lt) {a s m e b : Nat} {d d' : Array α} (hl : SortedIn (tlt lt tag) a m d) (hh : SortedIn (tlt lt tag) m b d) (ht : ∀ x y, a ≤ x → x < m → m ≤ y → y < b → tag d[x]! < tag d[y]!)
    (h1 : a ≤ s) (h2 : s ≤ m) (h3 : m ≤ e) (h4 : e ≤ b) (c1 : s = a ∨ e = b ∨ lt d[e]! d[s - 1]! = false) (c2 : s = m ∨ e = m ∨ lt d[e - 1]! d[s]! = true) (hr : Rot s m e d d') : Halves lt tag a s (s + (e - m)) e b d' := by
  have T := tlt_swo (tag := tag) h
  have g1 : ∀ p, p < s → d'[p]! = d[p]! := fun p hp => hr.out p (.inl hp)
  have g2 : ∀ p, s ≤ p → p < s + (e - m) → d'[p]! = d[m + (p - s)]! := fun p hp hq => by rw [hr.inn p hp (by omega), rotF, if_pos hq]
  have g3 : ∀ p, s + (e - m) ≤ p → p < e → d'[p]! = d[s + (p - (s + (e - m)))]! := fun p hp hq => by rw [hr.inn p (by omega) hq, rotF, if_neg (by omega)]
  have g4 : ∀ p, e ≤ p → d'[p]! = d[p]! := fun p hp => hr.out p (.inr hp)
  -- a left one that stays ahead against a right one that stays behind
  have x1 : ∀ x y, a ≤ x → x < s → e ≤ y → y < b → tlt lt tag d[y]! d[x]! = false := fun x y hx hx2 hy hy2 => by
    rcases c1 with c | c | c
    · omega
    · omega
    · exact T.ntrans _ _ _ (T.ntrans _ _ _ (sorted_le T hh h3 hy hy2) (nt_of_tag c (ht (s - 1) e (by omega) (by omega) h3 (by omega)))) (sorted_le T hl hx (by omega) (by omega))
  have x2 : ∀ x y, s ≤ x → x < m → m ≤ y → y < e → tlt lt tag d[x]! d[y]! = false := fun x y hx hx2 hy hy2 => by
    rcases c2 with c | c | c
    · omega
    · omega
    · exact T.ntrans _ _ _ (T.ntrans _ _ _ (sorted_le T hl h1 hx hx2) (nt_of_lt h c)) (sorted_le T hh hy (by omega) (by omega))
  refine ⟨fun p q hp hpq hq => ?_, fun p q hp hpq hq => ?_, fun p q hp hpq hq => ?_, fun p q hp hpq hq => ?_, fun x y p1 p2 p3 p4 => ?_, fun x y p1 p2 p3 p4 => ?_, fun x y p1 p2 p3 p4 => ?_⟩
  · rw [g1 p (by omega), g1 q (by omega)]; exact hl _ _ hp hpq (by omega)
  · rw [g2 p (by omega) (by omega), g2 q (by omega) (by omega)]; exact hh _ _ (by omega) (by omega) (by omega)
  · rw [g3 p (by omega) (by omega), g3 q (by omega) (by omega)]; exact hl _ _ (by omega) (by omega) (by omega)
  · rw [g4 p (by omega), g4 q (by omega)]; exact hh _ _ (by omega) hpq hq
  · rw [g1 x p2, g2 y p3 p4]; exact ht _ _ p1 (by omega) (by omega) (by omega)
  · rw [g3 x p1 p2, g4 y p3]; exact ht _ _ (by omega) (by omega) (by omega) p4
  · by_cases xs : x < s
    · rw [g1 x xs]
      by_cases ye : y < e
      · rw [g3 y p3 ye]; exact sorted_le T hl p1 (by omega) (by omega)
      · rw [g4 y (by omega)]; exact x1 x y p1 xs (by omega) p4
    · rw [g2 x (by omega) p2]
      by_cases ye : y < e
      · rw [g3 y p3 ye]; exact x2 _ _ (by omega) (by omega) (by omega) (by omega)
      · rw [g4 y (by omega)]; exact sorted_le T hh (by omega) (by omega) p4

theorem rot_refl (m e : Nat) (d : Array α) : Rot m m e d d := by
  refine ⟨rfl, fun p h1 h2 => ?_, fun _ _ => rfl⟩
  rw [rotF, if_pos (by omega)]; congr 1; omega
theorem rot_refl' (s m : Nat) (d : Array α) : Rot s m m d d := by
  refine ⟨rfl, fun p h1 h2 => ?_, fun _ _ => rfl⟩
  rw [rotF, if_neg (by omega)]; congr 1; omega
theorem sorted_join {a m b : Nat} {d : Array α} (h1 : SortedIn lt a m d) (h2 : SortedIn lt m b d) (h3 : ∀ x y, a ≤ x → x < m → m ≤ y → y < b → lt d[y]! d[x]! = false) : SortedIn lt a b d := by
  intro p q hp hpq hq
  by_cases c1 : q < m
  · exact h1 p q hp hpq c1
  · by_cases c2 : m ≤ p
    · exact h2 p q c2 hpq hq
    · exact h3 p q hp (by omega) (by omega) hq
theorem sorted_congr {a b : Nat} {d d' : Array α} (h : SortedIn lt a b d) (he : ∀ p, a ≤ p → p < b → d'[p]! = d[p]!) : SortedIn lt a b d' := by
  intro p q hp hpq hq
  rw [he p hp (by omega), he q (by omega) hq]; exact h p q hp hpq hq
theorem permIn_at {a b : Nat} {d d' : Array α} (hb : b ≤ d.size) (hp : PermIn a b d d') {i : Nat} (h1 : a ≤ i) (h2 : i < b) : ∃ j, a ≤ j ∧ j < b ∧ d'[i]! = d[j]! :=
  permIn_all d d' a b (fun x => ∃ j, a ≤ j ∧ j < b ∧ x = d[j]!) hb hp (fun j h h' => ⟨j, h, h', rfl⟩) i h1 h2
/-- Both halves merged. -/
theorem halves_done {a s mid e b : Nat} {d1 d2 d3 : Array α} (hH : Halves lt tag a s mid e b d1) (ha : a ≤ mid) (_hm : mid ≤ b) (hb : b ≤ d1.size) (p2 : PermIn a mid d1 d2) (s2 : SortedIn (tlt lt tag) a mid d2) (p3 : PermIn mid b d2 d3) (s3 : SortedIn (tlt lt tag) mid b d3) : SortedIn (tlt lt tag) a b d3 := by
  have hsz := p2.1
  have _ := ha
  refine sorted_join (m := mid) (sorted_congr s2 (fun p _ hp => p3.2.1 p (.inl hp))) s3 (fun x y x1 x2 y1 y2 => ?_)
  rw [p3.2.1 x (.inl x2)]
  obtain ⟨i, i1, i2, ei⟩ := permIn_at (by omega) p2 x1 x2
  obtain ⟨j, j1, j2, ej⟩ := permIn_at (by omega) p3 y1 y2
  rw [ei, ej, p2.2.1 j (.inr j1)]
  exact hH.cross i j i1 i2 j1 j2
end
end Go.Proofs.Ytdkkgajamogmeaa
