/- What a stable sort of events is, and that there is only one. Plain maths. -/
import Derived.Test.YtdkkgajamogmeaaXE
namespace Go.Proofs.Ytdkkgajamogmeaa
open Go.Sort

def ltP (x y : Ev × Nat) : Bool := Go.Proofs.ltOf (fun x y : Ev × Nat => cmpE x.1 y.1) x y
def tP (x y : Ev × Nat) : Bool := tlt ltP (fun x => x.2) x y
theorem swoP : SWO ltP := ordE.swo (fun x : Ev × Nat => x.1)
theorem swoT : SWO tP := tlt_swo swoP
theorem ltP_iff {x y : Ev × Nat} : ltP x y = true ↔ cmpE x.1 y.1 < 0 := by simp [ltP, Go.Proofs.ltOf]
theorem ltP_false {x y : Ev × Nat} : ltP x y = false ↔ 0 ≤ cmpE x.1 y.1 := by simp [ltP, Go.Proofs.ltOf]
/-- Neither later one is ahead of an earlier one, by the order or else by the place of origin. -/
def Srt (p : List (Ev × Nat)) : Prop := p.Pairwise (fun x y => tP y x = false)
/-- m is l, sorted, equal ones as they came. -/
def IsSort (l m : List Ev) : Prop := ∃ p : List (Ev × Nat), p.Perm l.zipIdx ∧ Srt p ∧ p.map Prod.fst = m
theorem IsSort.unique {l m m' : List Ev} (h : IsSort l m) (h' : IsSort l m') : m = m' := by
  obtain ⟨p, h1, h2, rfl⟩ := h
  obtain ⟨q, k1, k2, rfl⟩ := h'
  congr 1
  refine List.Perm.eq_of_pairwise (le := fun x y => tP y x = false) ?_ h2 k2 (h1.trans k1.symm)
  intro a b ha hb e1 e2
  have ha' := h1.mem_iff.1 ha
  have hb' := k1.mem_iff.1 hb
  obtain ⟨a1, a2⟩ := a
  obtain ⟨b1, b2⟩ := b
  rw [List.mk_mem_zipIdx_iff_getElem?] at ha' hb'
  have t1 := tlt_false.1 e1
  have t2 := tlt_false.1 e2
  have he : a2 = b2 := by
    rcases t1.2 with c | c
    · rw [c] at t2; exact absurd t2.1 (by simp)
    · rcases t2.2 with d | d
      · rw [d] at t1; exact absurd t1.1 (by simp)
      · simp only at c d; omega
  subst he
  rw [ha'] at hb'
  simp at hb'
  rw [hb']
theorem IsSort.length {l m : List Ev} (h : IsSort l m) : m.length = l.length := by
  obtain ⟨p, h1, _, rfl⟩ := h
  rw [List.length_map, h1.length_eq, List.length_zipIdx]
theorem IsSort.mem {l m : List Ev} (h : IsSort l m) {e : Ev} (he : e ∈ m) : e ∈ l := by
  obtain ⟨p, h1, _, rfl⟩ := h
  obtain ⟨x, hx, rfl⟩ := List.mem_map.1 he
  have := h1.mem_iff.1 hx
  obtain ⟨a, b⟩ := x
  rw [List.mk_mem_zipIdx_iff_getElem?] at this
  exact List.mem_of_getElem? this
theorem isSort_nil : IsSort [] [] := ⟨[], by simp, List.Pairwise.nil, rfl⟩
/-- Sorted already. -/
theorem isSort_self {l : List Ev} (h : ∀ i j (hi : i < l.length) (hj : j < l.length), i < j → cmpE l[i] l[j] ≤ 0) : IsSort l l := by
  refine ⟨l.zipIdx, List.Perm.refl _, ?_, by simp⟩
  rw [Srt, List.pairwise_iff_getElem]
  intro i j hi hj hij
  rw [List.length_zipIdx] at hi hj
  rw [List.getElem_zipIdx, List.getElem_zipIdx]
  have := h i j hi hj hij
  have n := ordE.neg l[i] l[j]
  exact nt_of_tag (lt := ltP) (tag := fun x => x.2) (ltP_false.2 (by simp only; omega)) (by simp; exact hij)
/-- One step of sorting by insertion. -/
theorem srt_insert {p q : List (Ev × Nat)} {x : Ev × Nat} (h : Srt (p ++ q)) (ht : ∀ y ∈ p ++ q, y.2 < x.2) (h1 : ∀ y, p.getLast? = some y → cmpE y.1 x.1 ≤ 0) (h2 : ∀ y ∈ q, 0 < cmpE y.1 x.1) : Srt (p ++ x :: q) := by
  unfold Srt at *
  rw [List.pairwise_append] at h ⊢
  obtain ⟨hp, hq, hc⟩ := h
  have hx1 : ∀ a ∈ p, tP x a = false := by
    intro a ha
    obtain ⟨z, hz⟩ : ∃ z, p.getLast? = some z := by
      cases hl : p.getLast? with
      | none => rw [List.getLast?_eq_none_iff] at hl; subst hl; simp at ha
      | some z => exact ⟨z, rfl⟩
    have hxz : tP x z = false := by
      have := h1 z hz
      have n := ordE.neg z.1 x.1
      exact nt_of_tag (lt := ltP) (tag := fun x => x.2) (ltP_false.2 (by omega)) (ht z (List.mem_append_left _ (List.mem_of_getLast? hz)))
    have hza : tP z a = false := by
      obtain ⟨ys, rfl⟩ := List.getLast?_eq_some_iff.1 hz
      rw [List.pairwise_append] at hp
      rcases List.mem_append.1 ha with ha | ha
      · exact hp.2.2 a ha z (by simp)
      · simp at ha; subst ha; exact swoT.irrefl _
    exact swoT.ntrans x z a hxz hza
  have hx2 : ∀ b ∈ q, tP b x = false := by
    intro b hb
    have := h2 b hb
    have n := ordE.neg b.1 x.1
    exact nt_of_lt (lt := ltP) (tag := fun x => x.2) swoP (ltP_iff.2 (by omega))
  refine ⟨hp, List.pairwise_cons.2 ⟨hx2, hq⟩, fun a ha b hb => ?_⟩
  rcases List.mem_cons.1 hb with rfl | hb
  · exact hx1 a ha
  · exact hc a ha b hb
/-- What stands side by side in a sorted row. -/
theorem srt_next {p : List (Ev × Nat)} (h : Srt p) {i j : Nat} (hi : i < p.length) (hj : j < p.length) (hij : i < j) : cmpE p[i].1 p[j].1 ≤ 0 ∧ (cmpE p[i].1 p[j].1 = 0 → p[i].2 ≤ p[j].2) := by
  have := (List.pairwise_iff_getElem.1 h) i j hi hj hij
  have := tlt_false.1 this
  have n := ordE.neg p[i].1 p[j].1
  have h1 := ltP_false.1 this.1
  refine ⟨by omega, fun h0 => ?_⟩
  rcases this.2 with c | c
  · have := ltP_iff.1 c; omega
  · exact c
end Go.Proofs.Ytdkkgajamogmeaa
