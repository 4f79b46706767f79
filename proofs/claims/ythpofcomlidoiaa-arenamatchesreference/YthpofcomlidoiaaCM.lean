/- Plain maths: the arena as lists, its operations, when it is valid, what they keep. Nothing of the program. -/
import Derived.Test.YthpofcomlidoiaaRows
namespace Go.Proofs.Ythpofcomlidoiaa

structure Sl where
  g : Int
  s : Int
  t : Int
  q : Int
  deriving DecidableEq, Inhabited
structure Ar where
  sl : List Sl
  id : List Int
  nx : Int
  deriving DecidableEq
def slAt (l : List Sl) (i : Nat) : Sl := l[i]?.getD ⟨0, 0, 0, 0⟩
theorem slAt_get {l : List Sl} {i : Nat} (h : i < l.length) : slAt l i = l[i] := by simp [slAt, h]
theorem slAt_set {l : List Sl} {i k : Nat} {s : Sl} (h : i < l.length) : slAt (l.set i s) k = if k = i then s else slAt l k := by
  unfold slAt
  rw [List.getElem?_set]
  by_cases hk : k = i
  · subst hk; simp [h]
  · rw [if_neg (fun e => hk e.symm), if_neg hk]
def liveTo (l : List Sl) (k : Nat) : Nat := ((List.range k).filter (fun i => decide ((slAt l i).s ≠ 0))).length
def liveL (l : List Sl) : Nat := liveTo l l.length
def free (l : List Sl) : List Nat := (List.range l.length).filter (fun i => decide ((slAt l i).s = 0))
theorem liveTo_le (l : List Sl) (k : Nat) : liveTo l k ≤ k := by
  unfold liveTo
  exact Nat.le_trans (List.length_filter_le _ _) (by simp)
theorem liveTo_succ (l : List Sl) (k : Nat) : liveTo l (k + 1) = liveTo l k + (if (slAt l k).s = 0 then 0 else 1) := by
  unfold liveTo
  rw [List.range_succ, List.filter_append, List.length_append]
  by_cases h : (slAt l k).s = 0 <;> simp [h]
theorem mem_free {l : List Sl} {i : Nat} : i ∈ free l ↔ i < l.length ∧ (slAt l i).s = 0 := by simp [free]
theorem nodup_free (l : List Sl) : (free l).Nodup := List.Pairwise.filter _ List.nodup_range
theorem len_filter {α : Type} (p : α → Bool) : ∀ l : List α, (l.filter p).length + (l.filter (fun x => !p x)).length = l.length
  | [] => rfl
  | x :: l => by
    have := len_filter p l
    by_cases h : p x = true
    · simp [h]; omega
    · simp [h]; omega
theorem free_live (l : List Sl) : (free l).length + liveL l = l.length := by
  have h1 := len_filter (fun i => decide ((slAt l i).s = 0)) (List.range l.length)
  rw [List.length_range] at h1
  have h2 : (List.range l.length).filter (fun i => decide ((slAt l i).s ≠ 0)) = (List.range l.length).filter (fun i => !decide ((slAt l i).s = 0)) := by
    apply List.filter_congr
    intro x _
    by_cases h : (slAt l x).s = 0 <;> simp [h]
  unfold free liveL liveTo
  rw [h2]
  exact h1

section
variable {α : Type} [BEq α] [LawfulBEq α]
theorem perm_of_sub : ∀ (F L : List α), F.Nodup → (∀ x ∈ F, x ∈ L) → L.length ≤ F.length → L.Perm F
  | [], L, _, _, hl => by
    have : L = [] := List.eq_nil_of_length_eq_zero (by simpa using hl)
    rw [this]
  | f :: F, L, hn, hs, hl => by
    have hf : f ∈ L := hs f (by simp)
    have hnn := List.nodup_cons.1 hn
    have h1 := perm_of_sub F (L.erase f) hnn.2 (fun x hx => by
      have hne : x ≠ f := fun e => hnn.1 (e ▸ hx)
      exact (List.mem_erase_of_ne hne).2 (hs x (by simp [hx]))) (by
      rw [List.length_erase_of_mem hf]
      simp at hl; omega)
    exact (List.perm_cons_erase hf).trans (h1.cons f)
theorem perm_of_mem (A B : List α) (hA : A.Nodup) (hB : B.Nodup) (h : ∀ x, x ∈ A ↔ x ∈ B) : A.Perm B := by
  by_cases hl : A.length ≤ B.length
  · exact perm_of_sub B A hB (fun x hx => (h x).2 hx) hl
  · exact (perm_of_sub A B hA (fun x hx => (h x).1 hx) (by omega)).symm
end
theorem free_take {l : List Sl} {i : Nat} {s : Sl} (hi : i < l.length) (h0 : (slAt l i).s = 0) (hs : s.s ≠ 0) : (free l).Perm (i :: free (l.set i s)) := by
  apply perm_of_mem
  · exact nodup_free l
  · refine List.nodup_cons.2 ⟨?_, nodup_free _⟩
    rw [mem_free, slAt_set hi, if_pos rfl]
    exact fun h => hs h.2
  · intro x
    rw [List.mem_cons, mem_free, mem_free, slAt_set hi, List.length_set]
    by_cases hx : x = i
    · subst hx; simp [hi, h0]
    · simp [hx]
theorem set_back {l : List Sl} {i : Nat} {s : Sl} (hi : i < l.length) : (l.set i s).set i (slAt l i) = l := by
  rw [List.set_set, slAt_get hi, List.set_getElem_self]
theorem free_put {l : List Sl} {i : Nat} {s : Sl} (hi : i < l.length) (h0 : (slAt l i).s ≠ 0) (hs : s.s = 0) : (free (l.set i s)).Perm (i :: free l) := by
  have := free_take (l := l.set i s) (i := i) (s := slAt l i) (by simpa using hi) (by rw [slAt_set hi, if_pos rfl]; exact hs) h0
  rwa [set_back hi] at this
theorem free_same {l : List Sl} {i : Nat} {s : Sl} (hi : i < l.length) (h0 : (slAt l i).s ≠ 0) (hs : s.s ≠ 0) : free (l.set i s) = free l := by
  unfold free
  rw [List.length_set]
  apply List.filter_congr
  intro x _
  rw [slAt_set hi]
  by_cases hx : x = i
  · subst hx; simp [h0, hs]
  · simp [hx]

def SlotOk (s : Sl) (nx : Int) : Prop := (0 ≤ s.g ∧ s.g ≤ 1099511627776 ∧ 0 ≤ s.s ∧ s.s ≤ 3) ∧ (s.s = 0 → s.t = 0 ∧ s.q = 0) ∧ (s.s ≠ 0 → 0 ≤ s.t ∧ s.t ≤ 1152921504606846976 ∧ 0 ≤ s.q ∧ s.q < nx)
/-- One row of Valid's loop. -/
def RowOk (a : Ar) (i : Nat) : Prop := SlotOk (slAt a.sl i) a.nx ∧ ((slAt a.sl i).s = 0 ↔ (i : Int) ∈ a.id) ∧ ∀ k, k < i → ¬ ((slAt a.sl i).s ≠ 0 ∧ (slAt a.sl k).s ≠ 0 ∧ (slAt a.sl i).q = (slAt a.sl k).q)
def HeadOk (a : Ar) : Prop := 1 ≤ a.sl.length ∧ a.sl.length ≤ 64 ∧ 0 ≤ a.nx ∧ a.nx ≤ 1099511627776 ∧ a.id.length + liveL a.sl = a.sl.length
def ValidOk (a : Ar) : Prop := HeadOk a ∧ ∀ i, i < a.sl.length → RowOk a i
open Classical in
noncomputable def validA (a : Ar) : Bool := decide (ValidOk a)
theorem validA_yes {a : Ar} : validA a = true ↔ ValidOk a := by simp [validA]
theorem validA_no {a : Ar} : validA a = false ↔ ¬ ValidOk a := by simp [validA]

structure Good (a : Ar) : Prop where
  len0 : 1 ≤ a.sl.length
  len1 : a.sl.length ≤ 64
  nx0 : 0 ≤ a.nx
  nx1 : a.nx ≤ 1099511627776
  ok : ∀ i, i < a.sl.length → SlotOk (slAt a.sl i) a.nx
  perm : a.id.Perm ((free a.sl).map Int.ofNat)
  dist : ∀ i k, i < a.sl.length → k < a.sl.length → i ≠ k → (slAt a.sl i).s ≠ 0 → (slAt a.sl k).s ≠ 0 → (slAt a.sl i).q ≠ (slAt a.sl k).q
theorem Good.count {a : Ar} (h : Good a) : a.id.length + liveL a.sl = a.sl.length := by
  have := h.perm.length_eq
  rw [List.length_map] at this
  rw [this]; exact free_live a.sl
theorem Good.mem {a : Ar} (h : Good a) {x : Int} : x ∈ a.id ↔ ∃ i : Nat, x = i ∧ i < a.sl.length ∧ (slAt a.sl i).s = 0 := by
  rw [h.perm.mem_iff, List.mem_map]
  constructor
  · rintro ⟨i, hi, rfl⟩
    exact ⟨i, rfl, mem_free.1 hi⟩
  · rintro ⟨i, rfl, hi⟩
    exact ⟨i, mem_free.2 hi, rfl⟩
theorem Good.valid {a : Ar} (h : Good a) : ValidOk a := by
  refine ⟨⟨h.len0, h.len1, h.nx0, h.nx1, h.count⟩, fun i hi => ⟨h.ok i hi, ?_, fun k hk e => ?_⟩⟩
  · rw [h.mem]
    constructor
    · intro h0; exact ⟨i, rfl, hi, h0⟩
    · rintro ⟨j, hj, hl, h0⟩
      obtain rfl : i = j := by omega
      exact h0
  · exact h.dist i k hi (by omega) (by omega) e.1 e.2.1 e.2.2
theorem ValidOk.good {a : Ar} (h : ValidOk a) : Good a := by
  obtain ⟨⟨h1, h2, h3, h4, h5⟩, hr⟩ := h
  refine ⟨h1, h2, h3, h4, fun i hi => (hr i hi).1, ?_, ?_⟩
  · apply perm_of_sub
    · exact List.Pairwise.map Int.ofNat (fun a b hne e => hne (Int.ofNat.inj e)) (nodup_free _)
    · intro x hx
      obtain ⟨i, hi, rfl⟩ := List.mem_map.1 hx
      have := mem_free.1 hi
      exact (hr i this.1).2.1.1 this.2
    · rw [List.length_map]
      have := free_live a.sl
      omega
  · intro i k hi hk hne hs hs' hq
    by_cases hlt : k < i
    · exact (hr i hi).2.2 k hlt ⟨hs, hs', hq⟩
    · exact (hr k hk).2.2 i (by omega) ⟨hs', hs, hq.symm⟩
end Go.Proofs.Ythpofcomlidoiaa
