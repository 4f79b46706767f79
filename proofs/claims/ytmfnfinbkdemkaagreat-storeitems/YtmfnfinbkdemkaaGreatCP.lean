/- Plain maths: the arena as lists, its operations, when it is valid, what they keep. Nothing of the program. -/
/- Plain maths: the arena's operations and what they keep. -/
/- Plain maths: scripts of operations, issued handles, released ones. -/
import Derived.Test.YtmfnfinbkdemkaaGreatRows
namespace Go.Proofs.YtmfnfinbkdemkaaGreat.A5

structure Sl where
  g : Int
  s : Int
  t : Int
  q : Int
  deriving DecidableEq, Inhabited
structure Ar where
  sl : List Sl
  id : List Int
  nx : Int
  deriving DecidableEq
def slAt (l : List Sl) (i : Nat) : Sl := l[i]?.getD ⟨0, 0, 0, 0⟩
theorem slAt_get {l : List Sl} {i : Nat} (h : i < l.length) : slAt l i = l[i] := by simp [slAt, h]
theorem slAt_set {l : List Sl} {i k : Nat} {s : Sl} (h : i < l.length) : slAt (l.set i s) k = if k = i then s else slAt l k := by
  unfold slAt
  rw [List.getElem?_set]
  by_cases hk : k = i
  · subst hk; simp [h]
  · rw [if_neg (fun e => hk e.symm), if_neg hk]
def liveTo (l : List Sl) (k : Nat) : Nat := ((List.range k).filter (fun i => decide ((slAt l i).s ≠ 0))).length
def liveL (l : List Sl) : Nat := liveTo l l.length
def free (l : List Sl) : List Nat := (List.range l.length).filter (fun i => decide ((slAt l i).s = 0))
theorem liveTo_le (l : List Sl) (k : Nat) : liveTo l k ≤ k := by
  unfold liveTo
  exact Nat.le_trans (List.length_filter_le _ _) (by simp)
theorem liveTo_succ (l : List Sl) (k : Nat) : liveTo l (k + 1) = liveTo l k + (if (slAt l k).s = 0 then 0 else 1) := by
  unfold liveTo
  rw [List.range_succ, List.filter_append, List.length_append]
  by_cases h : (slAt l k).s = 0 <;> simp [h]
theorem mem_free {l : List Sl} {i : Nat} : i ∈ free l ↔ i < l.length ∧ (slAt l i).s = 0 := by simp [free]
theorem nodup_free (l : List Sl) : (free l).Nodup := List.Pairwise.filter _ List.nodup_range
theorem len_filter {α : Type} (p : α → Bool) : ∀ l : List α, (l.filter p).length + (l.filter (fun x => !p x)).length = l.length
  | [] => rfl
  | x :: l => by
    have := len_filter p l
    by_cases h : p x = true
    · simp [h]; omega
    · simp [h]; omega
theorem free_live (l : List Sl) : (free l).length + liveL l = l.length := by
  have h1 := len_filter (fun i => decide ((slAt l i).s = 0)) (List.range l.length)
  rw [List.length_range] at h1
  have h2 : (List.range l.length).filter (fun i => decide ((slAt l i).s ≠ 0)) = (List.range l.length).filter (fun i => !decide ((slAt l i).s = 0)) := by
    apply List.filter_congr
    intro x _
    by_cases h : (slAt l x).s = 0 <;> simp [h]
  unfold free liveL liveTo
  rw [h2]
  exact h1

section
variable {α : Type} [BEq α] [LawfulBEq α]
theorem perm_of_sub : ∀ (F L : List α), F.Nodup → (∀ x ∈ F, x ∈ L) → L.length ≤ F.length → L.Perm F
  | [], L, _, _, hl => by
    have : L = [] := List.eq_nil_of_length_eq_zero (by simpa using hl)
    rw [this]
  | f :: F, L, hn, hs, hl => by
    have hf : f ∈ L := hs f (by simp)
    have hnn := List.nodup_cons.1 hn
    have h1 := perm_of_sub F (L.erase f) hnn.2 (fun x hx => by
      have hne : x ≠ f := fun e => hnn.1 (e ▸ hx)
      exact (List.mem_erase_of_ne hne).2 (hs x (by simp [hx]))) (by
      rw [List.length_erase_of_mem hf]
      simp at hl; omega)
    exact (List.perm_cons_erase hf).trans (h1.cons f)
theorem perm_of_mem (A B : List α) (hA : A.Nodup) (hB : B.Nodup) (h : ∀ x, x ∈ A ↔ x ∈ B) : A.Perm B := by
  by_cases hl : A.length ≤ B.length
  · exact perm_of_sub B A hB (fun x hx => (h x).2 hx) hl
  · exact (perm_of_sub A B hA (fun x hx => (h x).1 hx) (by omega)).symm
end
theorem free_take {l : List Sl} {i : Nat} {s : Sl} (hi : i < l.length) (h0 : (slAt l i).s = 0) (hs : s.s ≠ 0) : (free l).Perm (i :: free (l.set i s)) := by
  apply perm_of_mem
  · exact nodup_free l
  · refine List.nodup_cons.2 ⟨?_, nodup_free _⟩
    rw [mem_free, slAt_set hi, if_pos rfl]
    exact fun h => hs h.2
  · intro x
    rw [List.mem_cons, mem_free, mem_free, slAt_set hi, List.length_set]
    by_cases hx : x = i
    · subst hx; simp [hi, h0]
    · simp [hx]
theorem set_back {l : List Sl} {i : Nat} {s : Sl} (hi : i < l.length) : (l.set i s).set i (slAt l i) = l := by
  rw [List.set_set, slAt_get hi, List.set_getElem_self]
theorem free_put {l : List Sl} {i : Nat} {s : Sl} (hi : i < l.length) (h0 : (slAt l i).s ≠ 0) (hs : s.s = 0) : (free (l.set i s)).Perm (i :: free l) := by
  have := free_take (l := l.set i s) (i := i) (s := slAt l i) (by simpa using hi) (by rw [slAt_set hi, if_pos rfl]; exact hs) h0
  rwa [set_back hi] at this
theorem free_same {l : List Sl} {i : Nat} {s : Sl} (hi : i < l.length) (h0 : (slAt l i).s ≠ 0) (hs : s.s ≠ 0) : free (l.set i s) = free l := by
  unfold free
  rw [List.length_set]
  apply List.filter_congr
  intro x _
  rw [slAt_set hi]
  by_cases hx : x = i
  · subst hx; simp [h0, hs]
  · simp [hx]

def SlotOk (s : Sl) (nx : Int) : Prop := (0 ≤ s.g ∧ s.g ≤ 1099511627776 ∧ 0 ≤ s.s ∧ s.s ≤ 3) ∧ (s.s = 0 → s.t = 0 ∧ s.q = 0) ∧ (s.s ≠ 0 → 0 ≤ s.t ∧ s.t ≤ 1152921504606846976 ∧ 0 ≤ s.q ∧ s.q < nx)
/-- One row of Valid's loop. -/
def RowOk (a : Ar) (i : Nat) : Prop := SlotOk (slAt a.sl i) a.nx ∧ ((slAt a.sl i).s = 0 ↔ (i : Int) ∈ a.id) ∧ ∀ k, k < i → ¬ ((slAt a.sl i).s ≠ 0 ∧ (slAt a.sl k).s ≠ 0 ∧ (slAt a.sl i).q = (slAt a.sl k).q)
def HeadOk (a : Ar) : Prop := 1 ≤ a.sl.length ∧ a.sl.length ≤ 64 ∧ 0 ≤ a.nx ∧ a.nx ≤ 1099511627776 ∧ a.id.length + liveL a.sl = a.sl.length
def ValidOk (a : Ar) : Prop := HeadOk a ∧ ∀ i, i < a.sl.length → RowOk a i
open Classical in
noncomputable def validA (a : Ar) : Bool := decide (ValidOk a)
theorem validA_yes {a : Ar} : validA a = true ↔ ValidOk a := by simp [validA]
theorem validA_no {a : Ar} : validA a = false ↔ ¬ ValidOk a := by simp [validA]

structure Good (a : Ar) : Prop where
  len0 : 1 ≤ a.sl.length
  len1 : a.sl.length ≤ 64
  nx0 : 0 ≤ a.nx
  nx1 : a.nx ≤ 1099511627776
  ok : ∀ i, i < a.sl.length → SlotOk (slAt a.sl i) a.nx
  perm : a.id.Perm ((free a.sl).map Int.ofNat)
  dist : ∀ i k, i < a.sl.length → k < a.sl.length → i ≠ k → (slAt a.sl i).s ≠ 0 → (slAt a.sl k).s ≠ 0 → (slAt a.sl i).q ≠ (slAt a.sl k).q
theorem Good.count {a : Ar} (h : Good a) : a.id.length + liveL a.sl = a.sl.length := by
  have := h.perm.length_eq
  rw [List.length_map] at this
  rw [this]; exact free_live a.sl
theorem Good.mem {a : Ar} (h : Good a) {x : Int} : x ∈ a.id ↔ ∃ i : Nat, x = i ∧ i < a.sl.length ∧ (slAt a.sl i).s = 0 := by
  rw [h.perm.mem_iff, List.mem_map]
  constructor
  · rintro ⟨i, hi, rfl⟩
    exact ⟨i, rfl, mem_free.1 hi⟩
  · rintro ⟨i, rfl, hi⟩
    exact ⟨i, mem_free.2 hi, rfl⟩
theorem Good.valid {a : Ar} (h : Good a) : ValidOk a := by
  refine ⟨⟨h.len0, h.len1, h.nx0, h.nx1, h.count⟩, fun i hi => ⟨h.ok i hi, ?_, fun k hk e => ?_⟩⟩
  · rw [h.mem]
    constructor
    · intro h0; exact ⟨i, rfl, hi, h0⟩
    · rintro ⟨j, hj, hl, h0⟩
      obtain rfl : i = j := by omega
      exact h0
  · exact h.dist i k hi (by omega) (by omega) e.1 e.2.1 e.2.2
theorem ValidOk.good {a : Ar} (h : ValidOk a) : Good a := by
  obtain ⟨⟨h1, h2, h3, h4, h5⟩, hr⟩ := h
  refine ⟨h1, h2, h3, h4, fun i hi => (hr i hi).1, ?_, ?_⟩
  · apply perm_of_sub
    · exact List.Pairwise.map Int.ofNat (fun a b hne e => hne (Int.ofNat.inj e)) (nodup_free _)
    · intro x hx
      obtain ⟨i, hi, rfl⟩ := List.mem_map.1 hx
      have := mem_free.1 hi
      exact (hr i this.1).2.1.1 this.2
    · rw [List.length_map]
      have := free_live a.sl
      omega
  · intro i k hi hk hne hs hs' hq
    by_cases hlt : k < i
    · exact (hr i hi).2.2 k hlt ⟨hs, hs', hq⟩
    · exact (hr k hk).2.2 i (by omega) ⟨hs', hs, hq.symm⟩
end Go.Proofs.YtmfnfinbkdemkaaGreat.A5
namespace Go.Proofs.YtmfnfinbkdemkaaGreat.A5

def newA (n : Nat) : Ar := ⟨List.replicate n ⟨0, 0, 0, 0⟩, (List.range n).map (fun i : Nat => (n : Int) - 1 - i), 0⟩
def lastI (a : Ar) : Nat := (a.id.getLast?.getD 0).toNat
/-- Alloc, where it succeeds. -/
def takeA (a : Ar) (t : Int) : Ar := ⟨a.sl.set (lastI a) ⟨(slAt a.sl (lastI a)).g, 1, t, a.nx⟩, a.id.dropLast, a.nx + 1⟩
def takeH (a : Ar) : Int := 64 * (slAt a.sl (lastI a)).g + (lastI a : Int)
def TimeOk (t : Int) : Prop := 0 ≤ t ∧ t ≤ 1152921504606846976
instance (t : Int) : Decidable (TimeOk t) := inferInstanceAs (Decidable (_ ∧ _))
def Room (a : Ar) : Prop := a.id ≠ [] ∧ a.nx < 1099511627776
instance (a : Ar) : Decidable (Room a) := inferInstanceAs (Decidable (_ ∧ _))
def allocA (a : Ar) (t : Int) : Ar × Int × Int := if TimeOk t then (if Room a then (takeA a t, takeH a, 0) else (a, 0, 10)) else (a, 0, 1)
theorem allocA_bad {a : Ar} {t : Int} (h : ¬ TimeOk t) : allocA a t = (a, 0, 1) := by rw [allocA, if_neg h]
theorem allocA_full {a : Ar} {t : Int} (h : TimeOk t) (k : ¬ Room a) : allocA a t = (a, 0, 10) := by rw [allocA, if_pos h, if_neg k]
theorem allocA_ok {a : Ar} {t : Int} (h : TimeOk t) (k : Room a) : allocA a t = (takeA a t, takeH a, 0) := by rw [allocA, if_pos h, if_pos k]

def Hnd (h : Int) : Prop := 0 ≤ h ∧ h ≤ 70368744177727
instance (h : Int) : Decidable (Hnd h) := inferInstanceAs (Decidable (_ ∧ _))
def hS (h : Int) : Nat := (h % 64).toNat
def Refers (a : Ar) (h : Int) : Prop := Hnd h ∧ hS h < a.sl.length ∧ (slAt a.sl (hS h)).g = h / 64 ∧ (slAt a.sl (hS h)).s ≠ 0
instance (a : Ar) (h : Int) : Decidable (Refers a h) := inferInstanceAs (Decidable (_ ∧ _))
theorem hS_cast (h : Int) : ((hS h : Nat) : Int) = h % 64 := by unfold hS; omega
theorem hS_lt (h : Int) : hS h < 64 := by unfold hS; omega
def lookA (a : Ar) (h : Int) : Sl × Bool := if Refers a h then (slAt a.sl (hS h), true) else (⟨0, 0, 0, 0⟩, false)
def setS (a : Ar) (i : Nat) (s : Sl) : Ar := ⟨a.sl.set i s, a.id, a.nx⟩
def Moves (a : Ar) (h f t : Int) : Prop := Refers a h ∧ (slAt a.sl (hS h)).s = f ∧ 1 ≤ t ∧ t ≤ 3
instance (a : Ar) (h f t : Int) : Decidable (Moves a h f t) := inferInstanceAs (Decidable (_ ∧ _))
def moveS (s : Sl) (t : Int) : Sl := ⟨s.g, t, s.t, s.q⟩
def transA (a : Ar) (h f t : Int) : Ar × Bool := if Moves a h f t then (setS a (hS h) (moveS (slAt a.sl (hS h)) t), true) else (a, false)
def Frees (a : Ar) (h : Int) : Prop := Refers a h ∧ (slAt a.sl (hS h)).g < 1099511627776
instance (a : Ar) (h : Int) : Decidable (Frees a h) := inferInstanceAs (Decidable (_ ∧ _))
def freeS (s : Sl) : Sl := ⟨s.g + 1, 0, 0, 0⟩
def putA (a : Ar) (h : Int) : Ar := ⟨a.sl.set (hS h) (freeS (slAt a.sl (hS h))), a.id ++ [(hS h : Int)], a.nx⟩
def relA (a : Ar) (h : Int) : Ar × Bool := if Frees a h then (putA a h, true) else (a, false)

theorem Good.last {a : Ar} (h : Good a) (hn : a.id ≠ []) : lastI a < a.sl.length ∧ (slAt a.sl (lastI a)).s = 0 ∧ a.id = a.id.dropLast ++ [(lastI a : Int)] := by
  have h1 : a.id.getLast hn ∈ a.id := List.getLast_mem hn
  obtain ⟨i, e, hi, h0⟩ := h.mem.1 h1
  have e2 : lastI a = i := by
    unfold lastI
    rw [List.getLast?_eq_some_getLast hn, Option.getD_some, e, Int.toNat_natCast]
  rw [e2]
  refine ⟨hi, h0, ?_⟩
  rw [← e, List.dropLast_concat_getLast hn]
theorem Good.set {a : Ar} (h : Good a) {i : Nat} {s : Sl} {ids : List Int} {nx : Int} (hi : i < a.sl.length) (hnx : a.nx ≤ nx) (hnx2 : nx ≤ 1099511627776) (hs : SlotOk s nx) (hp : ids.Perm ((free (a.sl.set i s)).map Int.ofNat))
    (hd : s.s ≠ 0 → ∀ k, k < a.sl.length → k ≠ i → (slAt a.sl k).s ≠ 0 → s.q ≠ (slAt a.sl k).q) : Good ⟨a.sl.set i s, ids, nx⟩ := by
  refine ⟨by simpa using h.len0, by simpa using h.len1, by have := h.nx0; simp only; omega, hnx2, ?_, hp, ?_⟩
  · intro k hk
    simp only [List.length_set] at hk
    simp only
    rw [slAt_set hi]
    by_cases hki : k = i
    · rw [if_pos hki]; exact hs
    · rw [if_neg hki]
      obtain ⟨h1, h2, h3⟩ := h.ok k hk
      exact ⟨h1, h2, fun e => by have := h3 e; omega⟩
  · intro k m hk hm hne
    simp only [List.length_set] at hk hm
    simp only
    rw [slAt_set hi, slAt_set hi]
    by_cases hki : k = i
    · subst hki
      rw [if_pos rfl, if_neg (fun e => hne e.symm)]
      intro h1 h2
      exact hd h1 m hm (fun e => hne e.symm) h2
    · rw [if_neg hki]
      by_cases hmi : m = i
      · subst hmi
        rw [if_pos rfl]
        intro h1 h2 e
        exact hd h2 k hk hki h1 e.symm
      · rw [if_neg hmi]
        exact h.dist k m hk hm hne
theorem Good.take {a : Ar} (h : Good a) {t : Int} (ht : TimeOk t) (hr : Room a) : Good (takeA a t) := by
  obtain ⟨hi, h0, hid⟩ := h.last hr.1
  have hsl := h.ok _ hi
  have hg := hsl.1
  have hx0 := h.nx0
  refine h.set hi (by omega) (by have := hr.2; omega) ⟨⟨hg.1, hg.2.1, by simp, by simp⟩, by simp, fun _ => ⟨ht.1, ht.2, hx0, by simp only; omega⟩⟩ ?_ ?_
  · have h1 := free_take (s := ⟨(slAt a.sl (lastI a)).g, 1, t, a.nx⟩) hi h0 (by simp)
    have h2 := h.perm.trans (h1.map Int.ofNat)
    rw [hid] at h2
    have h3 : (a.id.dropLast ++ [(lastI a : Int)]).Perm ((lastI a : Int) :: a.id.dropLast) := List.perm_append_singleton _ _
    exact (h3.symm.trans h2).cons_inv
  · intro _ k hk hne hks
    have := ((h.ok k hk).2.2 hks).2.2.2
    simp only; omega
theorem Good.move {a : Ar} (h : Good a) {hd f t : Int} (hm : Moves a hd f t) : Good (setS a (hS hd) (moveS (slAt a.sl (hS hd)) t)) := by
  obtain ⟨⟨hh, hl, hgn, hs⟩, hf, h1, h2⟩ := hm
  obtain ⟨o1, o2, o3⟩ := h.ok _ hl
  refine h.set hl (by omega) h.nx1 ⟨⟨o1.1, o1.2.1, by simp only [moveS]; omega, by simp only [moveS]; omega⟩, fun e => by simp only [moveS] at e; omega, fun _ => o3 hs⟩ ?_ ?_
  · rw [free_same hl hs (by simp only [moveS]; omega)]; exact h.perm
  · intro _ k hk hne hks
    exact h.dist _ _ hl hk (fun e => hne e.symm) hs hks
theorem Good.put {a : Ar} (h : Good a) {hd : Int} (hf : Frees a hd) : Good (putA a hd) := by
  obtain ⟨⟨hh, hl, hgn, hs⟩, h1⟩ := hf
  obtain ⟨o1, o2, o3⟩ := h.ok _ hl
  refine h.set hl (by omega) h.nx1 ⟨⟨by simp only [freeS]; omega, by simp only [freeS]; omega, by simp [freeS], by simp [freeS]⟩, by simp [freeS], by simp [freeS]⟩ ?_ (by simp [freeS])
  have h2 := (free_put (s := freeS (slAt a.sl (hS hd))) hl hs (by simp [freeS])).map Int.ofNat
  exact (List.perm_append_singleton _ _).trans ((h.perm.cons _).trans h2.symm)
theorem newA_good {n : Nat} (h1 : 1 ≤ n) (h2 : n ≤ 64) : Good (newA n) := by
  have hs : ∀ i, slAt (newA n).sl i = ⟨0, 0, 0, 0⟩ := by
    intro i
    simp only [newA, slAt, List.getElem?_replicate]
    split <;> rfl
  have hl : (newA n).sl.length = n := by simp [newA]
  refine ⟨by rw [hl]; exact h1, by rw [hl]; exact h2, by simp [newA], by simp [newA], ?_, ?_, ?_⟩
  · intro i _
    rw [hs]
    refine ⟨by decide, by simp, by simp⟩
  · have hf : free (newA n).sl = List.range n := by
      unfold free
      rw [hl, List.filter_eq_self]
      intro x _
      rw [hs]; simp
    rw [hf]
    refine perm_of_sub _ _ (List.Pairwise.map Int.ofNat (fun a b hne e => hne (Int.ofNat.inj e)) List.nodup_range) ?_ (by simp [newA])
    intro x hx
    obtain ⟨i, hi, rfl⟩ := List.mem_map.1 hx
    have := List.mem_range.1 hi
    simp only [newA, List.mem_map, List.mem_range]
    exact ⟨n - 1 - i, by omega, by simp only [Int.ofNat_eq_natCast]; omega⟩
  · intro i k _ _ _ h
    rw [hs] at h
    simp at h
end Go.Proofs.YtmfnfinbkdemkaaGreat.A5
namespace Go.Proofs.YtmfnfinbkdemkaaGreat.A5

/-- An operation of a script. -/
structure Oz where
  k : Int
  n : Int
  a : Int
  b : Int
  deriving Inhabited
def pickA (is : List Int) (n : Int) : Int := if is = [] ∨ n.tmod 5 = 4 then n else is[(n.tmod is.length).natAbs]?.getD 0
def stepA (a : Ar) (is : List Int) (o : Oz) : Ar × List Int × Bool :=
  if o.k % 4 = 0 ∨ o.k % 4 = 1 then
    (if (allocA a o.n).2.2 = 0 then ((allocA a o.n).1, is ++ [(allocA a o.n).2.1], true) else ((allocA a o.n).1, is, false))
  else if o.k % 4 = 2 then ((transA a (pickA is o.n) (o.a % 5) (o.b % 5)).1, is, (transA a (pickA is o.n) (o.a % 5) (o.b % 5)).2)
  else ((relA a (pickA is o.n)).1, is, (relA a (pickA is o.n)).2)
def runA (p : Ar × List Int) (os : List Oz) : Ar × List Int := os.foldl (fun p o => ((stepA p.1 p.2 o).1, (stepA p.1 p.2 o).2.1)) p
theorem runA_take_succ (p : Ar × List Int) (os : List Oz) (k : Nat) (h : k < os.length) : runA p (os.take (k + 1)) = ((stepA (runA p (os.take k)).1 (runA p (os.take k)).2 os[k]).1, (stepA (runA p (os.take k)).1 (runA p (os.take k)).2 os[k]).2.1) := by
  rw [List.take_succ_eq_append_getElem h, runA, List.foldl_append]; rfl

/-- The kinds of what a step can be: alloc, move, free or nothing. -/
theorem step_cases (a : Ar) (is : List Int) (o : Oz) : (∃ t, TimeOk t ∧ Room a ∧ stepA a is o = (takeA a t, is ++ [takeH a], true)) ∨ (∃ h f t, Moves a h f t ∧ stepA a is o = (setS a (hS h) (moveS (slAt a.sl (hS h)) t), is, true)) ∨ (∃ h, Frees a h ∧ stepA a is o = (putA a h, is, true)) ∨ stepA a is o = (a, is, false) := by
  unfold stepA
  by_cases h1 : o.k % 4 = 0 ∨ o.k % 4 = 1
  · rw [if_pos h1]
    by_cases ht : TimeOk o.n
    · by_cases hr : Room a
      · rw [allocA_ok ht hr]; exact .inl ⟨o.n, ht, hr, by simp⟩
      · rw [allocA_full ht hr]; exact .inr (.inr (.inr (by simp)))
    · rw [allocA_bad ht]; exact .inr (.inr (.inr (by simp)))
  · rw [if_neg h1]
    by_cases h2 : o.k % 4 = 2
    · rw [if_pos h2]
      by_cases hm : Moves a (pickA is o.n) (o.a % 5) (o.b % 5)
      · rw [transA, if_pos hm]; exact .inr (.inl ⟨_, _, _, hm, rfl⟩)
      · rw [transA, if_neg hm]; exact .inr (.inr (.inr rfl))
    · rw [if_neg h2]
      by_cases hf : Frees a (pickA is o.n)
      · rw [relA, if_pos hf]; exact .inr (.inr (.inl ⟨_, hf, rfl⟩))
      · rw [relA, if_neg hf]; exact .inr (.inr (.inr rfl))
theorem step_good {a : Ar} {is : List Int} (h : Good a) (o : Oz) : Good (stepA a is o).1 := by
  rcases step_cases a is o with ⟨t, ht, hr, e⟩ | ⟨x, f, t, hm, e⟩ | ⟨x, hf, e⟩ | e <;> rw [e]
  · exact h.take ht hr
  · exact h.move hm
  · exact h.put hf
  · exact h
theorem step_nx {a : Ar} {is : List Int} (o : Oz) : (stepA a is o).1.nx ≤ a.nx + 1 := by
  rcases step_cases a is o with ⟨t, ht, hr, e⟩ | ⟨x, f, t, hm, e⟩ | ⟨x, hf, e⟩ | e <;> rw [e] <;> simp only [takeA, setS, putA] <;> omega
theorem step_len {a : Ar} {is : List Int} (o : Oz) : (stepA a is o).1.sl.length = a.sl.length := by
  rcases step_cases a is o with ⟨t, ht, hr, e⟩ | ⟨x, f, t, hm, e⟩ | ⟨x, hf, e⟩ | e <;> rw [e] <;> simp [takeA, setS, putA]
theorem step_iss_len {a : Ar} {is : List Int} (o : Oz) : (stepA a is o).2.1.length ≤ is.length + 1 := by
  rcases step_cases a is o with ⟨t, ht, hr, e⟩ | ⟨x, f, t, hm, e⟩ | ⟨x, hf, e⟩ | e <;> rw [e] <;> simp

/-- Issued handles: none is of a generation that its slot has yet to reach, and a free slot's generation has been issued to nobody. -/
def Iss (a : Ar) (is : List Int) : Prop := ∀ h ∈ is, Hnd h ∧ hS h < a.sl.length ∧ h / 64 ≤ (slAt a.sl (hS h)).g ∧ ((slAt a.sl (hS h)).s = 0 → h / 64 < (slAt a.sl (hS h)).g)
/-- A released handle: its slot has passed its generation. -/
def Dead (a : Ar) (h : Int) : Prop := Hnd h ∧ hS h < a.sl.length ∧ h / 64 < (slAt a.sl (hS h)).g
theorem Dead.refers {a : Ar} {h : Int} (d : Dead a h) : ¬ Refers a h := fun r => by have := d.2.2; have := r.2.2.1; omega
theorem takeH_hnd {a : Ar} (hg : Good a) (hr : Room a) : Hnd (takeH a) ∧ hS (takeH a) = lastI a ∧ takeH a / 64 = (slAt a.sl (lastI a)).g := by
  obtain ⟨hi, h0, _⟩ := hg.last hr.1
  have h1 := (hg.ok _ hi).1
  have h2 := hg.len1
  refine ⟨⟨?_, ?_⟩, ?_, ?_⟩
  · unfold takeH; omega
  · unfold takeH; omega
  · unfold hS takeH; omega
  · unfold takeH; omega
/-- What a step does to one slot: its generation doesn't fall; if it stays, the slot stays live where it was, unless it has just been taken. -/
theorem step_iss {a : Ar} {is : List Int} (hg : Good a) (hi : Iss a is) (o : Oz) : Iss (stepA a is o).1 (stepA a is o).2.1 := by
  rcases step_cases a is o with ⟨t, ht, hr, e⟩ | ⟨x, f, t, hm, e⟩ | ⟨x, hf, e⟩ | e <;> rw [e]
  · obtain ⟨hl, h0, _⟩ := hg.last hr.1
    intro h hh
    have key : ∀ h', Hnd h' ∧ hS h' < a.sl.length ∧ h' / 64 ≤ (slAt a.sl (hS h')).g ∧ ((slAt a.sl (hS h')).s = 0 → hS h' ≠ lastI a → h' / 64 < (slAt a.sl (hS h')).g) → Hnd h' ∧ hS h' < (takeA a t).sl.length ∧ h' / 64 ≤ (slAt (takeA a t).sl (hS h')).g ∧ ((slAt (takeA a t).sl (hS h')).s = 0 → h' / 64 < (slAt (takeA a t).sl (hS h')).g) := by
      rintro h' ⟨k1, k2, k3, k4⟩
      simp only [takeA, List.length_set]
      rw [slAt_set hl]
      by_cases hk : hS h' = lastI a
      · rw [if_pos hk]
        exact ⟨k1, k2, by rw [hk] at k3; exact k3, by simp⟩
      · rw [if_neg hk]
        exact ⟨k1, k2, k3, fun e => k4 e hk⟩
    rcases List.mem_append.1 hh with hh | hh
    · obtain ⟨k1, k2, k3, k4⟩ := hi h hh
      exact key h ⟨k1, k2, k3, fun e _ => k4 e⟩
    · obtain rfl : h = takeH a := by simpa using hh
      obtain ⟨t1, t2, t3⟩ := takeH_hnd hg hr
      exact key _ ⟨t1, by rw [t2]; exact hl, by rw [t2, t3]; exact Int.le_refl _, fun _ hk => absurd t2 hk⟩
  · intro h hh
    obtain ⟨k1, k2, k3, k4⟩ := hi h hh
    simp only [setS, List.length_set]
    rw [slAt_set hm.1.2.1]
    by_cases hk : hS h = hS x
    · rw [if_pos hk, ← hk]
      exact ⟨k1, k2, k3, fun e => by have := hm.2.2.1; simp only [moveS] at e; omega⟩
    · rw [if_neg hk]; exact ⟨k1, k2, k3, k4⟩
  · intro h hh
    obtain ⟨k1, k2, k3, k4⟩ := hi h hh
    simp only [putA, List.length_set]
    rw [slAt_set hf.1.2.1]
    by_cases hk : hS h = hS x
    · rw [if_pos hk, ← hk]
      exact ⟨k1, k2, by simp only [freeS]; omega, fun _ => by simp only [freeS]; omega⟩
    · rw [if_neg hk]; exact ⟨k1, k2, k3, k4⟩
  · exact hi
theorem step_dead {a : Ar} {is : List Int} (hg : Good a) {h : Int} (hd : Dead a h) (o : Oz) : Dead (stepA a is o).1 h := by
  obtain ⟨k1, k2, k3⟩ := hd
  rcases step_cases a is o with ⟨t, ht, hr, e⟩ | ⟨x, f, t, hm, e⟩ | ⟨x, hf, e⟩ | e <;> rw [e]
  · obtain ⟨hl, h0, _⟩ := hg.last hr.1
    refine ⟨k1, by simpa [takeA] using k2, ?_⟩
    simp only [takeA]
    rw [slAt_set hl]
    by_cases hk : hS h = lastI a
    · rw [if_pos hk]; rw [hk] at k3; exact k3
    · rw [if_neg hk]; exact k3
  · refine ⟨k1, by simpa [setS] using k2, ?_⟩
    simp only [setS]
    rw [slAt_set hm.1.2.1]
    by_cases hk : hS h = hS x
    · rw [if_pos hk, ← hk]; exact k3
    · rw [if_neg hk]; exact k3
  · refine ⟨k1, by simpa [putA] using k2, ?_⟩
    simp only [putA]
    rw [slAt_set hf.1.2.1]
    by_cases hk : hS h = hS x
    · rw [if_pos hk, ← hk]; simp only [freeS]; omega
    · rw [if_neg hk]; exact k3
  · exact ⟨k1, k2, k3⟩
theorem put_dead {a : Ar} {h : Int} (hf : Frees a h) : Dead (putA a h) h := by
  obtain ⟨⟨h1, h2, h3, h4⟩, h5⟩ := hf
  refine ⟨h1, by simpa [putA] using h2, ?_⟩
  simp only [putA]
  rw [slAt_set h2, if_pos rfl]
  simp only [freeS]; omega
theorem put_iss {a : Ar} {is : List Int} (hi : Iss a is) {h : Int} (hf : Frees a h) : Iss (putA a h) is := by
  intro h' hh
  obtain ⟨k1, k2, k3, k4⟩ := hi h' hh
  simp only [putA, List.length_set]
  rw [slAt_set hf.1.2.1]
  by_cases hk : hS h' = hS h
  · rw [if_pos hk, ← hk]
    exact ⟨k1, k2, by simp only [freeS]; omega, fun _ => by simp only [freeS]; omega⟩
  · rw [if_neg hk]; exact ⟨k1, k2, k3, k4⟩
/-- A new handle was not issued before. -/
theorem take_fresh {a : Ar} {is : List Int} (hg : Good a) (hi : Iss a is) (hr : Room a) : takeH a ∉ is := fun hm => by
  obtain ⟨hl, h0, _⟩ := hg.last hr.1
  obtain ⟨t1, t2, t3⟩ := takeH_hnd hg hr
  obtain ⟨_, _, _, k4⟩ := hi _ hm
  have := k4 (by rw [t2]; exact h0)
  rw [t2] at this
  omega
/-- What a script reaches: valid, its handles issued, as many sequence numbers as steps at most. -/
structure ReachA (n : Nat) (k : Nat) (a : Ar) (is : List Int) : Prop where
  good : Good a
  iss : Iss a is
  nx : a.nx ≤ k
  len : a.sl.length = n
  isl : is.length ≤ k
theorem reachA_new {n : Nat} (h1 : 1 ≤ n) (h2 : n ≤ 64) : ReachA n 0 (newA n) [] := ⟨newA_good h1 h2, by intro h hh; simp at hh, by simp [newA], by simp [newA], by simp⟩
theorem ReachA.step {n k : Nat} {a : Ar} {is : List Int} (h : ReachA n k a is) (o : Oz) : ReachA n (k + 1) (stepA a is o).1 (stepA a is o).2.1 :=
  ⟨step_good h.good o, step_iss h.good h.iss o, by have := step_nx (a := a) (is := is) o; have := h.nx; omega, by rw [step_len]; exact h.len, by have := step_iss_len (a := a) (is := is) o; have := h.isl; omega⟩
theorem reachA_run {n : Nat} (h1 : 1 ≤ n) (h2 : n ≤ 64) (os : List Oz) : ∀ k, k ≤ os.length → ReachA n k (runA (newA n, []) (os.take k)).1 (runA (newA n, []) (os.take k)).2
  | 0, _ => by rw [List.take_zero]; exact reachA_new h1 h2
  | k + 1, h => by rw [runA_take_succ _ _ _ (by omega)]; exact (reachA_run h1 h2 os k (by omega)).step _
end Go.Proofs.YtmfnfinbkdemkaaGreat.A5
