/- Plain maths: the arena's operations and what they keep. -/
import Derived.Test.YthpofcomlidoiaaCM
namespace Go.Proofs.Ythpofcomlidoiaa

def newA (n : Nat) : Ar := ⟨List.replicate n ⟨0, 0, 0, 0⟩, (List.range n).map (fun i : Nat => (n : Int) - 1 - i), 0⟩
def lastI (a : Ar) : Nat := (a.id.getLast?.getD 0).toNat
/-- Alloc, where it succeeds. -/
def takeA (a : Ar) (t : Int) : Ar := ⟨a.sl.set (lastI a) ⟨(slAt a.sl (lastI a)).g, 1, t, a.nx⟩, a.id.dropLast, a.nx + 1⟩
def takeH (a : Ar) : Int := 64 * (slAt a.sl (lastI a)).g + (lastI a : Int)
def TimeOk (t : Int) : Prop := 0 ≤ t ∧ t ≤ 1152921504606846976
instance (t : Int) : Decidable (TimeOk t) := inferInstanceAs (Decidable (_ ∧ _))
def Room (a : Ar) : Prop := a.id ≠ [] ∧ a.nx < 1099511627776
instance (a : Ar) : Decidable (Room a) := inferInstanceAs (Decidable (_ ∧ _))
def allocA (a : Ar) (t : Int) : Ar × Int × Int := if TimeOk t then (if Room a then (takeA a t, takeH a, 0) else (a, 0, 10)) else (a, 0, 1)
theorem allocA_bad {a : Ar} {t : Int} (h : ¬ TimeOk t) : allocA a t = (a, 0, 1) := by rw [allocA, if_neg h]
theorem allocA_full {a : Ar} {t : Int} (h : TimeOk t) (k : ¬ Room a) : allocA a t = (a, 0, 10) := by rw [allocA, if_pos h, if_neg k]
theorem allocA_ok {a : Ar} {t : Int} (h : TimeOk t) (k : Room a) : allocA a t = (takeA a t, takeH a, 0) := by rw [allocA, if_pos h, if_pos k]

def Hnd (h : Int) : Prop := 0 ≤ h ∧ h ≤ 70368744177727
instance (h : Int) : Decidable (Hnd h) := inferInstanceAs (Decidable (_ ∧ _))
def hS (h : Int) : Nat := (h % 64).toNat
def Refers (a : Ar) (h : Int) : Prop := Hnd h ∧ hS h < a.sl.length ∧ (slAt a.sl (hS h)).g = h / 64 ∧ (slAt a.sl (hS h)).s ≠ 0
instance (a : Ar) (h : Int) : Decidable (Refers a h) := inferInstanceAs (Decidable (_ ∧ _))
theorem hS_cast (h : Int) : ((hS h : Nat) : Int) = h % 64 := by unfold hS; omega
theorem hS_lt (h : Int) : hS h < 64 := by unfold hS; omega
def lookA (a : Ar) (h : Int) : Sl × Bool := if Refers a h then (slAt a.sl (hS h), true) else (⟨0, 0, 0, 0⟩, false)
def setS (a : Ar) (i : Nat) (s : Sl) : Ar := ⟨a.sl.set i s, a.id, a.nx⟩
def Moves (a : Ar) (h f t : Int) : Prop := Refers a h ∧ (slAt a.sl (hS h)).s = f ∧ 1 ≤ t ∧ t ≤ 3
instance (a : Ar) (h f t : Int) : Decidable (Moves a h f t) := inferInstanceAs (Decidable (_ ∧ _))
def moveS (s : Sl) (t : Int) : Sl := ⟨s.g, t, s.t, s.q⟩
def transA (a : Ar) (h f t : Int) : Ar × Bool := if Moves a h f t then (setS a (hS h) (moveS (slAt a.sl (hS h)) t), true) else (a, false)
def Frees (a : Ar) (h : Int) : Prop := Refers a h ∧ (slAt a.sl (hS h)).g < 1099511627776
instance (a : Ar) (h : Int) : Decidable (Frees a h) := inferInstanceAs (Decidable (_ ∧ _))
def freeS (s : Sl) : Sl := ⟨s.g + 1, 0, 0, 0⟩
def putA (a : Ar) (h : Int) : Ar := ⟨a.sl.set (hS h) (freeS (slAt a.sl (hS h))), a.id ++ [(hS h : Int)], a.nx⟩
def relA (a : Ar) (h : Int) : Ar × Bool := if Frees a h then (putA a h, true) else (a, false)

theorem Good.last {a : Ar} (h : Good a) (hn : a.id ≠ []) : lastI a < a.sl.length ∧ (slAt a.sl (lastI a)).s = 0 ∧ a.id = a.id.dropLast ++ [(lastI a : Int)] := by
  have h1 : a.id.getLast hn ∈ a.id := List.getLast_mem hn
  obtain ⟨i, e, hi, h0⟩ := h.mem.1 h1
  have e2 : lastI a = i := by
    unfold lastI
    rw [List.getLast?_eq_some_getLast hn, Option.getD_some, e, Int.toNat_natCast]
  rw [e2]
  refine ⟨hi, h0, ?_⟩
  rw [← e, List.dropLast_concat_getLast hn]
theorem Good.set {a : Ar} (h : Good a) {i : Nat} {s : Sl} {ids : List Int} {nx : Int} (hi : i < a.sl.length) (hnx : a.nx ≤ nx) (hnx2 : nx ≤ 1099511627776) (hs : SlotOk s nx) (hp : ids.Perm ((free (a.sl.set i s)).map Int.ofNat))
    (hd : s.s ≠ 0 → ∀ k, k < a.sl.length → k ≠ i → (slAt a.sl k).s ≠ 0 → s.q ≠ (slAt a.sl k).q) : Good ⟨a.sl.set i s, ids, nx⟩ := by
  refine ⟨by simpa using h.len0, by simpa using h.len1, by have := h.nx0; simp only; omega, hnx2, ?_, hp, ?_⟩
  · intro k hk
    simp only [List.length_set] at hk
    simp only
    rw [slAt_set hi]
    by_cases hki : k = i
    · rw [if_pos hki]; exact hs
    · rw [if_neg hki]
      obtain ⟨h1, h2, h3⟩ := h.ok k hk
      exact ⟨h1, h2, fun e => by have := h3 e; omega⟩
  · intro k m hk hm hne
    simp only [List.length_set] at hk hm
    simp only
    rw [slAt_set hi, slAt_set hi]
    by_cases hki : k = i
    · subst hki
      rw [if_pos rfl, if_neg (fun e => hne e.symm)]
      intro h1 h2
      exact hd h1 m hm (fun e => hne e.symm) h2
    · rw [if_neg hki]
      by_cases hmi : m = i
      · subst hmi
        rw [if_pos rfl]
        intro h1 h2 e
        exact hd h2 k hk hki h1 e.symm
      · rw [if_neg hmi]
        exact h.dist k m hk hm hne
theorem Good.take {a : Ar} (h : Good a) {t : Int} (ht : TimeOk t) (hr : Room a) : Good (takeA a t) := by
  obtain ⟨hi, h0, hid⟩ := h.last hr.1
  have hsl := h.ok _ hi
  have hg := hsl.1
  have hx0 := h.nx0
  refine h.set hi (by omega) (by have := hr.2; omega) ⟨⟨hg.1, hg.2.1, by simp, by simp⟩, by simp, fun _ => ⟨ht.1, ht.2, hx0, by simp only; omega⟩⟩ ?_ ?_
  · have h1 := free_take (s := ⟨(slAt a.sl (lastI a)).g, 1, t, a.nx⟩) hi h0 (by simp)
    have h2 := h.perm.trans (h1.map Int.ofNat)
    rw [hid] at h2
    have h3 : (a.id.dropLast ++ [(lastI a : Int)]).Perm ((lastI a : Int) :: a.id.dropLast) := List.perm_append_singleton _ _
    exact (h3.symm.trans h2).cons_inv
  · intro _ k hk hne hks
    have := ((h.ok k hk).2.2 hks).2.2.2
    simp only; omega
theorem Good.move {a : Ar} (h : Good a) {hd f t : Int} (hm : Moves a hd f t) : Good (setS a (hS hd) (moveS (slAt a.sl (hS hd)) t)) := by
  obtain ⟨⟨hh, hl, hgn, hs⟩, hf, h1, h2⟩ := hm
  obtain ⟨o1, o2, o3⟩ := h.ok _ hl
  refine h.set hl (by omega) h.nx1 ⟨⟨o1.1, o1.2.1, by simp only [moveS]; omega, by simp only [moveS]; omega⟩, fun e => by simp only [moveS] at e; omega, fun _ => o3 hs⟩ ?_ ?_
  · rw [free_same hl hs (by simp only [moveS]; omega)]; exact h.perm
  · intro _ k hk hne hks
    exact h.dist _ _ hl hk (fun e => hne e.symm) hs hks
theorem Good.put {a : Ar} (h : Good a) {hd : Int} (hf : Frees a hd) : Good (putA a hd) := by
  obtain ⟨⟨hh, hl, hgn, hs⟩, h1⟩ := hf
  obtain ⟨o1, o2, o3⟩ := h.ok _ hl
  refine h.set hl (by omega) h.nx1 ⟨⟨by simp only [freeS]; omega, by simp only [freeS]; omega, by simp [freeS], by simp [freeS]⟩, by simp [freeS], by simp [freeS]⟩ ?_ (by simp [freeS])
  have h2 := (free_put (s := freeS (slAt a.sl (hS hd))) hl hs (by simp [freeS])).map Int.ofNat
  exact (List.perm_append_singleton _ _).trans ((h.perm.cons _).trans h2.symm)
theorem newA_good {n : Nat} (h1 : 1 ≤ n) (h2 : n ≤ 64) : Good (newA n) := by
  have hs : ∀ i, slAt (newA n).sl i = ⟨0, 0, 0, 0⟩ := by
    intro i
    simp only [newA, slAt, List.getElem?_replicate]
    split <;> rfl
  have hl : (newA n).sl.length = n := by simp [newA]
  refine ⟨by rw [hl]; exact h1, by rw [hl]; exact h2, by simp [newA], by simp [newA], ?_, ?_, ?_⟩
  · intro i _
    rw [hs]
    refine ⟨by decide, by simp, by simp⟩
  · have hf : free (newA n).sl = List.range n := by
      unfold free
      rw [hl, List.filter_eq_self]
      intro x _
      rw [hs]; simp
    rw [hf]
    refine perm_of_sub _ _ (List.Pairwise.map Int.ofNat (fun a b hne e => hne (Int.ofNat.inj e)) List.nodup_range) ?_ (by simp [newA])
    intro x hx
    obtain ⟨i, hi, rfl⟩ := List.mem_map.1 hx
    have := List.mem_range.1 hi
    simp only [newA, List.mem_map, List.mem_range]
    exact ⟨n - 1 - i, by omega, by simp only [Int.ofNat_eq_natCast]; omega⟩
  · intro i k _ _ _ h
    rw [hs] at h
    simp at h
end Go.Proofs.Ythpofcomlidoiaa
