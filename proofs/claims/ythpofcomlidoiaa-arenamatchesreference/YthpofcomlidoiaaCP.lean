/- Plain maths: scripts of operations, issued handles, released ones. -/
import Derived.Test.YthpofcomlidoiaaCN
namespace Go.Proofs.Ythpofcomlidoiaa

/-- An operation of a script. -/
structure Oz where
  k : Int
  n : Int
  a : Int
  b : Int
  deriving Inhabited
def pickA (is : List Int) (n : Int) : Int := if is = [] ∨ n.tmod 5 = 4 then n else is[(n.tmod is.length).natAbs]?.getD 0
def stepA (a : Ar) (is : List Int) (o : Oz) : Ar × List Int × Bool :=
  if o.k % 4 = 0 ∨ o.k % 4 = 1 then
    (if (allocA a o.n).2.2 = 0 then ((allocA a o.n).1, is ++ [(allocA a o.n).2.1], true) else ((allocA a o.n).1, is, false))
  else if o.k % 4 = 2 then ((transA a (pickA is o.n) (o.a % 5) (o.b % 5)).1, is, (transA a (pickA is o.n) (o.a % 5) (o.b % 5)).2)
  else ((relA a (pickA is o.n)).1, is, (relA a (pickA is o.n)).2)
def runA (p : Ar × List Int) (os : List Oz) : Ar × List Int := os.foldl (fun p o => ((stepA p.1 p.2 o).1, (stepA p.1 p.2 o).2.1)) p
theorem runA_take_succ (p : Ar × List Int) (os : List Oz) (k : Nat) (h : k < os.length) : runA p (os.take (k + 1)) = ((stepA (runA p (os.take k)).1 (runA p (os.take k)).2 os[k]).1, (stepA (runA p (os.take k)).1 (runA p (os.take k)).2 os[k]).2.1) := by
  rw [List.take_succ_eq_append_getElem h, runA, List.foldl_append]; rfl

/-- The kinds of what a step can be: alloc, move, free or nothing. -/
theorem step_cases (a : Ar) (is : List Int) (o : Oz) : (∃ t, TimeOk t ∧ Room a ∧ stepA a is o = (takeA a t, is ++ [takeH a], true)) ∨ (∃ h f t, Moves a h f t ∧ stepA a is o = (setS a (hS h) (moveS (slAt a.sl (hS h)) t), is, true)) ∨ (∃ h, Frees a h ∧ stepA a is o = (putA a h, is, true)) ∨ stepA a is o = (a, is, false) := by
  unfold stepA
  by_cases h1 : o.k % 4 = 0 ∨ o.k % 4 = 1
  · rw [if_pos h1]
    by_cases ht : TimeOk o.n
    · by_cases hr : Room a
      · rw [allocA_ok ht hr]; exact .inl ⟨o.n, ht, hr, by simp⟩
      · rw [allocA_full ht hr]; exact .inr (.inr (.inr (by simp)))
    · rw [allocA_bad ht]; exact .inr (.inr (.inr (by simp)))
  · rw [if_neg h1]
    by_cases h2 : o.k % 4 = 2
    · rw [if_pos h2]
      by_cases hm : Moves a (pickA is o.n) (o.a % 5) (o.b % 5)
      · rw [transA, if_pos hm]; exact .inr (.inl ⟨_, _, _, hm, rfl⟩)
      · rw [transA, if_neg hm]; exact .inr (.inr (.inr rfl))
    · rw [if_neg h2]
      by_cases hf : Frees a (pickA is o.n)
      · rw [relA, if_pos hf]; exact .inr (.inr (.inl ⟨_, hf, rfl⟩))
      · rw [relA, if_neg hf]; exact .inr (.inr (.inr rfl))
theorem step_good {a : Ar} {is : List Int} (h : Good a) (o : Oz) : Good (stepA a is o).1 := by
  rcases step_cases a is o with ⟨t, ht, hr, e⟩ | ⟨x, f, t, hm, e⟩ | ⟨x, hf, e⟩ | e <;> rw [e]
  · exact h.take ht hr
  · exact h.move hm
  · exact h.put hf
  · exact h
theorem step_nx {a : Ar} {is : List Int} (o : Oz) : (stepA a is o).1.nx ≤ a.nx + 1 := by
  rcases step_cases a is o with ⟨t, ht, hr, e⟩ | ⟨x, f, t, hm, e⟩ | ⟨x, hf, e⟩ | e <;> rw [e] <;> simp only [takeA, setS, putA] <;> omega
theorem step_len {a : Ar} {is : List Int} (o : Oz) : (stepA a is o).1.sl.length = a.sl.length := by
  rcases step_cases a is o with ⟨t, ht, hr, e⟩ | ⟨x, f, t, hm, e⟩ | ⟨x, hf, e⟩ | e <;> rw [e] <;> simp [takeA, setS, putA]
theorem step_iss_len {a : Ar} {is : List Int} (o : Oz) : (stepA a is o).2.1.length ≤ is.length + 1 := by
  rcases step_cases a is o with ⟨t, ht, hr, e⟩ | ⟨x, f, t, hm, e⟩ | ⟨x, hf, e⟩ | e <;> rw [e] <;> simp

/-- Issued handles: none is of a generation that its slot has yet to reach, and a free slot's generation has been issued to nobody. -/
def Iss (a : Ar) (is : List Int) : Prop := ∀ h ∈ is, Hnd h ∧ hS h < a.sl.length ∧ h / 64 ≤ (slAt a.sl (hS h)).g ∧ ((slAt a.sl (hS h)).s = 0 → h / 64 < (slAt a.sl (hS h)).g)
/-- A released handle: its slot has passed its generation. -/
def Dead (a : Ar) (h : Int) : Prop := Hnd h ∧ hS h < a.sl.length ∧ h / 64 < (slAt a.sl (hS h)).g
theorem Dead.refers {a : Ar} {h : Int} (d : Dead a h) : ¬ Refers a h := fun r => by have := d.2.2; have := r.2.2.1; omega
theorem takeH_hnd {a : Ar} (hg : Good a) (hr : Room a) : Hnd (takeH a) ∧ hS (takeH a) = lastI a ∧ takeH a / 64 = (slAt a.sl (lastI a)).g := by
  obtain ⟨hi, h0, _⟩ := hg.last hr.1
  have h1 := (hg.ok _ hi).1
  have h2 := hg.len1
  refine ⟨⟨?_, ?_⟩, ?_, ?_⟩
  · unfold takeH; omega
  · unfold takeH; omega
  · unfold hS takeH; omega
  · unfold takeH; omega
/-- What a step does to one slot: its generation doesn't fall; if it stays, the slot stays live where it was, unless it has just been taken. -/
theorem step_iss {a : Ar} {is : List Int} (hg : Good a) (hi : Iss a is) (o : Oz) : Iss (stepA a is o).1 (stepA a is o).2.1 := by
  rcases step_cases a is o with ⟨t, ht, hr, e⟩ | ⟨x, f, t, hm, e⟩ | ⟨x, hf, e⟩ | e <;> rw [e]
  · obtain ⟨hl, h0, _⟩ := hg.last hr.1
    intro h hh
    have key : ∀ h', Hnd h' ∧ hS h' < a.sl.length ∧ h' / 64 ≤ (slAt a.sl (hS h')).g ∧ ((slAt a.sl (hS h')).s = 0 → hS h' ≠ lastI a → h' / 64 < (slAt a.sl (hS h')).g) → Hnd h' ∧ hS h' < (takeA a t).sl.length ∧ h' / 64 ≤ (slAt (takeA a t).sl (hS h')).g ∧ ((slAt (takeA a t).sl (hS h')).s = 0 → h' / 64 < (slAt (takeA a t).sl (hS h')).g) := by
      rintro h' ⟨k1, k2, k3, k4⟩
      simp only [takeA, List.length_set]
      rw [slAt_set hl]
      by_cases hk : hS h' = lastI a
      · rw [if_pos hk]
        exact ⟨k1, k2, by rw [hk] at k3; exact k3, by simp⟩
      · rw [if_neg hk]
        exact ⟨k1, k2, k3, fun e => k4 e hk⟩
    rcases List.mem_append.1 hh with hh | hh
    · obtain ⟨k1, k2, k3, k4⟩ := hi h hh
      exact key h ⟨k1, k2, k3, fun e _ => k4 e⟩
    · obtain rfl : h = takeH a := by simpa using hh
      obtain ⟨t1, t2, t3⟩ := takeH_hnd hg hr
      exact key _ ⟨t1, by rw [t2]; exact hl, by rw [t2, t3]; exact Int.le_refl _, fun _ hk => absurd t2 hk⟩
  · intro h hh
    obtain ⟨k1, k2, k3, k4⟩ := hi h hh
    simp only [setS, List.length_set]
    rw [slAt_set hm.1.2.1]
    by_cases hk : hS h = hS x
    · rw [if_pos hk, ← hk]
      exact ⟨k1, k2, k3, fun e => by have := hm.2.2.1; simp only [moveS] at e; omega⟩
    · rw [if_neg hk]; exact ⟨k1, k2, k3, k4⟩
  · intro h hh
    obtain ⟨k1, k2, k3, k4⟩ := hi h hh
    simp only [putA, List.length_set]
    rw [slAt_set hf.1.2.1]
    by_cases hk : hS h = hS x
    · rw [if_pos hk, ← hk]
      exact ⟨k1, k2, by simp only [freeS]; omega, fun _ => by simp only [freeS]; omega⟩
    · rw [if_neg hk]; exact ⟨k1, k2, k3, k4⟩
  · exact hi
theorem step_dead {a : Ar} {is : List Int} (hg : Good a) {h : Int} (hd : Dead a h) (o : Oz) : Dead (stepA a is o).1 h := by
  obtain ⟨k1, k2, k3⟩ := hd
  rcases step_cases a is o with ⟨t, ht, hr, e⟩ | ⟨x, f, t, hm, e⟩ | ⟨x, hf, e⟩ | e <;> rw [e]
  · obtain ⟨hl, h0, _⟩ := hg.last hr.1
    refine ⟨k1, by simpa [takeA] using k2, ?_⟩
    simp only [takeA]
    rw [slAt_set hl]
    by_cases hk : hS h = lastI a
    · rw [if_pos hk]; rw [hk] at k3; exact k3
    · rw [if_neg hk]; exact k3
  · refine ⟨k1, by simpa [setS] using k2, ?_⟩
    simp only [setS]
    rw [slAt_set hm.1.2.1]
    by_cases hk : hS h = hS x
    · rw [if_pos hk, ← hk]; exact k3
    · rw [if_neg hk]; exact k3
  · refine ⟨k1, by simpa [putA] using k2, ?_⟩
    simp only [putA]
    rw [slAt_set hf.1.2.1]
    by_cases hk : hS h = hS x
    · rw [if_pos hk, ← hk]; simp only [freeS]; omega
    · rw [if_neg hk]; exact k3
  · exact ⟨k1, k2, k3⟩
theorem put_dead {a : Ar} {h : Int} (hf : Frees a h) : Dead (putA a h) h := by
  obtain ⟨⟨h1, h2, h3, h4⟩, h5⟩ := hf
  refine ⟨h1, by simpa [putA] using h2, ?_⟩
  simp only [putA]
  rw [slAt_set h2, if_pos rfl]
  simp only [freeS]; omega
theorem put_iss {a : Ar} {is : List Int} (hi : Iss a is) {h : Int} (hf : Frees a h) : Iss (putA a h) is := by
  intro h' hh
  obtain ⟨k1, k2, k3, k4⟩ := hi h' hh
  simp only [putA, List.length_set]
  rw [slAt_set hf.1.2.1]
  by_cases hk : hS h' = hS h
  · rw [if_pos hk, ← hk]
    exact ⟨k1, k2, by simp only [freeS]; omega, fun _ => by simp only [freeS]; omega⟩
  · rw [if_neg hk]; exact ⟨k1, k2, k3, k4⟩
/-- A new handle was not issued before. -/
theorem take_fresh {a : Ar} {is : List Int} (hg : Good a) (hi : Iss a is) (hr : Room a) : takeH a ∉ is := fun hm => by
  obtain ⟨hl, h0, _⟩ := hg.last hr.1
  obtain ⟨t1, t2, t3⟩ := takeH_hnd hg hr
  obtain ⟨_, _, _, k4⟩ := hi _ hm
  have := k4 (by rw [t2]; exact h0)
  rw [t2] at this
  omega
/-- What a script reaches: valid, its handles issued, as many sequence numbers as steps at most. -/
structure Reach (n : Nat) (k : Nat) (a : Ar) (is : List Int) : Prop where
  good : Good a
  iss : Iss a is
  nx : a.nx ≤ k
  len : a.sl.length = n
  isl : is.length ≤ k
theorem reach_new {n : Nat} (h1 : 1 ≤ n) (h2 : n ≤ 64) : Reach n 0 (newA n) [] := ⟨newA_good h1 h2, by intro h hh; simp at hh, by simp [newA], by simp [newA], by simp⟩
theorem Reach.step {n k : Nat} {a : Ar} {is : List Int} (h : Reach n k a is) (o : Oz) : Reach n (k + 1) (stepA a is o).1 (stepA a is o).2.1 :=
  ⟨step_good h.good o, step_iss h.good h.iss o, by have := step_nx (a := a) (is := is) o; have := h.nx; omega, by rw [step_len]; exact h.len, by have := step_iss_len (a := a) (is := is) o; have := h.isl; omega⟩
theorem reach_run {n : Nat} (h1 : 1 ≤ n) (h2 : n ≤ 64) (os : List Oz) : ∀ k, k ≤ os.length → Reach n k (runA (newA n, []) (os.take k)).1 (runA (newA n, []) (os.take k)).2
  | 0, _ => by rw [List.take_zero]; exact reach_new h1 h2
  | k + 1, h => by rw [runA_take_succ _ _ _ (by omega)]; exact (reach_run h1 h2 os k (by omega)).step _
end Go.Proofs.Ythpofcomlidoiaa
