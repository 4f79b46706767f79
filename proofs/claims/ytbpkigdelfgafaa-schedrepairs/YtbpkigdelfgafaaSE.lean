/- Contracts: the tally of package sched. -/
import Derived.Test.YtbpkigdelfgafaaSD
import Derived.IntWalk
namespace Go.Proofs.Ytbpkigdelfgafaa
open Go.RowKit

/-- A tally: the counts and the number of threads present, whatever they are. -/
structure Tl where
  cs : List Int
  pr : Int
def Tl.add (s : Tl) (x : Nat) : Tl := ⟨s.cs.set x (wrap64 (s.cs.getD x 0 + 1)), if wrap64 (s.cs.getD x 0 + 1) = 1 then wrap64 (s.pr + 1) else s.pr⟩
def Tl.rem (s : Tl) (x : Nat) : Tl := ⟨s.cs.set x (wrap64 (s.cs.getD x 0 - 1)), if wrap64 (s.cs.getD x 0 - 1) = 0 then wrap64 (s.pr - 1) else s.pr⟩
theorem Tl.add_len (s : Tl) (x : Nat) : (s.add x).cs.length = s.cs.length := by simp [Tl.add]
theorem Tl.rem_len (s : Tl) (x : Nat) : (s.rem x).cs.length = s.cs.length := by simp [Tl.rem]
def Tally (p bc n : Nat) (s : Tl) (w : World) : Prop :=
  s.cs.length = n ∧ w.heap[p]? = some (.cells #[.slice (some ⟨bc, 0, none⟩) n n, .int .i64 s.pr] 49 (0, 0)) ∧ w.heap[bc]? = some (.cells (icells s.cs) 3 (0, 0))
theorem Tally.keep {S : List Nat} {p bc n : Nat} {s : Tl} {w w' : World} (h : Tally p bc n s w) (hu : Upd S w w') (hp : p ∉ S) (hb : bc ∉ S) : Tally p bc n s w' := ⟨h.1, hu.at h.2.1 hp, hu.at h.2.2 hb⟩
theorem Tally.stay {p bc n : Nat} {s : Tl} {w w' : World} (h : Tally p bc n s w) (hu : Upd [] w w') : Tally p bc n s w' := h.keep hu (by simp) (by simp)

theorem Tally.setPr {p bc n : Nat} {s : Tl} {w : World} (h : Tally p bc n s w) (x : Int) : Tally p bc n ⟨s.cs, x⟩ (w.setCell ⟨p, 1, none⟩ (.int .i64 x)) := by
  obtain ⟨hl, hp, hb⟩ := h
  refine ⟨hl, ?_, ?_⟩
  · rw [setCell_block hp]; rfl
  · rw [Below.heap_setCell _ _ _ _ (ne_block hb hp (by decide))]; exact hb

set_option maxHeartbeats 400000 in
theorem newTally_any (n : Nat) (hn : n ≤ 64) (w : World) :
    Calls Try.prog 25 #[.int .i64 n] w fun e w' => ∃ p bc, e = .returned (.pointer (some ⟨p, 0, none⟩)) ∧ Tally p bc n ⟨List.replicate n 0, 0⟩ w' ∧ w.heap.size ≤ p ∧ w.heap.size ≤ bc ∧ Upd [] w w' := by
  have hmk := mkAny 26 3 (.int .i64 0) 1 8 Try.underlying26 infoInt n (by omega) (by omega) (icells (List.replicate n (0 : Int))) (madeInts n)
  generalize hZ : icells (List.replicate n (0 : Int)) = Z at *
  have HZ := Lib.hid hZ; clear hZ
  go_enter Try.func25, Try.ntmps25
  go_wp2
  go_ret
  refine ⟨_, w.heap.size, rfl, ⟨by simp, heap_alloc2 _ _ _, ?_⟩, by omega, by omega, ((Upd.refl [] w).alloc _).alloc _⟩
  rw [((Upd.refl [] _).alloc _).at (heap_alloc1 w _) (by simp), ← HZ.out]

set_option maxRecDepth 100000 in
set_option maxHeartbeats 1000000 in
theorem add_any (p bc n x : Nat) (s : Tl) (hx : x < n) (_hn : n ≤ 64) (w : World) (h : Tally p bc n s w) :
    Calls Try.prog 26 #[.pointer (some ⟨p, 0, none⟩), .int .i64 x] w fun e w' => e = .returned (.tuple #[]) ∧ Tally p bc n (s.add x) w' ∧ Upd [p, bc] w w' := by
  obtain ⟨hl, hp, hb⟩ := h
  have lp := lt_block hp
  have c0 := cell_block hp 0
  have c1 := cell_block hp 1
  have f1 := free_block hp 1
  simp only [List.getElem?_toArray, List.getElem?_cons_zero, List.getElem?_cons_succ] at c0 c1
  have hne : p ≠ bc := ne_block hp hb (by decide)
  have cb := cell_block hb x
  rw [icells_get _ x (by omega)] at cb
  have fb := free_block hb x
  have hg : s.cs.getD x 0 = s.cs[x] := by simp [show x < s.cs.length by omega]
  have hadd : s.add x = ⟨s.cs.set x (wrap64 (s.cs[x] + 1)), if wrap64 (s.cs[x] + 1) = 1 then wrap64 (s.pr + 1) else s.pr⟩ := by rw [Tl.add, hg]
  have HP := Lib.hid hp; have HB := Lib.hid hb; have HA := Lib.hid hadd; have HL := Lib.hid hl
  generalize s.cs[x] = c at *
  clear hp hb hg hadd hl
  have HT : Hid (∀ c', Tally p bc n ⟨s.cs.set x c', s.pr⟩ (w.setCell ⟨bc, x, none⟩ (.int .i64 c'))) := fun c' =>
    ⟨by simpa using HL.out, by rw [Below.heap_setCell _ _ _ _ hne]; exact HP.out, by rw [setCell_block HB.out, icells_set]⟩
  by_cases h1 : wrap64 (c + 1) = 1
  · have hd : (wrap64 (c + 1) == 1) = true := by simpa using h1
    have H1 := Lib.hid h1; clear h1
    go_enter Try.func26, Try.ntmps26
    go_wp2_with fail
    refine (isThread_yes x n hx _).mono ?_
    rintro e w' ⟨rfl, rfl⟩
    go_wp2_with fail
    go_end0
    refine ⟨rfl, ?_, ((Upd.refl _ _).setCell (by simp) _).setCell (by simp) _⟩
    rw [HA.out, if_pos H1.out]
    have := (HT.out (wrap64 (c + 1))).setPr (wrap64 (s.pr + 1))
    exact this
  · have hd : (wrap64 (c + 1) == 1) = false := by simpa using h1
    have H1 := Lib.hid h1; clear h1
    go_enter Try.func26, Try.ntmps26
    go_wp2_with fail
    refine (isThread_yes x n hx _).mono ?_
    rintro e w' ⟨rfl, rfl⟩
    go_wp2_with fail
    go_end0
    refine ⟨rfl, ?_, (Upd.refl _ _).setCell (by simp) _⟩
    rw [HA.out, if_neg H1.out]
    exact HT.out (wrap64 (c + 1))

set_option maxRecDepth 100000 in
set_option maxHeartbeats 1000000 in
theorem rem_any (p bc n x : Nat) (s : Tl) (hx : x < n) (_hn : n ≤ 64) (w : World) (h : Tally p bc n s w) :
    Calls Try.prog 28 #[.pointer (some ⟨p, 0, none⟩), .int .i64 x] w fun e w' => e = .returned (.tuple #[]) ∧ Tally p bc n (s.rem x) w' ∧ Upd [p, bc] w w' := by
  obtain ⟨hl, hp, hb⟩ := h
  have lp := lt_block hp
  have c0 := cell_block hp 0
  have c1 := cell_block hp 1
  have f1 := free_block hp 1
  simp only [List.getElem?_toArray, List.getElem?_cons_zero, List.getElem?_cons_succ] at c0 c1
  have hne : p ≠ bc := ne_block hp hb (by decide)
  have cb := cell_block hb x
  rw [icells_get _ x (by omega)] at cb
  have fb := free_block hb x
  have hg : s.cs.getD x 0 = s.cs[x] := by simp [show x < s.cs.length by omega]
  have hadd : s.rem x = ⟨s.cs.set x (wrap64 (s.cs[x] - 1)), if wrap64 (s.cs[x] - 1) = 0 then wrap64 (s.pr - 1) else s.pr⟩ := by rw [Tl.rem, hg]
  have HP := Lib.hid hp; have HB := Lib.hid hb; have HA := Lib.hid hadd; have HL := Lib.hid hl
  generalize s.cs[x] = c at *
  clear hp hb hg hadd hl
  have HT : Hid (∀ c', Tally p bc n ⟨s.cs.set x c', s.pr⟩ (w.setCell ⟨bc, x, none⟩ (.int .i64 c'))) := fun c' =>
    ⟨by simpa using HL.out, by rw [Below.heap_setCell _ _ _ _ hne]; exact HP.out, by rw [setCell_block HB.out, icells_set]⟩
  by_cases h1 : wrap64 (c - 1) = 0
  · have hd : (wrap64 (c - 1) == 0) = true := by simpa using h1
    have H1 := Lib.hid h1; clear h1
    go_enter Try.func28, Try.ntmps28
    go_wp2_with fail
    refine (isThread_yes x n hx _).mono ?_
    rintro e w' ⟨rfl, rfl⟩
    go_wp2_with fail
    go_end0
    refine ⟨rfl, ?_, ((Upd.refl _ _).setCell (by simp) _).setCell (by simp) _⟩
    rw [HA.out, if_pos H1.out]
    have := (HT.out (wrap64 (c - 1))).setPr (wrap64 (s.pr - 1))
    exact this
  · have hd : (wrap64 (c - 1) == 0) = false := by simpa using h1
    have H1 := Lib.hid h1; clear h1
    go_enter Try.func28, Try.ntmps28
    go_wp2_with fail
    refine (isThread_yes x n hx _).mono ?_
    rintro e w' ⟨rfl, rfl⟩
    go_wp2_with fail
    go_end0
    refine ⟨rfl, ?_, (Upd.refl _ _).setCell (by simp) _⟩
    rw [HA.out, if_neg H1.out]
    exact HT.out (wrap64 (c - 1))

/-- The tally of the picks m. -/
def Tl.of (n : Nat) (m : List Int) : Tl := ⟨(List.range n).map fun t : Nat => (m.count (t : Int) : Int), ((List.range n).countP (fun t : Nat => decide ((t : Int) ∈ m)) : Nat)⟩
theorem Tl.of_len (n : Nat) (m : List Int) : (Tl.of n m).cs.length = n := by simp [Tl.of]
theorem Tl.of_get (n : Nat) (m : List Int) (x : Nat) (hx : x < n) : (Tl.of n m).cs.getD x 0 = (m.count (x : Int) : Int) := by simp [Tl.of, hx]
theorem Tl.of_pr (n : Nat) (m : List Int) : (Tl.of n m).pr = ((List.range n).countP (fun t : Nat => decide ((t : Int) ∈ m)) : Nat) := rfl
theorem Tl.of_nil (n : Nat) : Tl.of n [] = ⟨List.replicate n 0, 0⟩ := by
  simp only [Tl.of, Tl.mk.injEq]
  constructor
  · apply List.ext_getElem
    · simp
    · intro i h1 h2; simp
  · rw [List.countP_eq_zero.2 (by simp)]; rfl
theorem countP_one (P : Nat → Bool) (n q : Nat) (hq : q < n) (hP : P q = true) : (List.range n).countP P = (List.range n).countP (fun t => P t && !(t == q)) + 1 := by
  induction n with
  | zero => omega
  | succ n ih =>
    rw [List.range_succ, List.countP_append, List.countP_append]
    by_cases e : q = n
    · subst e
      have h1 : (List.range q).countP (fun t => P t && !(t == q)) = (List.range q).countP P := List.countP_congr (by intro x hx; simp at hx; simp; omega)
      rw [h1]
      simp [hP]
    · have := ih (by omega)
      have e2 : (n == q) = false := by simp; omega
      simp only [List.countP_cons, List.countP_nil, e2, Bool.not_false, Bool.and_true]
      omega
theorem Tl.of_cons_cs (n : Nat) (m : List Int) (x : Nat) (_hx : x < n) : (Tl.of n ((x : Int) :: m)).cs = (Tl.of n m).cs.set x (m.count (x : Int) + 1) := by
  apply List.ext_getElem
  · simp [Tl.of]
  · intro i h1 h2
    rw [List.getElem_set]
    simp only [Tl.of, List.getElem_map, List.getElem_range, List.count_cons]
    by_cases e : x = i
    · subst e; simp
    · rw [if_neg e, if_neg (by simp; omega)]; rfl
theorem Tl.of_cons_pr (n : Nat) (m : List Int) (x : Nat) (hx : x < n) : (Tl.of n ((x : Int) :: m)).pr = if m.count (x : Int) = 0 then (Tl.of n m).pr + 1 else (Tl.of n m).pr := by
  rw [Tl.of_pr, Tl.of_pr]
  by_cases h : m.count (x : Int) = 0
  · rw [if_pos h]
    have hm : (x : Int) ∉ m := List.count_eq_zero.1 h
    rw [countP_one (fun t : Nat => decide ((t : Int) ∈ (x : Int) :: m)) n x hx (by simp)]
    have : (List.range n).countP (fun t : Nat => decide ((t : Int) ∈ (x : Int) :: m) && !(t == x)) = (List.range n).countP (fun t : Nat => decide ((t : Int) ∈ m)) := by
      apply List.countP_congr
      intro t _
      by_cases e : t = x
      · subst e; simp [hm]
      · simp [e]; omega
    rw [this]
    omega
  · rw [if_neg h]
    have hm : (x : Int) ∈ m := List.count_pos_iff.1 (by omega)
    congr 1
    apply List.countP_congr
    intro t _
    by_cases e : t = x
    · subst e; simp [hm]
    · simp only [List.mem_cons, decide_eq_true_eq]
      constructor
      · rintro (h | h)
        · omega
        · exact h
      · exact .inr
theorem w64 (x : Int) (h : -1 ≤ x ∧ x ≤ 1000000) : wrap64 x = x := IntWalk.wrap64_in x (by omega)
theorem Tl.of_comm (n : Nat) (m : List Int) (x : Int) : Tl.of n (m ++ [x]) = Tl.of n (x :: m) := by
  simp only [Tl.of, Tl.mk.injEq]
  constructor
  · apply List.map_congr_left
    intro t _
    simp [List.count_append, List.count_cons]
  · congr 1
    apply List.countP_congr
    intro t _
    simp [or_comm]
theorem pr_bd (n : Nat) (m : List Int) : 0 ≤ (Tl.of n m).pr ∧ (Tl.of n m).pr ≤ n := by
  rw [Tl.of_pr]
  have := List.countP_le_length (p := fun t : Nat => decide ((t : Int) ∈ m)) (l := List.range n)
  simp at this
  omega
theorem Tl.of_add (n : Nat) (m : List Int) (x : Nat) (hx : x < n) (hn : n ≤ 64) (hm : m.length ≤ 100000) : (Tl.of n m).add x = Tl.of n (m ++ [(x : Int)]) := by
  have hc : m.count (x : Int) ≤ m.length := List.count_le_length
  have hp := pr_bd n m
  rw [Tl.of_comm]
  have h1 := Tl.of_cons_cs n m x hx
  have h2 := Tl.of_cons_pr n m x hx
  unfold Tl.add
  rw [Tl.of_get n m x hx, w64 _ (by omega), w64 _ (by omega)]
  cases hT : Tl.of n ((x : Int) :: m) with
  | mk a b =>
    rw [hT] at h1 h2
    simp only at h1 h2
    subst h1 h2
    congr 1
    by_cases h : m.count (x : Int) = 0
    · rw [if_pos h, if_pos (by omega)]
    · rw [if_neg h, if_neg (by omega)]
theorem Tl.of_rem (n : Nat) (m : List Int) (x : Nat) (hx : x < n) (hn : n ≤ 64) (hm : m.length ≤ 100000) : (Tl.of n ((x : Int) :: m)).rem x = Tl.of n m := by
  have hc : m.count (x : Int) ≤ m.length := List.count_le_length
  have hp := pr_bd n m
  have h1 := Tl.of_cons_cs n m x hx
  have h2 := Tl.of_cons_pr n m x hx
  have hg : (Tl.of n ((x : Int) :: m)).cs.getD x 0 = (m.count (x : Int) : Int) + 1 := by rw [Tl.of_get _ _ _ hx]; simp
  have hp2 := pr_bd n ((x : Int) :: m)
  unfold Tl.rem
  rw [hg, w64 _ (by omega), w64 _ (by omega), h1, h2]
  have hget : (Tl.of n m).cs[x]'(by rw [Tl.of_len]; exact hx) = (m.count (x : Int) : Int) := by simp [Tl.of]
  cases hT : Tl.of n m with
  | mk a b =>
    simp only [hT] at hget
    congr 1
    · simp only [List.set_set]
      rw [show (m.count (x : Int) : Int) + 1 - 1 = m.count (x : Int) by omega, ← hget, List.set_getElem_self]
    · by_cases h : m.count (x : Int) = 0
      · rw [if_pos (by omega), if_pos h]; show b + 1 - 1 = b; omega
      · rw [if_neg (by omega), if_neg h]
theorem pr_full (n : Nat) (m : List Int) : (Tl.of n m).pr < n ↔ ¬ ∀ t : Nat, t < n → (t : Int) ∈ m := by
  rw [Tl.of_pr]
  have hle := List.countP_le_length (p := fun t : Nat => decide ((t : Int) ∈ m)) (l := List.range n)
  have heq := List.countP_eq_length (p := fun t : Nat => decide ((t : Int) ∈ m)) (l := List.range n)
  simp only [List.length_range, List.mem_range, decide_eq_true_eq] at hle heq
  rw [← heq]
  omega
end Go.Proofs.Ytbpkigdelfgafaa
