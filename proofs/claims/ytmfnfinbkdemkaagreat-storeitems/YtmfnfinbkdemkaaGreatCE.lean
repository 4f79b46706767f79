/- Contract: the reference's with. -/
/- Contracts: the reference's Lookup and Transition. -/
import Derived.Test.YtmfnfinbkdemkaaGreatCC
namespace Go.Proofs.YtmfnfinbkdemkaaGreat.A5
open Go.RowKit Go.Lib

/-- append of slots to a row of the call's own. -/
theorem app_slots {w : World} {ops : Array Oper} {rest : List Oper} {o : Oper} {a : Act} {Q : Exit → Act → World → Prop} (hgd : o.guard = none) (s x : Operand)
    (ho : o.op = .call { callee := .builtin .append, args := #[s, x], argTypes := #[42, 42] })
    (base : Nat) (v : Value) (n : Nat) (xs : List Sl) (hs : a.eval s = v) (hown : w.ownsRow base 52 4 v n (flatS xs))
    (ad : Addr) (m c : Nat) (ys : List Sl) (hx : a.eval x = .slice (some ad) m c) (hm : ys.length = m) (hc : ∀ t u, (flatS ys)[t]? = some u → w.cell? (ad.add t) = some u) (hn : n + m ≤ 1000000) (hbase : base ≤ w.heap.size)
    (h : ∀ v' w', w'.ownsRow base 52 4 v' (n + m) (flatS (xs ++ ys)) → w.grownBy w' v.ownBlock → wpList Tryz.prog ops Q rest (a.put o.dst v') w') :
    wpList Tryz.prog ops Q (o :: rest) a w := by
  obtain ⟨i0, hi0, hz0, hz1, hz2⟩ := info_parts infoSlot
  refine wpList_append_own _ hgd s x 42 ho base 52 i0 _ 4 32 Tryz.underlying42 hi0 hz0 hz1 hz2 rfl (by decide) v n _ hs hown ad m c (flatS ys) hx (by rw [flatS_length, hm]) hc (flatS_one ys) (by simp [maxLen]; omega) (by omega) hbase ?_
  intro v' w' h1 h2 _
  exact h v' w' (by rw [flatS_append]; exact h1) h2

theorem grownBy_refl (w : World) (row : Option Nat) : w.grownBy w row := ⟨rfl, rfl, rfl, Nat.le_refl _, fun _ _ _ => rfl⟩
/-- append of a whole slice of ints to an empty row of the call's own. -/
theorem app_copy {w : World} {ops : Array Oper} {rest : List Oper} {o : Oper} {a : Act} {Q : Exit → Act → World → Prop} (hgd : o.guard = none) (s x : Operand)
    (ho : o.op = .call { callee := .builtin .append, args := #[s, x], argTypes := #[43, 43] })
    (base : Nat) (v : Value) (hs : a.eval s = v) (hown : w.ownsRow base 3 1 v 0 [])
    (ia : Option Addr) (m c : Nat) (ys : List Int) (hx : a.eval x = .slice ia m c) (hm : ys.length = m) (hc : Ints w ia ys) (hnil : ia = none → c = 0) (hn : m ≤ 1000000) (hbase : base ≤ w.heap.size)
    (h : ∀ v' w', w'.ownsRow base 3 1 v' m (ys.map (Value.int .i64)) → w.grownBy w' v.ownBlock → wpList Tryz.prog ops Q rest (a.put o.dst v') w') :
    wpList Tryz.prog ops Q (o :: rest) a w := by
  obtain ⟨i0, hi0, hz0, hz1, hz2⟩ := info_parts infoInt
  cases ia with
  | none =>
    have e := ints_none hc
    subst e
    obtain rfl := hnil rfl
    obtain rfl : m = 0 := by simpa using hm.symm
    exact wpList_append_own_none hgd s x 43 ho base 3 i0 1 Tryz.underlying43 hi0 v 0 _ hs hown hx (h v w hown (grownBy_refl _ _))
  | some ad =>
    refine wpList_append_own _ hgd s x 43 ho base 3 i0 _ 1 8 Tryz.underlying43 hi0 hz0 hz1 hz2 rfl (by decide) v 0 _ hs hown ad m c (ys.map (Value.int .i64)) hx (by simp [hm]) (ints_cells hc) (by simp [Value.oneCell']) (by simp [maxLen]; omega) (by omega) hbase ?_
    intro v' w' h1 h2 _
    rw [Nat.zero_add, List.nil_append] at h1
    exact h v' w' h1 h2
/-- The block g holds the slots l in its first cells. -/
structure HeldS (w : World) (g cap : Nat) (l : List Sl) : Prop where
  ex : ∃ cur, w.heap[g]? = some (.cells cur 52 (0, 0)) ∧ cur.size = cap * 4 ∧ cur.toList.take (l.length * 4) = flatS l
  le : l.length ≤ cap
theorem heldS_row {w : World} {base n : Nat} {v : Value} {l : List Sl} (h : w.ownsRow base 52 4 v n (flatS l)) (hn : n = l.length) (h0 : 0 < n) : ∃ g cap, v = .slice (some ⟨g, 0, none⟩) n cap ∧ base ≤ g ∧ HeldS w g cap l := by
  rcases h.2 with ⟨_, h1⟩ | ⟨g, cap, cur, rfl, hb, hg, hc, _, hs, ht⟩
  · omega
  · exact ⟨g, cap, rfl, hb, ⟨cur, hg, hs, by rw [← hn]; exact ht⟩, by omega⟩
theorem HeldS.lt {w : World} {g cap : Nat} {l : List Sl} (h : HeldS w g cap l) : g < w.heap.size := by
  obtain ⟨cur, h, _⟩ := h.ex
  exact lt_block h
theorem HeldS.cell {w : World} {g cap : Nat} {l : List Sl} (h : HeldS w g cap l) (t : Nat) (u : Value) (hu : (flatS l)[t]? = some u) : w.cell? ⟨g, t, none⟩ = some u ∧ w.frozen? ⟨g, t, none⟩ = false := by
  obtain ⟨cur, hg, hs, ht⟩ := h.ex
  refine ⟨?_, free_block hg t⟩
  rw [cell_block hg]
  rw [← ht, List.getElem?_take] at hu
  split at hu
  · rw [← Array.getElem?_toList]; exact hu
  · simp at hu
theorem HeldS.keep {S : List Nat} {w w' : World} {g cap : Nat} {l : List Sl} (h : HeldS w g cap l) (hu : Upd S w w') (hg : g ∉ S) : HeldS w' g cap l := by
  obtain ⟨cur, h1, h2, h3⟩ := h.ex
  exact ⟨⟨cur, hu.at h1 hg, h2, h3⟩, h.le⟩
theorem HeldS.slots {w : World} {g cap : Nat} {l : List Sl} (h : HeldS w g cap l) : Slots w (some ⟨g, 0, none⟩) l := by
  intro j hj
  obtain ⟨f0, f1, f2, f3⟩ := flatS_at l j hj
  refine ⟨g, 0, rfl, ?_, ?_, ?_, ?_⟩
  · rw [Nat.zero_add]; exact (h.cell _ _ f0).1
  · rw [Nat.zero_add]; exact (h.cell _ _ f1).1
  · rw [Nat.zero_add]; exact (h.cell _ _ f2).1
  · rw [Nat.zero_add]; exact (h.cell _ _ f3).1
theorem HeldS.set {w : World} {g cap : Nat} {l : List Sl} (h : HeldS w g cap l) (i : Nat) (hi : i < l.length) (s : Sl) :
    HeldS ((((w.setCell ⟨g, i * 4, none⟩ (.int .i64 s.g)).setCell ⟨g, i * 4 + 1, none⟩ (.int .i64 s.s)).setCell ⟨g, i * 4 + 2, none⟩ (.int .i64 s.t)).setCell ⟨g, i * 4 + 3, none⟩ (.int .i64 s.q)) g cap (l.set i s) := by
  obtain ⟨cur, h1, h2, h3⟩ := h.ex
  refine ⟨⟨_, setCell_block (setCell_block (setCell_block (setCell_block h1 _) _) _) _, by simpa using h2, ?_⟩, by simpa using h.le⟩
  rw [flatS_set l i hi, ← h3, List.length_set]
  simp only [Array.toList_setIfInBounds, List.take_set]
theorem upd_set4 {S : List Nat} {a w : World} (h : Upd S a w) {g o : Nat} (hg : g < a.heap.size → g ∈ S) (v0 v1 v2 v3 : Value) : Upd S a ((((w.setCell ⟨g, o, none⟩ v0).setCell ⟨g, o + 1, none⟩ v1).setCell ⟨g, o + 2, none⟩ v2).setCell ⟨g, o + 3, none⟩ v3) :=
  (((h.setCell hg _).setCell hg _).setCell hg _).setCell hg _

theorem stored3 {w : World} {b : Nat} {x y z : Value} {t : TypeId} {f : Nat × Nat} (h : w.heap[b]? = some (.cells #[x, y, z] t f)) (u v s : Value) :
    (((w.setCell ⟨b, 0, none⟩ u).setCell ⟨b, 1, none⟩ v).setCell ⟨b, 2, none⟩ s).heap[b]? = some (.cells #[u, v, s] t f) := setCell_block (setCell_block (setCell_block h _) _) _
theorem upd_set3 (w : World) (b : Nat) (u v s : Value) : Upd [b] w (((w.setCell ⟨b, 0, none⟩ u).setCell ⟨b, 1, none⟩ v).setCell ⟨b, 2, none⟩ s) :=
  (((Upd.refl [b] w).setCell (p := ⟨b, 0, none⟩) (fun _ => by simp) _).setCell (p := ⟨b, 1, none⟩) (fun _ => by simp) _).setCell (p := ⟨b, 2, none⟩) (fun _ => by simp) _
theorem cells3 {w : World} {b : Nat} {x y z : Value} {t : TypeId} {f : Nat × Nat} (h : w.heap[b]? = some (.cells #[x, y, z] t f)) : w.cell? ⟨b, 0, none⟩ = some x ∧ w.cell? ⟨b, 1, none⟩ = some y ∧ w.cell? ⟨b, 2, none⟩ = some z := ⟨cell_block h 0, cell_block h 1, cell_block h 2⟩
theorem free3 {w : World} {b : Nat} {c : Array Value} {t : TypeId} (h : w.heap[b]? = some (.cells c t (0, 0))) : w.frozen? ⟨b, 0, none⟩ = false ∧ w.frozen? ⟨b, 1, none⟩ = false ∧ w.frozen? ⟨b, 2, none⟩ = false := ⟨free_block h 0, free_block h 1, free_block h 2⟩
theorem two_boxes (w : World) (A B : Obj) : Upd [] w ((w.alloc A).alloc B) ∧ ((w.alloc A).alloc B).heap[w.heap.size]? = some A ∧ ((w.alloc A).alloc B).heap[w.heap.size + 1]? = some B ∧ ((w.alloc A).alloc B).heap.size = w.heap.size + 2 :=
  ⟨((Upd.refl _ _).alloc _).alloc _, ((Upd.refl [] (w.alloc A)).alloc B).at (heap_alloc1 w A) (by simp), heap_alloc2 w A B, by simp⟩
theorem three_boxes (w : World) (A B C : Obj) : Upd [] w (((w.alloc A).alloc B).alloc C) ∧ (((w.alloc A).alloc B).alloc C).heap[w.heap.size]? = some A ∧ (((w.alloc A).alloc B).alloc C).heap[w.heap.size + 1]? = some B ∧ (((w.alloc A).alloc B).alloc C).heap[w.heap.size + 1 + 1]? = some C ∧ (((w.alloc A).alloc B).alloc C).heap.size = w.heap.size + 3 :=
  ⟨(((Upd.refl _ _).alloc _).alloc _).alloc _, (((Upd.refl [] (w.alloc A)).alloc B).alloc C).at (heap_alloc1 w A) (by simp), ((Upd.refl [] ((w.alloc A).alloc B)).alloc C).at (heap_alloc2 w A B) (by simp), heap_alloc3 w A B C, by simp⟩
end Go.Proofs.YtmfnfinbkdemkaaGreat.A5
namespace Go.Proofs.YtmfnfinbkdemkaaGreat.A5
open Go.RowKit Go.Lib

theorem stored4 {w : World} {b : Nat} {x y z p : Value} {t : TypeId} {f : Nat × Nat} (h : w.heap[b]? = some (.cells #[x, y, z, p] t f)) (u v s q : Value) :
    ((((w.setCell ⟨b, 0, none⟩ u).setCell ⟨b, 1, none⟩ v).setCell ⟨b, 2, none⟩ s).setCell ⟨b, 3, none⟩ q).heap[b]? = some (.cells #[u, v, s, q] t f) := setCell_block (setCell_block (setCell_block (setCell_block h _) _) _) _
theorem upd_sets4 (w : World) (b : Nat) (u v s q : Value) : Upd [b] w ((((w.setCell ⟨b, 0, none⟩ u).setCell ⟨b, 1, none⟩ v).setCell ⟨b, 2, none⟩ s).setCell ⟨b, 3, none⟩ q) :=
  (upd_set3 w b u v s).setCell (p := ⟨b, 3, none⟩) (fun _ => by simp) _
theorem cells4 {w : World} {b : Nat} {x y z p : Value} {t : TypeId} {f : Nat × Nat} (h : w.heap[b]? = some (.cells #[x, y, z, p] t f)) : w.cell? ⟨b, 0, none⟩ = some x ∧ w.cell? ⟨b, 1, none⟩ = some y ∧ w.cell? ⟨b, 2, none⟩ = some z ∧ w.cell? ⟨b, 3, none⟩ = some p := ⟨cell_block h 0, cell_block h 1, cell_block h 2, cell_block h 3⟩
theorem free4 {w : World} {b : Nat} {c : Array Value} {t : TypeId} (h : w.heap[b]? = some (.cells c t (0, 0))) : w.frozen? ⟨b, 0, none⟩ = false ∧ w.frozen? ⟨b, 1, none⟩ = false ∧ w.frozen? ⟨b, 2, none⟩ = false ∧ w.frozen? ⟨b, 3, none⟩ = false := ⟨free_block h 0, free_block h 1, free_block h 2, free_block h 3⟩

def GivesL (a : Ar) (h : Int) (w : World) (e : Ending) (w' : World) : Prop := e = .returned (.tuple #[aggS (lookA a h).1, .bool (lookA a h).2]) ∧ Upd [] w w'

/-- What comes back: an arena and a flag. -/
def GivesAB (r : ArR) (p : Ar × Bool) (w : World) (e : Ending) (w' : World) : Prop := ∃ r', e = .returned (.tuple #[encA r', .bool p.2]) ∧ Nxt w r p.1 w' r'
theorem Nxt.same {w w' : World} {r : ArR} (h : HasA w r) (hu : Upd [] w w') : Nxt w r r.ar w' r := ⟨rfl, h.stay hu, fun _ _ h => h, hu⟩

end Go.Proofs.YtmfnfinbkdemkaaGreat.A5
