
/- General facts on worlds: boxes, cells, what grows, what is kept. Nothing of the program's types. -/
import Derived.Test.YtpneljhplbkdkaaF
import Derived.WalkSpells
import Derived.WalkLawsBesides
import Derived.BigQuiet
import Derived.Deep.QuietTactic
import Derived.Deep.LoopGhost
import Derived.Deep.RegionLaw
import Derived.Deep.RegionWith
import Derived.Deep.RegionHeld3
import Derived.Deep.Light
import Derived.Deep.DeepCutAuto
import Derived.OwnWalk
import Derived.Lib.Hide
import Derived.Lib.Walk
import Derived.Lib.SliceRun
import Derived.Laws.AppendOwnNone
import Derived.Shelf.SlSortCmp.QuietGrown
namespace Go.Proofs.Ytpneljhplbkdkaa
open Go.RowKit Go.Lib Go.Sort

theorem ret_int {k : IntKind} {a b : Int} (h : a = b) : Ending.returned (.int k a) = .returned (.int k b) := by rw [h]
theorem ret_bool {a b : Bool} (h : a = b) : Ending.returned (.bool a) = .returned (.bool b) := by rw [h]
theorem Upd.thn {a b c : World} (h : Upd [] a b) (k : Upd [] b c) : Upd [] a c := h.trans k (by simp)
theorem Upd.cell {S : List Nat} {a b : World} (h : Upd S a b) {p : Addr} {v : Value} (hc : a.cell? p = some v) (hp : p.block ∉ S) : b.cell? p = some v :=
  (World.cell?_of_block (h.block p.block (World.block_lt_of_cell? a p hc) hp)).trans hc
theorem mkAny (t e : TypeId) (z : Value) (size bytes : Nat) (ht : Try.prog.underlying t = some (.slice e)) (hi : (Try.prog.info? e).map (fun i => (i.zero, i.size, i.bytes)) = some (some z, size, bytes)) (n : Nat) (hb : bytes * n ≤ 281474976710656) (hn : n ≤ 100000000) (Z : Array Value) (hZ : madeCells z.cells (n * size) = Z) (w : World) :
    (Instr.makeSlice t (.int .i64 (n : Int)) (.int .i64 (n : Int))).run Try.prog w = .ok (.slice (some ⟨w.heap.size, 0, none⟩) n n) (w.alloc (.cells Z e)) := by
  obtain ⟨i, h1, h2, h3, h4⟩ := info_parts hi
  have hb' : (i.bytes : Int) * (n : Int) ≤ 281474976710656 := by
    rw [h4]
    have h : ((bytes * n : Nat) : Int) ≤ 281474976710656 := by omega
    rwa [Int.natCast_mul] at h
  have := run_make (P := Try.prog) w t e i z ht h1 h2 .i64 .i64 n n (by omega) (Int.le_refl _) hb' (by omega)
  rw [h3, Int.toNat_natCast, hZ] at this
  exact this
theorem heap_alloc_at {w : World} {n : Nat} (A : Obj) (h : n = w.heap.size) : (w.alloc A).heap[n]? = some A := by subst h; exact heap_alloc1 w A
theorem box_at (w : World) {O o' : Obj} (h : o' = O) : (w.alloc O).heap[w.heap.size]? = some o' := by rw [h]; exact heap_alloc1 w O
theorem app_upd {w wr w1 : World} {v : Value} {e : TypeId} {s n : Nat} {xs : List Value} {O : Obj} (hU : Upd [] w wr) (hr : wr.ownsRow w.heap.size e s v n xs) (hg : (wr.alloc O).grownBy w1 v.ownBlock) : Upd [] w w1 :=
  (hU.alloc O).grown hg (fun k hk hl => by have := (hr.lt k hk).1; omega)
theorem grownBy_refl (w : World) (row : Option Nat) : w.grownBy w row := ⟨rfl, rfl, rfl, Nat.le_refl _, fun _ _ _ => rfl⟩

/-- Draws, and blocks laid behind: nothing old turned. -/
def Grown (w w' : World) : Prop := ∃ q os, w' = grow (w.drewN q) os
theorem Grown.refl (w : World) : Grown w w := ⟨0, #[], by rw [grow_empty]; rfl⟩
theorem Grown.trans {a b c : World} (h : Grown a b) (k : Grown b c) : Grown a c := by
  obtain ⟨q, os, rfl⟩ := h
  obtain ⟨r, os', rfl⟩ := k
  exact ⟨q + r, os ++ os', by show grow (grow ((a.drewN q).drewN r) os) os' = _; rw [grow_grow, World.drewN_drewN]⟩
theorem Grown.alloc {a b : World} (h : Grown a b) (o : Obj) : Grown a (b.alloc o) := h.trans ⟨0, #[o], by rw [alloc_eq_grow]; rfl⟩
theorem Grown.drew {a b : World} (h : Grown a b) : Grown a b.drew := h.trans ⟨1, #[], by rw [grow_empty]; rfl⟩
theorem Grown.drewN {a b : World} (h : Grown a b) (n : Nat) : Grown a (b.drewN n) := h.trans ⟨n, #[], by rw [grow_empty]⟩
theorem upd_grow (w : World) (os : Array Obj) : Upd [] w (grow w os) := ⟨rfl, rfl, rfl, by simp, fun k hk _ => by
  show (w.heap ++ os)[k]? = w.heap[k]?
  rw [Array.getElem?_append_left hk]⟩
theorem Grown.upd {a b : World} (h : Grown a b) : Upd [] a b := by
  obtain ⟨q, os, rfl⟩ := h
  exact ((Upd.refl [] a).drewN q).trans (upd_grow _ os) (by simp)

theorem mixed : Try.prog.follows .mixedOrders = true := by kernel_rfl
/-- A world in which nothing of w has turned. -/
structure Kept (w : World) where
  x : World
  up : Upd [] w x
instance (w : World) : Inhabited (Kept w) := ⟨⟨w, Upd.refl [] w⟩⟩
theorem wp_region_quiet_kept {P : Program} {id : Nat} {Q : Exit → Act → World → Prop} {a : Act} {w : World} {l : List Oper} (hm : P.follows .mixedOrders = true) (hB : Region.lexB .any l.toArray = true)
    (h : wpQuiet P l.toArray (fun w' => ∃ p : Kept w, w' = p.x) (fun a' => ∀ w', (∃ p : Kept w, w' = p.x) → Q .normal a' w') l a) : (Code.region id l.toArray true).wp P Q a w :=
  wp_region_quiet (C := fun w' => ∃ p : Kept w, w' = p.x) hm hB ⟨⟨w.drew, (Upd.refl [] w).drew⟩, rfl⟩ (by simpa using h)
theorem kept_cell {w : World} {b o : Nat} {c : Array Value} {t : TypeId} {f : Nat × Nat} {v : Value} (h : w.heap[b]? = some (.cells c t f)) (hv : c[o]? = some v) (p : Kept w) : p.x.cell? ⟨b, o, none⟩ = some v :=
  (cell_block (p.up.at h (by simp)) o).trans hv
/-- A callee's contract, met in a world of the class. -/
theorem calls_kept {P : Program} {f : FuncId} {args : Array Value} {w : World} {p : Kept w} {v : Value}
    (h : Calls P f args p.x fun e w' => e = .returned v ∧ Upd [] p.x w') : Calls P f args p.x fun e w'' => e = .returned v ∧ ∃ q : Kept w, w'' = q.x :=
  h.mono fun _ w'' ⟨he, hu⟩ => ⟨he, ⟨⟨w'', p.up.trans hu (by simp)⟩, rfl⟩⟩
theorem kept_at {w : World} {p : Addr} {v : Value} (h : w.cell? p = some v) : ∀ q : Kept w, q.x.cell? p = some v := fun q => q.up.cell h (by simp)

theorem cells3 {w : World} {b : Nat} {x y z : Value} {t : TypeId} {f : Nat × Nat} (h : w.heap[b]? = some (.cells #[x, y, z] t f)) : w.cell? ⟨b, 0, none⟩ = some x ∧ w.cell? ⟨b, 1, none⟩ = some y ∧ w.cell? ⟨b, 2, none⟩ = some z := ⟨cell_block h 0, cell_block h 1, cell_block h 2⟩
theorem cells4 {w : World} {b : Nat} {x y z p : Value} {t : TypeId} {f : Nat × Nat} (h : w.heap[b]? = some (.cells #[x, y, z, p] t f)) : w.cell? ⟨b, 0, none⟩ = some x ∧ w.cell? ⟨b, 1, none⟩ = some y ∧ w.cell? ⟨b, 2, none⟩ = some z ∧ w.cell? ⟨b, 3, none⟩ = some p := ⟨cell_block h 0, cell_block h 1, cell_block h 2, cell_block h 3⟩
theorem free3 {w : World} {b : Nat} {c : Array Value} {t : TypeId} (h : w.heap[b]? = some (.cells c t (0, 0))) : w.frozen? ⟨b, 0, none⟩ = false ∧ w.frozen? ⟨b, 1, none⟩ = false ∧ w.frozen? ⟨b, 2, none⟩ = false := ⟨free_block h 0, free_block h 1, free_block h 2⟩
theorem free4 {w : World} {b : Nat} {c : Array Value} {t : TypeId} (h : w.heap[b]? = some (.cells c t (0, 0))) : w.frozen? ⟨b, 0, none⟩ = false ∧ w.frozen? ⟨b, 1, none⟩ = false ∧ w.frozen? ⟨b, 2, none⟩ = false ∧ w.frozen? ⟨b, 3, none⟩ = false := ⟨free_block h 0, free_block h 1, free_block h 2, free_block h 3⟩
theorem stored3 {w : World} {b : Nat} {x y z : Value} {t : TypeId} {f : Nat × Nat} (h : w.heap[b]? = some (.cells #[x, y, z] t f)) (u v s : Value) :
    (((w.setCell ⟨b, 0, none⟩ u).setCell ⟨b, 1, none⟩ v).setCell ⟨b, 2, none⟩ s).heap[b]? = some (.cells #[u, v, s] t f) := setCell_block (setCell_block (setCell_block h _) _) _
theorem stored4 {w : World} {b : Nat} {x y z p : Value} {t : TypeId} {f : Nat × Nat} (h : w.heap[b]? = some (.cells #[x, y, z, p] t f)) (u v s q : Value) :
    ((((w.setCell ⟨b, 0, none⟩ u).setCell ⟨b, 1, none⟩ v).setCell ⟨b, 2, none⟩ s).setCell ⟨b, 3, none⟩ q).heap[b]? = some (.cells #[u, v, s, q] t f) := setCell_block (setCell_block (setCell_block (setCell_block h _) _) _) _
theorem upd_set1 (w : World) (b o : Nat) (u : Value) : Upd [b] w (w.setCell ⟨b, o, none⟩ u) := (Upd.refl [b] w).setCell (p := ⟨b, o, none⟩) (fun _ => by simp) _
theorem upd_set3 (w : World) (b : Nat) (u v s : Value) : Upd [b] w (((w.setCell ⟨b, 0, none⟩ u).setCell ⟨b, 1, none⟩ v).setCell ⟨b, 2, none⟩ s) :=
  (((Upd.refl [b] w).setCell (p := ⟨b, 0, none⟩) (fun _ => by simp) _).setCell (p := ⟨b, 1, none⟩) (fun _ => by simp) _).setCell (p := ⟨b, 2, none⟩) (fun _ => by simp) _
theorem upd_set4 (w : World) (b : Nat) (u v s q : Value) : Upd [b] w ((((w.setCell ⟨b, 0, none⟩ u).setCell ⟨b, 1, none⟩ v).setCell ⟨b, 2, none⟩ s).setCell ⟨b, 3, none⟩ q) :=
  (upd_set3 w b u v s).setCell (p := ⟨b, 3, none⟩) (fun _ => by simp) _
/-- What turned only in a block that is new to a. -/
theorem Upd.new {a b c : World} {g : Nat} (h : Upd [] a b) (k : Upd [g] b c) (hg : a.heap.size ≤ g) : Upd [] a c := h.trans k (fun x hx hl => by simp at hx; omega)
theorem two_boxes (w : World) (A B : Obj) : Upd [] w ((w.alloc A).alloc B) ∧ ((w.alloc A).alloc B).heap[w.heap.size]? = some A ∧ ((w.alloc A).alloc B).heap[w.heap.size + 1]? = some B ∧ ((w.alloc A).alloc B).heap.size = w.heap.size + 2 :=
  ⟨((Upd.refl _ _).alloc _).alloc _, ((Upd.refl [] (w.alloc A)).alloc B).at (heap_alloc1 w A) (by simp), heap_alloc2 w A B, by simp⟩
theorem three_boxes (w : World) (A B C : Obj) : Upd [] w (((w.alloc A).alloc B).alloc C) ∧ (((w.alloc A).alloc B).alloc C).heap[w.heap.size]? = some A ∧ (((w.alloc A).alloc B).alloc C).heap[w.heap.size + 1]? = some B ∧ (((w.alloc A).alloc B).alloc C).heap[w.heap.size + 1 + 1]? = some C ∧ (((w.alloc A).alloc B).alloc C).heap.size = w.heap.size + 3 :=
  ⟨(((Upd.refl _ _).alloc _).alloc _).alloc _, (((Upd.refl [] (w.alloc A)).alloc B).alloc C).at (heap_alloc1 w A) (by simp), ((Upd.refl [] ((w.alloc A).alloc B)).alloc C).at (heap_alloc2 w A B) (by simp), heap_alloc3 w A B C, by simp⟩
theorem row_shape {w : World} {base size n : Nat} {e : TypeId} {v : Value} {xs : List Value} (h : w.ownsRow base e size v n xs) : ∃ va vc, v = .slice va n vc := by
  rcases h.2 with ⟨rfl, rfl⟩ | ⟨g, cap, cur, rfl, _⟩
  · exact ⟨none, 0, rfl⟩
  · exact ⟨_, _, rfl⟩
theorem row_base {w : World} {base base' size n : Nat} {e : TypeId} {v : Value} {xs : List Value} (h : w.ownsRow base e size v n xs) (hb : base' ≤ base) : w.ownsRow base' e size v n xs := by
  refine ⟨h.1, ?_⟩
  rcases h.2 with hn | ⟨g, cap, cur, rfl, hg, rest⟩
  · exact .inl hn
  · exact .inr ⟨g, cap, cur, rfl, by omega, rest⟩
theorem own_ge {w : World} {base size n : Nat} {e : TypeId} {v : Value} {xs : List Value} (h : w.ownsRow base e size v n xs) : ∀ k, v.ownBlock = some k → base ≤ k := fun k hk => (h.lt k hk).1
theorem upd_grown {w w' : World} {row : Option Nat} (h : w.grownBy w' row) : Upd row.toList w w' := (Upd.refl row.toList w).grown h (fun k hk _ => by simp [hk])
theorem drop_eq {α : Type} {xs ys : List α} {k : Nat} (h : k < xs.length) (h' : k < ys.length) : (xs.drop k = ys.drop k) = (xs[k] = ys[k] ∧ xs.drop (k + 1) = ys.drop (k + 1)) := by
  rw [List.drop_eq_getElem_cons h, List.drop_eq_getElem_cons h', List.cons.injEq]
theorem drop_dec {α : Type} [DecidableEq α] {xs ys : List α} {k : Nat} (h : k < xs.length) (h' : k < ys.length) : decide (xs.drop k = ys.drop k) = (decide (xs[k] = ys[k]) && decide (xs.drop (k + 1) = ys.drop (k + 1))) := by
  rw [← Bool.decide_and]
  have := drop_eq h h'
  exact decide_eq_decide.2 (by rw [this])
end Go.Proofs.Ytpneljhplbkdkaa
