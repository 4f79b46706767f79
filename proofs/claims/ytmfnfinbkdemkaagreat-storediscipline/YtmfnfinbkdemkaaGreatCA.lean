/- General facts on worlds: boxes, cells, what grows, what is kept. Nothing of the program's types. -/
/- Slices of ints in memory: read, made, filled, grown. Plain facts on worlds. -/
/- Contracts: the reference's handles. -/
/- Arenas in memory: a row of slots, a row of ints, a number. -/
import Derived.Test.YtmfnfinbkdemkaaGreatM
import Derived.WalkSpells
import Derived.WalkLawsBesides
import Derived.BigQuiet
import Derived.Deep.QuietTactic
import Derived.Deep.LoopGhost
import Derived.Deep.RegionLaw
import Derived.Deep.RegionWith
import Derived.Deep.RegionHeld3
import Derived.Deep.Light
import Derived.Deep.DeepCutAuto
import Derived.OwnWalk
import Derived.Lib.Hide
import Derived.Lib.Walk
import Derived.Lib.SliceRun
import Derived.Laws.AppendOwnNone
import Derived.Shelf.SlSortCmp.QuietGrown
import Derived.Test.YtmfnfinbkdemkaaGreatCP
namespace Go.Proofs.YtmfnfinbkdemkaaGreat
open Go.RowKit Go.Lib Go.Sort

theorem ret_int {k : IntKind} {a b : Int} (h : a = b) : Ending.returned (.int k a) = .returned (.int k b) := by rw [h]
theorem ret_bool {a b : Bool} (h : a = b) : Ending.returned (.bool a) = .returned (.bool b) := by rw [h]
theorem Upd.thn {a b c : World} (h : Upd [] a b) (k : Upd [] b c) : Upd [] a c := h.trans k (by simp)
theorem Upd.cell {S : List Nat} {a b : World} (h : Upd S a b) {p : Addr} {v : Value} (hc : a.cell? p = some v) (hp : p.block ∉ S) : b.cell? p = some v :=
  (World.cell?_of_block (h.block p.block (World.block_lt_of_cell? a p hc) hp)).trans hc
theorem mkAny (t e : TypeId) (z : Value) (size bytes : Nat) (ht : Tryz.prog.underlying t = some (.slice e)) (hi : (Tryz.prog.info? e).map (fun i => (i.zero, i.size, i.bytes)) = some (some z, size, bytes)) (n : Nat) (hb : bytes * n ≤ 281474976710656) (hn : n ≤ 100000000) (Z : Array Value) (hZ : madeCells z.cells (n * size) = Z) (w : World) :
    (Instr.makeSlice t (.int .i64 (n : Int)) (.int .i64 (n : Int))).run Tryz.prog w = .ok (.slice (some ⟨w.heap.size, 0, none⟩) n n) (w.alloc (.cells Z e)) := by
  obtain ⟨i, h1, h2, h3, h4⟩ := info_parts hi
  have hb' : (i.bytes : Int) * (n : Int) ≤ 281474976710656 := by
    rw [h4]
    have h : ((bytes * n : Nat) : Int) ≤ 281474976710656 := by omega
    rwa [Int.natCast_mul] at h
  have := run_make (P := Tryz.prog) w t e i z ht h1 h2 .i64 .i64 n n (by omega) (Int.le_refl _) hb' (by omega)
  rw [h3, Int.toNat_natCast, hZ] at this
  exact this
theorem heap_alloc_at {w : World} {n : Nat} (A : Obj) (h : n = w.heap.size) : (w.alloc A).heap[n]? = some A := by subst h; exact heap_alloc1 w A
theorem box_at (w : World) {O o' : Obj} (h : o' = O) : (w.alloc O).heap[w.heap.size]? = some o' := by rw [h]; exact heap_alloc1 w O
theorem app_upd {w wr w1 : World} {v : Value} {e : TypeId} {s n : Nat} {xs : List Value} {O : Obj} (hU : Upd [] w wr) (hr : wr.ownsRow w.heap.size e s v n xs) (hg : (wr.alloc O).grownBy w1 v.ownBlock) : Upd [] w w1 :=
  (hU.alloc O).grown hg (fun k hk hl => by have := (hr.lt k hk).1; omega)
theorem grownBy_refl (w : World) (row : Option Nat) : w.grownBy w row := ⟨rfl, rfl, rfl, Nat.le_refl _, fun _ _ _ => rfl⟩

/-- Draws, and blocks laid behind: nothing old turned. -/
def Grown (w w' : World) : Prop := ∃ q os, w' = grow (w.drewN q) os
theorem Grown.refl (w : World) : Grown w w := ⟨0, #[], by rw [grow_empty]; rfl⟩
theorem Grown.trans {a b c : World} (h : Grown a b) (k : Grown b c) : Grown a c := by
  obtain ⟨q, os, rfl⟩ := h
  obtain ⟨r, os', rfl⟩ := k
  exact ⟨q + r, os ++ os', by show grow (grow ((a.drewN q).drewN r) os) os' = _; rw [grow_grow, World.drewN_drewN]⟩
theorem Grown.alloc {a b : World} (h : Grown a b) (o : Obj) : Grown a (b.alloc o) := h.trans ⟨0, #[o], by rw [alloc_eq_grow]; rfl⟩
theorem Grown.drew {a b : World} (h : Grown a b) : Grown a b.drew := h.trans ⟨1, #[], by rw [grow_empty]; rfl⟩
theorem Grown.drewN {a b : World} (h : Grown a b) (n : Nat) : Grown a (b.drewN n) := h.trans ⟨n, #[], by rw [grow_empty]⟩
theorem upd_grow (w : World) (os : Array Obj) : Upd [] w (grow w os) := ⟨rfl, rfl, rfl, by simp, fun k hk _ => by
  show (w.heap ++ os)[k]? = w.heap[k]?
  rw [Array.getElem?_append_left hk]⟩
theorem Grown.upd {a b : World} (h : Grown a b) : Upd [] a b := by
  obtain ⟨q, os, rfl⟩ := h
  exact ((Upd.refl [] a).drewN q).trans (upd_grow _ os) (by simp)

theorem mixed : Tryz.prog.follows .mixedOrders = true := by kernel_rfl
/-- A world in which nothing of w has turned. -/
structure Kept (w : World) where
  x : World
  up : Upd [] w x
instance (w : World) : Inhabited (Kept w) := ⟨⟨w, Upd.refl [] w⟩⟩
theorem wp_region_quiet_kept {P : Program} {id : Nat} {Q : Exit → Act → World → Prop} {a : Act} {w : World} {l : List Oper} (hm : P.follows .mixedOrders = true) (hB : Region.lexB .any l.toArray = true)
    (h : wpQuiet P l.toArray (fun w' => ∃ p : Kept w, w' = p.x) (fun a' => ∀ w', (∃ p : Kept w, w' = p.x) → Q .normal a' w') l a) : (Code.region id l.toArray true).wp P Q a w :=
  wp_region_quiet (C := fun w' => ∃ p : Kept w, w' = p.x) hm hB ⟨⟨w.drew, (Upd.refl [] w).drew⟩, rfl⟩ (by simpa using h)
theorem kept_cell {w : World} {b o : Nat} {c : Array Value} {t : TypeId} {f : Nat × Nat} {v : Value} (h : w.heap[b]? = some (.cells c t f)) (hv : c[o]? = some v) (p : Kept w) : p.x.cell? ⟨b, o, none⟩ = some v :=
  (cell_block (p.up.at h (by simp)) o).trans hv
/-- A callee's contract, met in a world of the class. -/
theorem calls_kept {P : Program} {f : FuncId} {args : Array Value} {w : World} {p : Kept w} {v : Value}
    (h : Calls P f args p.x fun e w' => e = .returned v ∧ Upd [] p.x w') : Calls P f args p.x fun e w'' => e = .returned v ∧ ∃ q : Kept w, w'' = q.x :=
  h.mono fun _ w'' ⟨he, hu⟩ => ⟨he, ⟨⟨w'', p.up.trans hu (by simp)⟩, rfl⟩⟩
theorem kept_at {w : World} {p : Addr} {v : Value} (h : w.cell? p = some v) : ∀ q : Kept w, q.x.cell? p = some v := fun q => q.up.cell h (by simp)

theorem cells3 {w : World} {b : Nat} {x y z : Value} {t : TypeId} {f : Nat × Nat} (h : w.heap[b]? = some (.cells #[x, y, z] t f)) : w.cell? ⟨b, 0, none⟩ = some x ∧ w.cell? ⟨b, 1, none⟩ = some y ∧ w.cell? ⟨b, 2, none⟩ = some z := ⟨cell_block h 0, cell_block h 1, cell_block h 2⟩
theorem cells4 {w : World} {b : Nat} {x y z p : Value} {t : TypeId} {f : Nat × Nat} (h : w.heap[b]? = some (.cells #[x, y, z, p] t f)) : w.cell? ⟨b, 0, none⟩ = some x ∧ w.cell? ⟨b, 1, none⟩ = some y ∧ w.cell? ⟨b, 2, none⟩ = some z ∧ w.cell? ⟨b, 3, none⟩ = some p := ⟨cell_block h 0, cell_block h 1, cell_block h 2, cell_block h 3⟩
theorem free3 {w : World} {b : Nat} {c : Array Value} {t : TypeId} (h : w.heap[b]? = some (.cells c t (0, 0))) : w.frozen? ⟨b, 0, none⟩ = false ∧ w.frozen? ⟨b, 1, none⟩ = false ∧ w.frozen? ⟨b, 2, none⟩ = false := ⟨free_block h 0, free_block h 1, free_block h 2⟩
theorem free4 {w : World} {b : Nat} {c : Array Value} {t : TypeId} (h : w.heap[b]? = some (.cells c t (0, 0))) : w.frozen? ⟨b, 0, none⟩ = false ∧ w.frozen? ⟨b, 1, none⟩ = false ∧ w.frozen? ⟨b, 2, none⟩ = false ∧ w.frozen? ⟨b, 3, none⟩ = false := ⟨free_block h 0, free_block h 1, free_block h 2, free_block h 3⟩
theorem stored3 {w : World} {b : Nat} {x y z : Value} {t : TypeId} {f : Nat × Nat} (h : w.heap[b]? = some (.cells #[x, y, z] t f)) (u v s : Value) :
    (((w.setCell ⟨b, 0, none⟩ u).setCell ⟨b, 1, none⟩ v).setCell ⟨b, 2, none⟩ s).heap[b]? = some (.cells #[u, v, s] t f) := setCell_block (setCell_block (setCell_block h _) _) _
theorem stored4 {w : World} {b : Nat} {x y z p : Value} {t : TypeId} {f : Nat × Nat} (h : w.heap[b]? = some (.cells #[x, y, z, p] t f)) (u v s q : Value) :
    ((((w.setCell ⟨b, 0, none⟩ u).setCell ⟨b, 1, none⟩ v).setCell ⟨b, 2, none⟩ s).setCell ⟨b, 3, none⟩ q).heap[b]? = some (.cells #[u, v, s, q] t f) := setCell_block (setCell_block (setCell_block (setCell_block h _) _) _) _
theorem upd_set1 (w : World) (b o : Nat) (u : Value) : Upd [b] w (w.setCell ⟨b, o, none⟩ u) := (Upd.refl [b] w).setCell (p := ⟨b, o, none⟩) (fun _ => by simp) _
theorem upd_set3 (w : World) (b : Nat) (u v s : Value) : Upd [b] w (((w.setCell ⟨b, 0, none⟩ u).setCell ⟨b, 1, none⟩ v).setCell ⟨b, 2, none⟩ s) :=
  (((Upd.refl [b] w).setCell (p := ⟨b, 0, none⟩) (fun _ => by simp) _).setCell (p := ⟨b, 1, none⟩) (fun _ => by simp) _).setCell (p := ⟨b, 2, none⟩) (fun _ => by simp) _
theorem upd_set4 (w : World) (b : Nat) (u v s q : Value) : Upd [b] w ((((w.setCell ⟨b, 0, none⟩ u).setCell ⟨b, 1, none⟩ v).setCell ⟨b, 2, none⟩ s).setCell ⟨b, 3, none⟩ q) :=
  (upd_set3 w b u v s).setCell (p := ⟨b, 3, none⟩) (fun _ => by simp) _
/-- What turned only in a block that is new to a. -/
theorem Upd.new {a b c : World} {g : Nat} (h : Upd [] a b) (k : Upd [g] b c) (hg : a.heap.size ≤ g) : Upd [] a c := h.trans k (fun x hx hl => by simp at hx; omega)
theorem two_boxes (w : World) (A B : Obj) : Upd [] w ((w.alloc A).alloc B) ∧ ((w.alloc A).alloc B).heap[w.heap.size]? = some A ∧ ((w.alloc A).alloc B).heap[w.heap.size + 1]? = some B ∧ ((w.alloc A).alloc B).heap.size = w.heap.size + 2 :=
  ⟨((Upd.refl _ _).alloc _).alloc _, ((Upd.refl [] (w.alloc A)).alloc B).at (heap_alloc1 w A) (by simp), heap_alloc2 w A B, by simp⟩
theorem three_boxes (w : World) (A B C : Obj) : Upd [] w (((w.alloc A).alloc B).alloc C) ∧ (((w.alloc A).alloc B).alloc C).heap[w.heap.size]? = some A ∧ (((w.alloc A).alloc B).alloc C).heap[w.heap.size + 1]? = some B ∧ (((w.alloc A).alloc B).alloc C).heap[w.heap.size + 1 + 1]? = some C ∧ (((w.alloc A).alloc B).alloc C).heap.size = w.heap.size + 3 :=
  ⟨(((Upd.refl _ _).alloc _).alloc _).alloc _, (((Upd.refl [] (w.alloc A)).alloc B).alloc C).at (heap_alloc1 w A) (by simp), ((Upd.refl [] ((w.alloc A).alloc B)).alloc C).at (heap_alloc2 w A B) (by simp), heap_alloc3 w A B C, by simp⟩
theorem row_shape {w : World} {base size n : Nat} {e : TypeId} {v : Value} {xs : List Value} (h : w.ownsRow base e size v n xs) : ∃ va vc, v = .slice va n vc := by
  rcases h.2 with ⟨rfl, rfl⟩ | ⟨g, cap, cur, rfl, _⟩
  · exact ⟨none, 0, rfl⟩
  · exact ⟨_, _, rfl⟩
theorem row_base {w : World} {base base' size n : Nat} {e : TypeId} {v : Value} {xs : List Value} (h : w.ownsRow base e size v n xs) (hb : base' ≤ base) : w.ownsRow base' e size v n xs := by
  refine ⟨h.1, ?_⟩
  rcases h.2 with hn | ⟨g, cap, cur, rfl, hg, rest⟩
  · exact .inl hn
  · exact .inr ⟨g, cap, cur, rfl, by omega, rest⟩
theorem own_ge {w : World} {base size n : Nat} {e : TypeId} {v : Value} {xs : List Value} (h : w.ownsRow base e size v n xs) : ∀ k, v.ownBlock = some k → base ≤ k := fun k hk => (h.lt k hk).1
theorem upd_grown {w w' : World} {row : Option Nat} (h : w.grownBy w' row) : Upd row.toList w w' := (Upd.refl row.toList w).grown h (fun k hk _ => by simp [hk])
theorem drop_eq {α : Type} {xs ys : List α} {k : Nat} (h : k < xs.length) (h' : k < ys.length) : (xs.drop k = ys.drop k) = (xs[k] = ys[k] ∧ xs.drop (k + 1) = ys.drop (k + 1)) := by
  rw [List.drop_eq_getElem_cons h, List.drop_eq_getElem_cons h', List.cons.injEq]
theorem drop_dec {α : Type} [DecidableEq α] {xs ys : List α} {k : Nat} (h : k < xs.length) (h' : k < ys.length) : decide (xs.drop k = ys.drop k) = (decide (xs[k] = ys[k]) && decide (xs.drop (k + 1) = ys.drop (k + 1))) := by
  rw [← Bool.decide_and]
  have := drop_eq h h'
  exact decide_eq_decide.2 (by rw [this])
end Go.Proofs.YtmfnfinbkdemkaaGreat
namespace Go.Proofs.YtmfnfinbkdemkaaGreat.A5
open Go.RowKit

theorem infoInt : (Tryz.prog.info? 3).map (fun i => (i.zero, i.size, i.bytes)) = some (some (.int .i64 0), 1, 8) := by kernel_rfl
theorem madeInts (n : Nat) : madeCells #[Value.int .i64 0] (n * 1) = ((List.replicate n (0 : Int)).map (Value.int .i64)).toArray := by
  apply Array.ext
  · simp [madeCells]
  · intro i h1 h2
    simp [madeCells, Nat.mod_one]
theorem mkAny (t e : TypeId) (z : Value) (size bytes : Nat) (ht : Tryz.prog.underlying t = some (.slice e)) (hi : (Tryz.prog.info? e).map (fun i => (i.zero, i.size, i.bytes)) = some (some z, size, bytes)) (n : Nat) (hb : bytes * n ≤ 281474976710656) (hn : n ≤ 100000000) (Z : Array Value) (hZ : madeCells z.cells (n * size) = Z) (w : World) :
    (Instr.makeSlice t (.int .i64 (n : Int)) (.int .i64 (n : Int))).run Tryz.prog w = .ok (.slice (some ⟨w.heap.size, 0, none⟩) n n) (w.alloc (.cells Z e)) := by
  obtain ⟨i, h1, h2, h3, h4⟩ := info_parts hi
  have hb' : (i.bytes : Int) * (n : Int) ≤ 281474976710656 := by
    rw [h4]
    have h : ((bytes * n : Nat) : Int) ≤ 281474976710656 := by omega
    rwa [Int.natCast_mul] at h
  have := run_make (P := Tryz.prog) w t e i z ht h1 h2 .i64 .i64 n n (by omega) (Int.le_refl _) hb' (by omega)
  rw [h3, Int.toNat_natCast, hZ] at this
  exact this
theorem Upd.cell {S : List Nat} {a b : World} (h : Upd S a b) {p : Addr} {v : Value} (hc : a.cell? p = some v) (hp : p.block ∉ S) : b.cell? p = some v :=
  (World.cell?_of_block (h.block p.block (World.block_lt_of_cell? a p hc) hp)).trans hc

def icells (xs : List Int) : Array Value := (xs.map (Value.int .i64)).toArray
theorem icells_get (xs : List Int) (k : Nat) (h : k < xs.length) : (icells xs)[k]? = some (.int .i64 xs[k]) := by simp [icells, h]
theorem icells_set (xs : List Int) (k : Nat) (x : Int) : (icells xs).setIfInBounds k (.int .i64 x) = icells (xs.set k x) := by simp [icells]

theorem icell_some {w : World} {b : Nat} {xs : List Int} {t : TypeId} {f : Nat × Nat} (h : w.heap[b]? = some (.cells (icells xs) t f)) (k : Nat) (hk : k < xs.length) : ∃ v, w.cell? ⟨b, k, none⟩ = some (.int .i64 v) :=
  ⟨_, (cell_block h k).trans (icells_get xs k hk)⟩
theorem ret_int {k : IntKind} {a b : Int} (h : a = b) : Ending.returned (.int k a) = .returned (.int k b) := by rw [h]
/-- The slice at ad holds xs. -/
def Ints (w : World) (ad : Option Addr) (xs : List Int) : Prop := ∀ j (h : j < xs.length), ∃ b off, ad = some ⟨b, off, none⟩ ∧ w.cell? ⟨b, off + j, none⟩ = some (.int .i64 xs[j])
theorem Ints.keep {S : List Nat} {w w' : World} {ad : Option Addr} {xs : List Int} (h : Ints w ad xs) (hu : Upd S w w') (hS : ∀ a, ad = some a → a.block ∉ S) : Ints w' ad xs := by
  intro j hj
  obtain ⟨b, off, rfl, hc⟩ := h j hj
  exact ⟨b, off, rfl, hu.cell hc (show b ∉ S from hS ⟨b, off, none⟩ rfl)⟩
theorem Ints.stay {w w' : World} {ad : Option Addr} {xs : List Int} (h : Ints w ad xs) (hu : Upd [] w w') : Ints w' ad xs := h.keep hu (by simp)
theorem ints_block {w : World} {g : Nat} {t : TypeId} {f : Nat × Nat} {xs : List Int} (h : w.heap[g]? = some (.cells (icells xs) t f)) : Ints w (some ⟨g, 0, none⟩) xs := by
  intro j hj
  refine ⟨g, 0, rfl, ?_⟩
  rw [Nat.zero_add, cell_block h, icells_get xs j hj]
theorem ints_nil (w : World) (ad : Option Addr) : Ints w ad [] := by intro j hj; simp at hj
theorem ints_row {w : World} {base g n cap : Nat} {t : TypeId} {xs : List Int} (h : w.ownsRow base t 1 (.slice (some ⟨g, 0, none⟩) n cap) xs.length (xs.map (Value.int .i64))) : Ints w (some ⟨g, 0, none⟩) xs := by
  intro j hj
  refine ⟨g, 0, rfl, ?_⟩
  have := h.cells (g := g) rfl j (.int .i64 xs[j]) (by simp [hj])
  have hadd : (⟨g, 0, none⟩ : Addr).add j = ⟨g, 0 + j, none⟩ := by unfold Addr.add; split <;> simp_all
  rwa [hadd] at this
/-- What is handed back: a slice that holds xs, nothing old turned. -/
def Gives (xs : List Int) (w : World) (e : Ending) (w' : World) : Prop := ∃ ad cap, e = .returned (.slice ad xs.length cap) ∧ Ints w' ad xs ∧ Upd [] w w' ∧ xs.length ≤ cap

theorem gives {xs : List Int} {w w' : World} {ad : Option Addr} {n cap : Nat} (hn : n = xs.length) (hc : n ≤ cap) (hi : Ints w' ad xs) (hu : Upd [] w w') : Gives xs w (.returned (.slice ad n cap)) w' := ⟨ad, cap, by rw [hn], hi, hu, by omega⟩
theorem fill_start (m : Nat) : ([] : List Int) ++ List.replicate (m - 0) 0 = List.replicate m (0 : Int) := by simp
theorem fill_step (pre : List Int) (m k : Nat) (x : Int) (hp : pre.length = k) (hk : k < m) : (pre ++ List.replicate (m - k) 0).set k x = (pre ++ [x]) ++ List.replicate (m - (k + 1)) 0 := by
  subst hp
  rw [List.set_append, if_neg (by omega), Nat.sub_self, show m - pre.length = (m - (pre.length + 1)) + 1 by omega, List.replicate_succ, List.set_cons_zero]
  simp
theorem fill_end (pre : List Int) (m : Nat) : pre ++ List.replicate (m - m) 0 = pre := by simp
theorem fill_length (pre : List Int) (m k : Nat) (hp : pre.length = k) (hk : k ≤ m) : (pre ++ List.replicate (m - k) (0 : Int)).length = m := by simp; omega

theorem heap_alloc_at {w : World} {n : Nat} (A : Obj) (h : n = w.heap.size) : (w.alloc A).heap[n]? = some A := by subst h; exact heap_alloc1 w A
/-- append of one int to a row of the call's own. -/
theorem app_int {w : World} {ops : Array Oper} {rest : List Oper} {o : Oper} {a : Act} {Q : Exit → Act → World → Prop} (hgd : o.guard = none) (s x : Operand)
    (ho : o.op = .call { callee := .builtin .append, args := #[s, x], argTypes := #[43, 43] })
    (base : Nat) (v : Value) (n : Nat) (xs : List Int) (hs : a.eval s = v) (hown : w.ownsRow base 3 1 v n (xs.map (Value.int .i64)))
    (b : Nat) (y : Int) (hx : a.eval x = .slice (some ⟨b, 0, none⟩) 1 1) (hb : w.heap[b]? = some (.cells #[.int .i64 y] 3 (0, 0))) (hn : n ≤ 1000000) (hbase : base ≤ w.heap.size)
    (h : ∀ g cap w', w'.ownsRow base 3 1 (.slice (some ⟨g, 0, none⟩) (n + 1) cap) (n + 1) ((xs ++ [y]).map (Value.int .i64)) → w.grownBy w' v.ownBlock → (v.ownBlock = some g ∨ g = w.heap.size) → g < w'.heap.size → wpList Tryz.prog ops Q rest (a.put o.dst (.slice (some ⟨g, 0, none⟩) (n + 1) cap)) w') :
    wpList Tryz.prog ops Q (o :: rest) a w := by
  obtain ⟨i0, hi0, hz0, hz1, hz2⟩ := info_parts infoInt
  refine wpList_append_lies _ hgd s x 43 ho base 3 i0 _ 1 8 Tryz.underlying43 hi0 hz0 hz1 hz2 rfl (by decide) v n _ hs hown ⟨b, 0, none⟩ 1 1 [.int .i64 y] hx rfl (World.news_of_block (cs := #[.int .i64 y]) hb) (by simp [Value.oneCell']) (by decide) (by simp [maxLen]; omega) (by omega) hbase _ rfl ?_
  intro g cap w' h1 h2 h3 h4
  exact h g cap w' (by simpa using h1) h2 h3 h4
theorem app_upd {w wr w1 : World} {v : Value} {e : TypeId} {s n : Nat} {xs : List Value} {O : Obj} (hU : Upd [] w wr) (hr : wr.ownsRow w.heap.size e s v n xs) (hg : (wr.alloc O).grownBy w1 v.ownBlock) : Upd [] w w1 :=
  (hU.alloc O).grown hg (fun k hk hl => by have := (hr.lt k hk).1; omega)
theorem gives_row' {w w' : World} {base : Nat} {xs : List Int} {v : Value} {n : Nat} (h : w'.ownsRow base 3 1 v n (xs.map (Value.int .i64))) (_hb : w.heap.size ≤ base) (hu : Upd [] w w') : Gives xs w (.returned v) w' := by
  have hn : n = xs.length := by have := h.1; simp at this; omega
  subst hn
  rcases h.2 with ⟨rfl, h0⟩ | ⟨g, cap, cur, rfl, _, _, hc, _⟩
  · obtain rfl : xs = [] := List.eq_nil_of_length_eq_zero h0
    exact gives rfl (Nat.le_refl _) (ints_nil _ _) hu
  · exact gives rfl hc (ints_row h) hu
theorem gives_row {w w' : World} {xs : List Int} {v : Value} {n : Nat} (h : w'.ownsRow w.heap.size 3 1 v n (xs.map (Value.int .i64))) (hu : Upd [] w w') : Gives xs w (.returned v) w' := by
  have hn : n = xs.length := by have := h.1; simp at this; omega
  subst hn
  rcases h.2 with ⟨rfl, h0⟩ | ⟨g, cap, cur, rfl, _, _, hc, _⟩
  · obtain rfl : xs = [] := List.eq_nil_of_length_eq_zero h0
    exact gives rfl (Nat.le_refl _) (ints_nil _ _) hu
  · exact gives rfl hc (ints_row h) hu
end Go.Proofs.YtmfnfinbkdemkaaGreat.A5
namespace Go.Proofs.YtmfnfinbkdemkaaGreat.A5
open Go.RowKit Go.Lib

theorem ret_bool {a b : Bool} (h : a = b) : Ending.returned (.bool a) = .returned (.bool b) := by rw [h]
def validB (h : Int) : Bool := decide (0 ≤ h) && decide (h ≤ 70368744177727)
theorem validB_yes {h : Int} : validB h = true ↔ 0 ≤ h ∧ h ≤ 70368744177727 := by simp [validB]
theorem validB_no {h : Int} : validB h = false ↔ ¬ (0 ≤ h ∧ h ≤ 70368744177727) := by rw [← validB_yes]; simp
set_option maxHeartbeats 400000 in
theorem RValid_any (h : Int) (w : World) :
    Calls Tryz.prog 56 #[.int .i64 h] w fun e w' => e = .returned (.bool (validB h)) ∧ w = w' := by
  by_cases h0 : 0 ≤ h
  · have d0 : decide (0 ≤ h) = true := by simpa using h0
    by_cases h1 : h ≤ 70368744177727
    · have d1 : decide (h ≤ 70368744177727) = true := by simpa using h1
      go_enter Tryz.func56, Tryz.ntmps56
      go_wp2
      go_ret
      exact ⟨ret_bool (by simp [validB, h0, h1]), rfl⟩
    · have d1 : decide (h ≤ 70368744177727) = false := by simpa using h1
      go_enter Tryz.func56, Tryz.ntmps56
      go_wp2
      go_ret
      exact ⟨ret_bool (by simp [validB, h1]), rfl⟩
  · have d0 : decide (0 ≤ h) = false := by simpa using h0
    go_enter Tryz.func56, Tryz.ntmps56
    go_wp2
    go_ret
    exact ⟨ret_bool (by rw [validB, d0]; rfl), rfl⟩
def slotZ (h : Int) : Int := if validB h then h % 64 else -1
def genZ (h : Int) : Int := if validB h then h / 64 else -1
theorem slotZ_yes {h : Int} (k : validB h = true) : slotZ h = h % 64 := by rw [slotZ, if_pos k]
theorem slotZ_no {h : Int} (k : validB h = false) : slotZ h = -1 := by rw [slotZ, if_neg (by rw [k]; simp)]
theorem genZ_yes {h : Int} (k : validB h = true) : genZ h = h / 64 := by rw [genZ, if_pos k]
theorem genZ_no {h : Int} (k : validB h = false) : genZ h = -1 := by rw [genZ, if_neg (by rw [k]; simp)]
set_option maxHeartbeats 400000 in
theorem RSlot_any (h : Int) (w : World) :
    Calls Tryz.prog 23 #[.int .i64 h] w fun e w' => e = .returned (.int .i64 (slotZ h)) ∧ w = w' := by
  go_enter Tryz.func23, Tryz.ntmps23
  go_wp2_with fail
  refine (RValid_any h _).mono ?_
  rintro e w' ⟨rfl, rfl⟩
  rcases hb : validB h with _ | _
  · have HB := Lib.hid hb; clear hb
    go_wp2_with fail
    go_ret
    exact ⟨ret_int (by rw [slotZ_no HB.out]), rfl⟩
  · have HB := Lib.hid hb; clear hb
    have hd : h.tmod 64 = h % 64 := Int.tmod_eq_emod_of_nonneg (validB_yes.1 HB.out).1
    have hr := validB_yes.1 HB.out
    go_wp2_with fail
    go_ret
    exact ⟨ret_int (by rw [slotZ_yes HB.out]), rfl⟩
set_option maxHeartbeats 400000 in
theorem RGeneration_any (h : Int) (w : World) :
    Calls Tryz.prog 26 #[.int .i64 h] w fun e w' => e = .returned (.int .i64 (genZ h)) ∧ w = w' := by
  go_enter Tryz.func26, Tryz.ntmps26
  go_wp2_with fail
  refine (RValid_any h _).mono ?_
  rintro e w' ⟨rfl, rfl⟩
  rcases hb : validB h with _ | _
  · have HB := Lib.hid hb; clear hb
    go_wp2_with fail
    go_ret
    exact ⟨ret_int (by rw [genZ_no HB.out]), rfl⟩
  · have HB := Lib.hid hb; clear hb
    have hd : h.tdiv 64 = h / 64 := Int.tdiv_eq_ediv_of_nonneg (validB_yes.1 HB.out).1
    have hr := validB_yes.1 HB.out
    go_wp2_with fail
    go_ret
    exact ⟨ret_int (by rw [genZ_yes HB.out]), rfl⟩
end Go.Proofs.YtmfnfinbkdemkaaGreat.A5
namespace Go.Proofs.YtmfnfinbkdemkaaGreat.A5
open Go.RowKit Go.Lib

def encS (s : Sl) : List Value := [.int .i64 s.g, .int .i64 s.s, .int .i64 s.t, .int .i64 s.q]
def aggS (s : Sl) : Value := .agg #[.int .i64 s.g, .int .i64 s.s, .int .i64 s.t, .int .i64 s.q]
theorem encS_len (s : Sl) : (encS s).length = 4 := rfl
def flatS (l : List Sl) : List Value := l.flatMap encS
theorem flatS_length (l : List Sl) : (flatS l).length = l.length * 4 := by
  induction l with
  | nil => rfl
  | cons x l ih => simp only [flatS, List.flatMap_cons, List.length_append, encS_len, List.length_cons] at ih ⊢; omega
theorem flatS_append (l m : List Sl) : flatS (l ++ m) = flatS l ++ flatS m := by simp [flatS]
theorem flatS_one (l : List Sl) : ∀ v ∈ flatS l, v.oneCell' = true := by
  intro v hv
  obtain ⟨s, _, h⟩ := List.mem_flatMap.1 hv
  simp only [encS, List.mem_cons, List.not_mem_nil, or_false] at h
  rcases h with rfl | rfl | rfl | rfl <;> rfl
theorem flatS_at : ∀ (l : List Sl) (j : Nat) (h : j < l.length), (flatS l)[j * 4]? = some (.int .i64 l[j].g) ∧ (flatS l)[j * 4 + 1]? = some (.int .i64 l[j].s) ∧ (flatS l)[j * 4 + 2]? = some (.int .i64 l[j].t) ∧ (flatS l)[j * 4 + 3]? = some (.int .i64 l[j].q)
  | s :: l, 0, _ => ⟨rfl, rfl, rfl, rfl⟩
  | s :: l, j + 1, h => by
    have := flatS_at l j (by simpa using h)
    have e : flatS (s :: l) = encS s ++ flatS l := rfl
    simp only [List.getElem_cons_succ]
    rw [e]
    refine ⟨?_, ?_, ?_, ?_⟩
    · rw [List.getElem?_append_right (by rw [encS_len]; omega), encS_len, show (j + 1) * 4 - 4 = j * 4 by omega]; exact this.1
    · rw [List.getElem?_append_right (by rw [encS_len]; omega), encS_len, show (j + 1) * 4 + 1 - 4 = j * 4 + 1 by omega]; exact this.2.1
    · rw [List.getElem?_append_right (by rw [encS_len]; omega), encS_len, show (j + 1) * 4 + 2 - 4 = j * 4 + 2 by omega]; exact this.2.2.1
    · rw [List.getElem?_append_right (by rw [encS_len]; omega), encS_len, show (j + 1) * 4 + 3 - 4 = j * 4 + 3 by omega]; exact this.2.2.2
theorem flatS_set : ∀ (l : List Sl) (i : Nat) (_ : i < l.length) (s : Sl), flatS (l.set i s) = ((((flatS l).set (i * 4) (.int .i64 s.g)).set (i * 4 + 1) (.int .i64 s.s)).set (i * 4 + 2) (.int .i64 s.t)).set (i * 4 + 3) (.int .i64 s.q)
  | x :: l, 0, _, s => rfl
  | x :: l, i + 1, h, s => by
    have ih := flatS_set l i (by simpa using h) s
    have e : ∀ m, flatS (x :: m) = encS x ++ flatS m := fun _ => rfl
    rw [List.set_cons_succ, e, e, ih]
    rw [List.set_append_right _ _ (by rw [encS_len]; omega), List.set_append_right _ _ (by rw [encS_len]; omega), List.set_append_right _ _ (by rw [encS_len]; omega), List.set_append_right _ _ (by rw [encS_len]; omega)]
    simp only [encS_len, show (i + 1) * 4 - 4 = i * 4 by omega, show (i + 1) * 4 + 1 - 4 = i * 4 + 1 by omega, show (i + 1) * 4 + 2 - 4 = i * 4 + 2 by omega, show (i + 1) * 4 + 3 - 4 = i * 4 + 3 by omega]

/-- The slice at ad holds the slots l. -/
def Slots (w : World) (ad : Option Addr) (l : List Sl) : Prop := ∀ j (h : j < l.length), ∃ b off, ad = some ⟨b, off, none⟩ ∧
  w.cell? ⟨b, off + j * 4, none⟩ = some (.int .i64 l[j].g) ∧ w.cell? ⟨b, off + j * 4 + 1, none⟩ = some (.int .i64 l[j].s) ∧ w.cell? ⟨b, off + j * 4 + 2, none⟩ = some (.int .i64 l[j].t) ∧ w.cell? ⟨b, off + j * 4 + 3, none⟩ = some (.int .i64 l[j].q)
theorem Slots.keep {S : List Nat} {w w' : World} {ad : Option Addr} {l : List Sl} (h : Slots w ad l) (hu : Upd S w w') (hS : ∀ a, ad = some a → a.block ∉ S) : Slots w' ad l := by
  intro j hj
  obtain ⟨b, off, rfl, c0, c1, c2, c3⟩ := h j hj
  have hb : b ∉ S := hS _ rfl
  exact ⟨b, off, rfl, hu.cell c0 hb, hu.cell c1 hb, hu.cell c2 hb, hu.cell c3 hb⟩
theorem Slots.stay {w w' : World} {ad : Option Addr} {l : List Sl} (h : Slots w ad l) (hu : Upd [] w w') : Slots w' ad l := h.keep hu (by simp)
theorem slots_nil (w : World) (ad : Option Addr) : Slots w ad [] := by intro j hj; simp at hj
theorem slots_none {w : World} {l : List Sl} (h : Slots w none l) : l = [] := by
  cases l with
  | nil => rfl
  | cons x xs => obtain ⟨b, off, h, _⟩ := h 0 (by simp); simp at h
theorem ints_none {w : World} {xs : List Int} (h : Ints w none xs) : xs = [] := by
  cases xs with
  | nil => rfl
  | cons x xs => obtain ⟨b, off, h, _⟩ := h 0 (by simp); simp at h
theorem slots_cells {w : World} {ad : Addr} {l : List Sl} (h : Slots w (some ad) l) : ∀ (t : Nat) (u : Value), (flatS l)[t]? = some u → w.cell? (ad.add t) = some u := fun t u ht => by
  have hl : t < l.length * 4 := by rw [← flatS_length]; exact (List.getElem?_eq_some_iff.1 ht).1
  have hj : t / 4 < l.length := by omega
  obtain ⟨b, off, e, c0, c1, c2, c3⟩ := h (t / 4) hj
  obtain rfl := Option.some.inj e
  obtain ⟨f0, f1, f2, f3⟩ := flatS_at l (t / 4) hj
  rw [Addr.add_lit]
  have hm : t % 4 = 0 ∨ t % 4 = 1 ∨ t % 4 = 2 ∨ t % 4 = 3 := by omega
  rcases hm with hm | hm | hm | hm
  · rw [show t / 4 * 4 = t by omega] at f0 c0; rw [f0] at ht; rw [← Option.some.inj ht]; exact c0
  · rw [show t / 4 * 4 + 1 = t by omega] at f1; rw [Nat.add_assoc, show t / 4 * 4 + 1 = t by omega] at c1; rw [f1] at ht; rw [← Option.some.inj ht]; exact c1
  · rw [show t / 4 * 4 + 2 = t by omega] at f2; rw [Nat.add_assoc, show t / 4 * 4 + 2 = t by omega] at c2; rw [f2] at ht; rw [← Option.some.inj ht]; exact c2
  · rw [show t / 4 * 4 + 3 = t by omega] at f3; rw [Nat.add_assoc, show t / 4 * 4 + 3 = t by omega] at c3; rw [f3] at ht; rw [← Option.some.inj ht]; exact c3
theorem ints_cells {w : World} {ad : Addr} {xs : List Int} (h : Ints w (some ad) xs) : ∀ (j : Nat) (u : Value), (xs.map (Value.int .i64))[j]? = some u → w.cell? (ad.add j) = some u := fun j u hj => by
  rw [List.getElem?_map] at hj
  obtain ⟨x, hx, rfl⟩ := Option.map_eq_some_iff.1 hj
  obtain ⟨hl, rfl⟩ := List.getElem?_eq_some_iff.1 hx
  obtain ⟨b, off, h, hc⟩ := h j hl
  obtain rfl := Option.some.inj h
  rw [Addr.add_lit]; exact hc
theorem slots_row {w : World} {base g n cap : Nat} {l : List Sl} (h : w.ownsRow base 52 4 (.slice (some ⟨g, 0, none⟩) n cap) l.length (flatS l)) : Slots w (some ⟨g, 0, none⟩) l := by
  intro j hj
  obtain ⟨f0, f1, f2, f3⟩ := flatS_at l j hj
  have k := fun t u ht => h.cells (g := g) rfl t u ht
  have hadd : ∀ t, (⟨g, 0, none⟩ : Addr).add t = ⟨g, 0 + t, none⟩ := fun t => by rw [Addr.add_lit]
  refine ⟨g, 0, rfl, ?_, ?_, ?_, ?_⟩
  · rw [← hadd]; exact k _ _ f0
  · rw [Nat.add_assoc, ← hadd]; exact k _ _ f1
  · rw [Nat.add_assoc, ← hadd]; exact k _ _ f2
  · rw [Nat.add_assoc, ← hadd]; exact k _ _ f3

/-- An arena as it lies. -/
structure ArR where
  ar : Ar
  sa : Option Addr
  sc : Nat
  ia : Option Addr
  ic : Nat
def encA (r : ArR) : Value := .agg #[.slice r.sa r.ar.sl.length r.sc, .slice r.ia r.ar.id.length r.ic, .int .i64 r.ar.nx]
structure HasA (w : World) (r : ArR) : Prop where
  sl : Slots w r.sa r.ar.sl
  id : Ints w r.ia r.ar.id
  sc : r.ar.sl.length ≤ r.sc
  ic : r.ar.id.length ≤ r.ic
  sn : r.sa = none → r.sc = 0
  nn : r.ia = none → r.ic = 0
theorem HasA.stay {w w' : World} {r : ArR} (h : HasA w r) (hu : Upd [] w w') : HasA w' r := ⟨h.sl.stay hu, h.id.stay hu, h.sc, h.ic, h.sn, h.nn⟩
theorem Slots.keepN {S : List Nat} {w w' : World} {ad : Option Addr} {l : List Sl} (h : Slots w ad l) (hu : Upd S w w') (hS : l ≠ [] → ∀ a, ad = some a → a.block ∉ S) : Slots w' ad l := by
  intro j hj
  exact (h.keep hu (hS (by intro e; subst e; simp at hj))) j hj
theorem Ints.keepN {S : List Nat} {w w' : World} {ad : Option Addr} {l : List Int} (h : Ints w ad l) (hu : Upd S w w') (hS : l ≠ [] → ∀ a, ad = some a → a.block ∉ S) : Ints w' ad l := by
  intro j hj
  exact (h.keep hu (hS (by intro e; subst e; simp at hj))) j hj
/-- The arena lies outside of block b. -/
def Avoids (r : ArR) (b : Nat) : Prop := (r.ar.sl ≠ [] → ∀ a, r.sa = some a → a.block ≠ b) ∧ (r.ar.id ≠ [] → ∀ a, r.ia = some a → a.block ≠ b)
theorem HasA.keep1 {w w' : World} {r : ArR} {b : Nat} (h : HasA w r) (hu : Upd [b] w w') (ha : Avoids r b) : HasA w' r :=
  ⟨h.sl.keepN hu (fun hn a e => by have := ha.1 hn a e; simpa using this), h.id.keepN hu (fun hn a e => by have := ha.2 hn a e; simpa using this), h.sc, h.ic, h.sn, h.nn⟩
theorem HasA.avoids {w : World} {r : ArR} (h : HasA w r) {b : Nat} (hb : w.heap.size ≤ b) : Avoids r b := by
  constructor
  · intro hn a e
    obtain ⟨b', off, e', c, _⟩ := h.sl 0 (List.length_pos_iff.2 hn)
    rw [e] at e'
    obtain rfl := Option.some.inj e'
    have := World.block_lt_of_cell? w _ c
    simp only at this ⊢
    omega
  · intro hn a e
    obtain ⟨b', off, e', c⟩ := h.id 0 (List.length_pos_iff.2 hn)
    rw [e] at e'
    obtain rfl := Option.some.inj e'
    have := World.block_lt_of_cell? w _ c
    simp only at this ⊢
    omega
/-- From the arena r in w a call came to the arena r' in w', which holds a'. -/
structure Nxt (w : World) (r : ArR) (a' : Ar) (w' : World) (r' : ArR) : Prop where
  eq : r'.ar = a'
  has : HasA w' r'
  av : ∀ b, b < w.heap.size → Avoids r b → Avoids r' b
  upd : Upd [] w w'
/-- An arena as a value: some place of it. -/
def IsA (w : World) (v : Value) (a : Ar) : Prop := ∃ r : ArR, v = encA r ∧ r.ar = a ∧ HasA w r
theorem IsA.stay {w w' : World} {v : Value} {a : Ar} (h : IsA w v a) (hu : Upd [] w w') : IsA w' v a := by
  obtain ⟨r, h1, h2, h3⟩ := h
  exact ⟨r, h1, h2, h3.stay hu⟩
theorem HasA.is {w : World} {r : ArR} (h : HasA w r) : IsA w (encA r) r.ar := ⟨r, rfl, rfl, h⟩

theorem box_at (w : World) {O o' : Obj} (h : o' = O) : (w.alloc O).heap[w.heap.size]? = some o' := by rw [h]; exact heap_alloc1 w O
theorem infoSlot : (Tryz.prog.info? 52).map (fun i => (i.zero, i.size, i.bytes)) = some (some (.agg #[.int .i64 0, .int .i64 0, .int .i64 0, .int .i64 0]), 4, 32) := by kernel_rfl
end Go.Proofs.YtmfnfinbkdemkaaGreat.A5
