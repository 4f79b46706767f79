/- Slices of ints in memory: read, made, filled, grown. Plain facts on worlds. -/
import Derived.Test.YthpofcomlidoiaaF
import Derived.WalkSpells
import Derived.WalkLawsBesides
import Derived.BigQuiet
import Derived.Deep.QuietTactic
import Derived.Deep.LoopGhost
import Derived.Deep.RegionLaw
import Derived.Deep.RegionWith
import Derived.Deep.RegionHeld3
import Derived.Deep.Light
import Derived.Deep.DeepCutAuto
import Derived.OwnWalk
import Derived.Lib.Hide
namespace Go.Proofs.Ythpofcomlidoiaa
open Go.RowKit

theorem infoInt : (Try.prog.info? 3).map (fun i => (i.zero, i.size, i.bytes)) = some (some (.int .i64 0), 1, 8) := by kernel_rfl
theorem madeInts (n : Nat) : madeCells #[Value.int .i64 0] (n * 1) = ((List.replicate n (0 : Int)).map (Value.int .i64)).toArray := by
  apply Array.ext
  · simp [madeCells]
  · intro i h1 h2
    simp [madeCells, Nat.mod_one]
theorem mkAny (t e : TypeId) (z : Value) (size bytes : Nat) (ht : Try.prog.underlying t = some (.slice e)) (hi : (Try.prog.info? e).map (fun i => (i.zero, i.size, i.bytes)) = some (some z, size, bytes)) (n : Nat) (hb : bytes * n ≤ 281474976710656) (hn : n ≤ 100000000) (Z : Array Value) (hZ : madeCells z.cells (n * size) = Z) (w : World) :
    (Instr.makeSlice t (.int .i64 (n : Int)) (.int .i64 (n : Int))).run Try.prog w = .ok (.slice (some ⟨w.heap.size, 0, none⟩) n n) (w.alloc (.cells Z e)) := by
  obtain ⟨i, h1, h2, h3, h4⟩ := info_parts hi
  have hb' : (i.bytes : Int) * (n : Int) ≤ 281474976710656 := by
    rw [h4]
    have h : ((bytes * n : Nat) : Int) ≤ 281474976710656 := by omega
    rwa [Int.natCast_mul] at h
  have := run_make (P := Try.prog) w t e i z ht h1 h2 .i64 .i64 n n (by omega) (Int.le_refl _) hb' (by omega)
  rw [h3, Int.toNat_natCast, hZ] at this
  exact this
theorem Upd.cell {S : List Nat} {a b : World} (h : Upd S a b) {p : Addr} {v : Value} (hc : a.cell? p = some v) (hp : p.block ∉ S) : b.cell? p = some v :=
  (World.cell?_of_block (h.block p.block (World.block_lt_of_cell? a p hc) hp)).trans hc

def icells (xs : List Int) : Array Value := (xs.map (Value.int .i64)).toArray
theorem icells_get (xs : List Int) (k : Nat) (h : k < xs.length) : (icells xs)[k]? = some (.int .i64 xs[k]) := by simp [icells, h]
theorem icells_set (xs : List Int) (k : Nat) (x : Int) : (icells xs).setIfInBounds k (.int .i64 x) = icells (xs.set k x) := by simp [icells]

theorem icell_some {w : World} {b : Nat} {xs : List Int} {t : TypeId} {f : Nat × Nat} (h : w.heap[b]? = some (.cells (icells xs) t f)) (k : Nat) (hk : k < xs.length) : ∃ v, w.cell? ⟨b, k, none⟩ = some (.int .i64 v) :=
  ⟨_, (cell_block h k).trans (icells_get xs k hk)⟩
theorem ret_int {k : IntKind} {a b : Int} (h : a = b) : Ending.returned (.int k a) = .returned (.int k b) := by rw [h]
/-- The slice at ad holds xs. -/
def Ints (w : World) (ad : Option Addr) (xs : List Int) : Prop := ∀ j (h : j < xs.length), ∃ b off, ad = some ⟨b, off, none⟩ ∧ w.cell? ⟨b, off + j, none⟩ = some (.int .i64 xs[j])
theorem Ints.keep {S : List Nat} {w w' : World} {ad : Option Addr} {xs : List Int} (h : Ints w ad xs) (hu : Upd S w w') (hS : ∀ a, ad = some a → a.block ∉ S) : Ints w' ad xs := by
  intro j hj
  obtain ⟨b, off, rfl, hc⟩ := h j hj
  exact ⟨b, off, rfl, hu.cell hc (show b ∉ S from hS ⟨b, off, none⟩ rfl)⟩
theorem Ints.stay {w w' : World} {ad : Option Addr} {xs : List Int} (h : Ints w ad xs) (hu : Upd [] w w') : Ints w' ad xs := h.keep hu (by simp)
theorem ints_block {w : World} {g : Nat} {t : TypeId} {f : Nat × Nat} {xs : List Int} (h : w.heap[g]? = some (.cells (icells xs) t f)) : Ints w (some ⟨g, 0, none⟩) xs := by
  intro j hj
  refine ⟨g, 0, rfl, ?_⟩
  rw [Nat.zero_add, cell_block h, icells_get xs j hj]
theorem ints_nil (w : World) (ad : Option Addr) : Ints w ad [] := by intro j hj; simp at hj
theorem ints_row {w : World} {base g n cap : Nat} {t : TypeId} {xs : List Int} (h : w.ownsRow base t 1 (.slice (some ⟨g, 0, none⟩) n cap) xs.length (xs.map (Value.int .i64))) : Ints w (some ⟨g, 0, none⟩) xs := by
  intro j hj
  refine ⟨g, 0, rfl, ?_⟩
  have := h.cells (g := g) rfl j (.int .i64 xs[j]) (by simp [hj])
  have hadd : (⟨g, 0, none⟩ : Addr).add j = ⟨g, 0 + j, none⟩ := by unfold Addr.add; split <;> simp_all
  rwa [hadd] at this
/-- What is handed back: a slice that holds xs, nothing old turned. -/
def Gives (xs : List Int) (w : World) (e : Ending) (w' : World) : Prop := ∃ ad cap, e = .returned (.slice ad xs.length cap) ∧ Ints w' ad xs ∧ Upd [] w w' ∧ xs.length ≤ cap

theorem gives {xs : List Int} {w w' : World} {ad : Option Addr} {n cap : Nat} (hn : n = xs.length) (hc : n ≤ cap) (hi : Ints w' ad xs) (hu : Upd [] w w') : Gives xs w (.returned (.slice ad n cap)) w' := ⟨ad, cap, by rw [hn], hi, hu, by omega⟩
theorem fill_start (m : Nat) : ([] : List Int) ++ List.replicate (m - 0) 0 = List.replicate m (0 : Int) := by simp
theorem fill_step (pre : List Int) (m k : Nat) (x : Int) (hp : pre.length = k) (hk : k < m) : (pre ++ List.replicate (m - k) 0).set k x = (pre ++ [x]) ++ List.replicate (m - (k + 1)) 0 := by
  subst hp
  rw [List.set_append, if_neg (by omega), Nat.sub_self, show m - pre.length = (m - (pre.length + 1)) + 1 by omega, List.replicate_succ, List.set_cons_zero]
  simp
theorem fill_end (pre : List Int) (m : Nat) : pre ++ List.replicate (m - m) 0 = pre := by simp
theorem fill_length (pre : List Int) (m k : Nat) (hp : pre.length = k) (hk : k ≤ m) : (pre ++ List.replicate (m - k) (0 : Int)).length = m := by simp; omega

theorem heap_alloc_at {w : World} {n : Nat} (A : Obj) (h : n = w.heap.size) : (w.alloc A).heap[n]? = some A := by subst h; exact heap_alloc1 w A
/-- append of one int to a row of the call's own. -/
theorem app_int {w : World} {ops : Array Oper} {rest : List Oper} {o : Oper} {a : Act} {Q : Exit → Act → World → Prop} (hgd : o.guard = none) (s x : Operand)
    (ho : o.op = .call { callee := .builtin .append, args := #[s, x], argTypes := #[23, 23] })
    (base : Nat) (v : Value) (n : Nat) (xs : List Int) (hs : a.eval s = v) (hown : w.ownsRow base 3 1 v n (xs.map (Value.int .i64)))
    (b : Nat) (y : Int) (hx : a.eval x = .slice (some ⟨b, 0, none⟩) 1 1) (hb : w.heap[b]? = some (.cells #[.int .i64 y] 3 (0, 0))) (hn : n ≤ 1000000) (hbase : base ≤ w.heap.size)
    (h : ∀ g cap w', w'.ownsRow base 3 1 (.slice (some ⟨g, 0, none⟩) (n + 1) cap) (n + 1) ((xs ++ [y]).map (Value.int .i64)) → w.grownBy w' v.ownBlock → (v.ownBlock = some g ∨ g = w.heap.size) → g < w'.heap.size → wpList Try.prog ops Q rest (a.put o.dst (.slice (some ⟨g, 0, none⟩) (n + 1) cap)) w') :
    wpList Try.prog ops Q (o :: rest) a w := by
  obtain ⟨i0, hi0, hz0, hz1, hz2⟩ := info_parts infoInt
  refine wpList_append_lies _ hgd s x 23 ho base 3 i0 _ 1 8 Try.underlying23 hi0 hz0 hz1 hz2 rfl (by decide) v n _ hs hown ⟨b, 0, none⟩ 1 1 [.int .i64 y] hx rfl (World.news_of_block (cs := #[.int .i64 y]) hb) (by simp [Value.oneCell']) (by decide) (by simp [maxLen]; omega) (by omega) hbase _ rfl ?_
  intro g cap w' h1 h2 h3 h4
  exact h g cap w' (by simpa using h1) h2 h3 h4
theorem app_upd {w wr w1 : World} {v : Value} {e : TypeId} {s n : Nat} {xs : List Value} {O : Obj} (hU : Upd [] w wr) (hr : wr.ownsRow w.heap.size e s v n xs) (hg : (wr.alloc O).grownBy w1 v.ownBlock) : Upd [] w w1 :=
  (hU.alloc O).grown hg (fun k hk hl => by have := (hr.lt k hk).1; omega)
theorem gives_row' {w w' : World} {base : Nat} {xs : List Int} {v : Value} {n : Nat} (h : w'.ownsRow base 3 1 v n (xs.map (Value.int .i64))) (_hb : w.heap.size ≤ base) (hu : Upd [] w w') : Gives xs w (.returned v) w' := by
  have hn : n = xs.length := by have := h.1; simp at this; omega
  subst hn
  rcases h.2 with ⟨rfl, h0⟩ | ⟨g, cap, cur, rfl, _, _, hc, _⟩
  · obtain rfl : xs = [] := List.eq_nil_of_length_eq_zero h0
    exact gives rfl (Nat.le_refl _) (ints_nil _ _) hu
  · exact gives rfl hc (ints_row h) hu
theorem gives_row {w w' : World} {xs : List Int} {v : Value} {n : Nat} (h : w'.ownsRow w.heap.size 3 1 v n (xs.map (Value.int .i64))) (hu : Upd [] w w') : Gives xs w (.returned v) w' := by
  have hn : n = xs.length := by have := h.1; simp at this; omega
  subst hn
  rcases h.2 with ⟨rfl, h0⟩ | ⟨g, cap, cur, rfl, _, _, hc, _⟩
  · obtain rfl : xs = [] := List.eq_nil_of_length_eq_zero h0
    exact gives rfl (Nat.le_refl _) (ints_nil _ _) hu
  · exact gives rfl hc (ints_row h) hu
end Go.Proofs.Ythpofcomlidoiaa
