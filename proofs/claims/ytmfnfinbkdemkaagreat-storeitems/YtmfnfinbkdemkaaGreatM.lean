/- Contracts of the small functions of package shmem. -/
/- Frames: which old blocks a step may have turned. Plain facts on worlds, nothing of the program. -/
/- record. -/
/- The memory of package shmem as it lies in the heap, and the contracts of its inner methods. -/
import Derived.Test.YtmfnfinbkdemkaaGreatRows
import Derived.WalkKit
import Derived.WalkSpells
import Derived.WalkLawsBesides
import Derived.BigQuiet
import Derived.Deep.QuietTactic
import Derived.Deep.AppendLies
import Derived.Deep.Draws
import Derived.Deep.RegionLaw
import Derived.OwnWalk
import Derived.Lib.Hide
import Derived.Deep.RegionWith
import Derived.Deep.RegionHeld3
import Derived.Deep.Light
import Derived.Deep.DeepCutAuto
namespace Go.Proofs.YtmfnfinbkdemkaaGreat
open Go.RowKit

set_option maxHeartbeats 400000 in
theorem validSize_any (n : Int) (w : World) :
    Calls Tryz.prog 83 #[.int .i64 n] w fun e w' => e = .returned (.bool (decide (0 ≤ n) && decide (n ≤ 256))) ∧ w = w' := by
  by_cases h0 : 0 ≤ n
  · go_enter Tryz.func83, Tryz.ntmps83
    go_wp2
    go_ret
    exact ⟨by simp [h0], rfl⟩
  · have h0' : decide (0 ≤ n) = false := by simpa using h0
    go_enter Tryz.func83, Tryz.ntmps83
    go_wp2
    go_ret
    exact ⟨by simp, rfl⟩

set_option maxHeartbeats 400000 in
theorem heldBy_any (h : Bool) (t n : Int) (w : World) :
    Calls Tryz.prog 91 #[.agg #[.bool h, .int .i64 t], .int .i64 n] w fun e w' =>
      e = .returned (.bool (h && (t == n))) ∧ w' = w.alloc (.cells #[.bool h, .int .i64 t] 107) := by
  cases h
  all_goals
    go_enter Tryz.func91, Tryz.ntmps91
    go_wp2
    go_ret
    exact ⟨by simp, rfl⟩

def b2i (b : Bool) : Int := if b then 1 else 0
set_option maxHeartbeats 400000 in
theorem logged_any (h : Bool) (t : Int) (w : World) :
    Calls Tryz.prog 89 #[.agg #[.bool h, .int .i64 t]] w fun e w' =>
      e = .returned (.int .i64 (b2i h)) ∧ w' = w.alloc (.cells #[.bool h, .int .i64 t] 107) := by
  cases h
  all_goals
    go_enter Tryz.func89, Tryz.ntmps89
    go_wp2
    go_ret
    exact ⟨by simp [b2i], rfl⟩

end Go.Proofs.YtmfnfinbkdemkaaGreat
namespace Go.Proofs.YtmfnfinbkdemkaaGreat
open Go.RowKit

theorem cell_block {w : World} {b : Nat} {c : Array Value} {e : TypeId} {f : Nat × Nat} (h : w.heap[b]? = some (.cells c e f)) (o : Nat) : w.cell? ⟨b, o, none⟩ = c[o]? := by
  simp [World.cell?, h]
theorem free_block {w : World} {b : Nat} {c : Array Value} {e : TypeId} (h : w.heap[b]? = some (.cells c e (0, 0))) (o : Nat) : w.frozen? ⟨b, o, none⟩ = false := by
  simp [World.frozen?, h]
theorem lt_block {w : World} {b : Nat} {o : Obj} (h : w.heap[b]? = some o) : b < w.heap.size := (Array.getElem?_eq_some_iff.1 h).1

/-- Of the blocks of w only those in S may have turned; new ones may have come. -/
structure Upd (S : List Nat) (w w' : World) : Prop where
  os : w'.os = w.os
  tape : w'.tape = w.tape
  output : w'.output = w.output
  size : w.heap.size ≤ w'.heap.size
  block : ∀ k, k < w.heap.size → k ∉ S → w'.heap[k]? = w.heap[k]?

theorem Upd.refl (S : List Nat) (w : World) : Upd S w w := ⟨rfl, rfl, rfl, Nat.le_refl _, fun _ _ _ => rfl⟩
theorem Upd.trans {S T : List Nat} {a b c : World} (h : Upd S a b) (k : Upd T b c) (hT : ∀ x ∈ T, x < a.heap.size → x ∈ S) : Upd S a c :=
  ⟨k.os.trans h.os, k.tape.trans h.tape, k.output.trans h.output, Nat.le_trans h.size k.size,
    fun i hi hS => (k.block i (Nat.lt_of_lt_of_le hi h.size) (fun hx => hS (hT i hx hi))).trans (h.block i hi hS)⟩
theorem Upd.mono {S T : List Nat} {a b : World} (h : Upd S a b) (hT : ∀ x ∈ S, x ∈ T) : Upd T a b :=
  ⟨h.os, h.tape, h.output, h.size, fun i hi hS => h.block i hi (fun hx => hS (hT i hx))⟩
theorem Upd.below {S : List Nat} {a b : World} (h : Upd S a b) {B : Nat} (hB : ∀ x ∈ S, B ≤ x) (hs : B ≤ a.heap.size) : Below B a b :=
  ⟨h.os, h.tape, h.output, h.size, fun k hk => h.block k (by omega) (fun hx => by have := hB k hx; omega)⟩
theorem Upd.of_below {a b : World} (h : Below a.heap.size a b) : Upd [] a b := ⟨h.os, h.tape, h.output, h.size, fun k hk _ => h.block k hk⟩
theorem Upd.to_below {a b : World} (h : Upd [] a b) : Below a.heap.size a b := ⟨h.os, h.tape, h.output, h.size, fun k hk => h.block k hk (by simp)⟩
theorem Upd.drew {S : List Nat} {a b : World} (h : Upd S a b) : Upd S a b.drew := ⟨h.os, h.tape, h.output, h.size, h.block⟩
theorem Upd.drewN {S : List Nat} {a b : World} (h : Upd S a b) (n : Nat) : Upd S a (b.drewN n) := ⟨h.os, h.tape, h.output, h.size, h.block⟩
theorem Upd.alloc {S : List Nat} {a b : World} (h : Upd S a b) (o : Obj) : Upd S a (b.alloc o) :=
  h.trans (T := []) ⟨rfl, rfl, rfl, by simp, fun k hk _ => Below.heap_alloc _ _ _ hk⟩ (by simp)
theorem Upd.setCell {S : List Nat} {a b : World} (h : Upd S a b) {p : Addr} (hp : p.block < a.heap.size → p.block ∈ S) (u : Value) : Upd S a (b.setCell p u) :=
  h.trans (T := [p.block]) ⟨rfl, rfl, rfl, by simp [World.setCell], fun k _ hk => Below.heap_setCell _ _ _ _ (by simpa using hk)⟩ (by simpa using hp)
theorem Upd.grown {S : List Nat} {a b c : World} {row : Option Nat} (h : Upd S a b) (hg : b.grownBy c row) (hr : ∀ k, row = some k → k < a.heap.size → k ∈ S) : Upd S a c :=
  h.trans (T := row.toList) ⟨hg.os, hg.tape, hg.output, hg.size, fun k hk hn => hg.block k hk (fun e => hn (by simp [← e]))⟩ (fun x hx hl => hr x (by simpa using hx) hl)
theorem Upd.at {S : List Nat} {a b : World} (h : Upd S a b) {k : Nat} {o : Obj} (ho : a.heap[k]? = some o) (hk : k ∉ S) : b.heap[k]? = some o :=
  (h.block k (lt_block ho) hk).trans ho
theorem Upd.row {S : List Nat} {a b : World} (h : Upd S a b) {base : Nat} {e : TypeId} {size : Nat} {v : Value} {n : Nat} {xs : List Value} (ho : a.ownsRow base e size v n xs) (hk : ∀ k, v.ownBlock = some k → k ∉ S) : b.ownsRow base e size v n xs := by
  refine ⟨ho.1, ?_⟩
  rcases ho.2 with hn | ⟨g, cap, cur, rfl, hb, hgg, rest⟩
  · exact .inl hn
  · exact .inr ⟨g, cap, cur, rfl, hb, h.at hgg (hk g rfl), rest⟩

theorem setCell_block {w : World} {b o : Nat} {c : Array Value} {e : TypeId} {f : Nat × Nat} (h : w.heap[b]? = some (.cells c e f)) (u : Value) :
    (w.setCell ⟨b, o, none⟩ u).heap[b]? = some (.cells (c.setIfInBounds o u) e f) := by
  have hl := lt_block h
  simp only [World.setCell, Array.getElem?_modify, if_true, h, Option.map_some]
  simp

theorem heap_alloc1 (w : World) (A : Obj) : (w.alloc A).heap[w.heap.size]? = some A := heap_alloc_new w A
theorem heap_alloc2 (w : World) (A B : Obj) : ((w.alloc A).alloc B).heap[w.heap.size + 1]? = some B := by
  have := heap_alloc_new (w.alloc A) B
  simpa using this
theorem heap_alloc3 (w : World) (A B C : Obj) : (((w.alloc A).alloc B).alloc C).heap[w.heap.size + 1 + 1]? = some C := by
  have h := heap_alloc2 (w.alloc A) B C
  rw [show (w.alloc A).heap.size = w.heap.size + 1 by simp] at h
  exact h
theorem toList_of {v : Value} {k : Nat} (h : k ∈ v.ownBlock.toList) : v.ownBlock = some k := by simpa using h
/-- A block of another element type is not the row that a slice owns. -/
theorem ne_own {w : World} {b : Nat} {c : Array Value} {t e : TypeId} {f : Nat × Nat} (h : w.heap[b]? = some (.cells c t f)) {base size : Nat} {v : Value} {n : Nat} {xs : List Value} (ho : w.ownsRow base e size v n xs) (hte : t ≠ e) : v.ownBlock ≠ some b := by
  rcases ho.2 with ⟨rfl, _⟩ | ⟨g, cap, cur, rfl, hb, hgg, rest⟩
  · simp [Value.ownBlock]
  · intro hg
    simp [Value.ownBlock] at hg
    subst hg
    rw [h] at hgg
    simp at hgg
    exact hte hgg.2.1
theorem ne_block {w : World} {b b' : Nat} {c c' : Array Value} {t t' : TypeId} {f f' : Nat × Nat} (h : w.heap[b]? = some (.cells c t f)) (h' : w.heap[b']? = some (.cells c' t' f')) (hte : t ≠ t') : b ≠ b' := by
  intro he
  subst he
  rw [h] at h'
  simp at h'
  exact hte h'.2.1
theorem row_setCell {w : World} {base : Nat} {e : TypeId} {size : Nat} {v : Value} {n : Nat} {xs : List Value} (h : w.ownsRow base e size v n xs) {a : Addr} (ha : v.ownBlock ≠ some a.block) (u : Value) : (w.setCell a u).ownsRow base e size v n xs := by
  refine ⟨h.1, ?_⟩
  rcases h.2 with hn | ⟨g, cap, cur, rfl, hb, hgg, rest⟩
  · exact .inl hn
  · refine .inr ⟨g, cap, cur, rfl, hb, ?_, rest⟩
    rw [Below.heap_setCell _ _ _ _ (by intro he; exact ha (by simp [Value.ownBlock, he]))]
    exact hgg

end Go.Proofs.YtmfnfinbkdemkaaGreat
namespace Go.Proofs.YtmfnfinbkdemkaaGreat
open Go.RowKit

theorem info47 : (Tryz.prog.info? 131).map (fun i => (i.zero, i.size, i.bytes)) = some (some (.agg #[.int .i64 0, .int .i64 0, .int .i64 0, .int .i64 0, .int .i64 0, .bool false]), 6, 48) := by kernel_rfl

/-- What stands behind the append of record. -/
theorem record_mid {p : Nat} {c : Array Value} {vl : Value} {n : Nat} {xs : List Value} {w W0 w1 : World} (hp : w.heap[p]? = some (.cells c 81 (0, 0))) (ho : w.ownsRow 0 131 6 vl n xs)
    (hU : Upd [] w W0) (hg : W0.grownBy w1 vl.ownBlock) : w1.heap[p]? = some (.cells c 81 (0, 0)) ∧ Upd vl.ownBlock.toList w w1 := by
  have hne := ne_own hp ho (by decide)
  refine ⟨?_, ?_⟩
  · rw [hg.block p (Nat.lt_of_lt_of_le (lt_block hp) hU.size) (fun e => hne e.symm)]
    exact hU.at hp (by simp)
  · exact (hU.mono (by simp)).grown hg (fun k hk _ => by simp [hk])

theorem record_end {p : Nat} {c : Array Value} {vl v' : Value} {m : Nat} {ys : List Value} {w w1 : World} (hp : w1.heap[p]? = some (.cells c 81 (0, 0))) (ho : w1.ownsRow 0 131 6 v' m ys)
    (hu : Upd vl.ownBlock.toList w w1) : (w1.setCell ⟨p, 0, none⟩ v').ownsRow 0 131 6 v' m ys ∧ (w1.setCell ⟨p, 0, none⟩ v').heap[p]? = some (.cells (c.setIfInBounds 0 v') 81 (0, 0)) ∧
      Upd (p :: vl.ownBlock.toList) w (w1.setCell ⟨p, 0, none⟩ v') :=
  ⟨row_setCell ho (ne_own hp ho (by decide)) _, setCell_block hp _, (hu.mono (by intro x hx; exact List.mem_cons_of_mem _ hx)).setCell (by simp) _⟩

set_option maxHeartbeats 1000000 in
theorem record_any (p : Nat) (c : Array Value) (vl : Value) (n : Nat) (xs : List Value) (t k i x y : Int) (ok : Bool) (w : World)
    (hp : w.heap[p]? = some (.cells c 81 (0, 0))) (hc : c[0]? = some vl) (ho : w.ownsRow 0 131 6 vl n xs) (hn : n ≤ 1000000) :
    Calls Tryz.prog 88 #[.pointer (some ⟨p, 0, none⟩), .agg #[.int .i64 t, .int .i64 k, .int .i64 i, .int .i64 x, .int .i64 y, .bool ok]] w fun e w' => e = .returned (.tuple #[]) ∧ ∃ g cap, w'.ownsRow 0 131 6 (.slice (some ⟨g, 0, none⟩) (n + 1) cap) (n + 1) (xs ++ [.int .i64 t, .int .i64 k, .int .i64 i, .int .i64 x, .int .i64 y, .bool ok]) ∧
        w'.heap[p]? = some (.cells (c.setIfInBounds 0 (.slice (some ⟨g, 0, none⟩) (n + 1) cap)) 81 (0, 0)) ∧ Upd (p :: vl.ownBlock.toList) w w' ∧ (vl.ownBlock = some g ∨ w.heap.size ≤ g) := by
  have lp := lt_block hp
  have cp : w.cell? ⟨p, 0, none⟩ = some vl := by rw [cell_block hp, hc]
  have fp := free_block hp 0
  obtain ⟨i0, hi, hz0, hz1, hz2⟩ := info_parts info47
  have Ho := Lib.hid ho
  have Hp := Lib.hid hp
  have Hc := Lib.hid hc
  clear ho hp hc
  go_enter Tryz.func88, Tryz.ntmps88
  go_wp2_with fail
  go_region_law (refine step_append_lies _ rfl (.tmp 8) (.tmp 10) 72 rfl 0 131 i0 _ 6 48 Tryz.underlying72 hi hz0 hz1 hz2 rfl (by decide) vl n xs (by simp [Act.eval]) (by exact ((Ho.out.alloc _).alloc _).drew) ⟨w.heap.size + 1, 0, none⟩ 1 1 [.int .i64 t, .int .i64 k, .int .i64 i, .int .i64 x, .int .i64 y, .bool ok] (by simp [Act.eval]) rfl (by exact World.news_of_block (cs := #[.int .i64 t, .int .i64 k, .int .i64 i, .int .i64 x, .int .i64 y, .bool ok]) (heap_alloc2 _ _ _)) (by simp [Value.oneCell']) (by decide) (by simp [maxLen]; omega) (by omega) (Nat.zero_le _) _ rfl ?_; intro g cap w1 hown hgrow hat hlt; obtain ⟨hp1, hu1⟩ := record_mid Hp.out Ho.out (((Upd.refl [] w).alloc _).alloc _).drew hgrow; have cp1 : w1.cell? ⟨p, 0, none⟩ = some vl := (cell_block hp1 0).trans Hc.out; have fp1 := free_block hp1 0; have Hown := Lib.hid hown; have Hat := Lib.hid hat; have Hp1 := Lib.hid hp1; clear hown hat hp1 hgrow)
  all_goals
    go_wp2
    go_end0
    obtain ⟨e1, e2, e3⟩ := record_end Hp1.out Hown.out hu1
    exact ⟨rfl, g, cap, e1, e2, e3, Hat.out.imp id fun h => by rw [h]; simp [World.drew]; omega⟩
end Go.Proofs.YtmfnfinbkdemkaaGreat
namespace Go.Proofs.YtmfnfinbkdemkaaGreat
open Go.RowKit

structure Acc where
  (t k i old new : Int)
  ok : Bool
def Acc.cells (a : Acc) : List Value := [.int .i64 a.t, .int .i64 a.k, .int .i64 a.i, .int .i64 a.old, .int .i64 a.new, .bool a.ok]
structure St where
  ws : List Int
  ms : List (Bool × Int)
  log : List Acc
  v : Int
def ocells (o : Bool × Int) : List Value := [.bool o.1, .int .i64 o.2]
structure St.Small (s : St) : Prop where
  ws : s.ws.length ≤ 256
  ms : s.ms.length ≤ 256
  log : s.log.length ≤ 100000
  v0 : 0 ≤ s.v
  v1 : s.v ≤ 100000

theorem St.Small.big {s : St} (h : s.Small) : s.log.length ≤ 1000000 := by have := h.log; omega

/-- The memory lies at block p, its words at bw, its mutexes at bm; F: all its blocks. -/
def Mem (F : List Nat) (p bw bm : Nat) (s : St) (w : World) : Prop :=
  ∃ vl, F = p :: bw :: bm :: vl.ownBlock.toList ∧
    w.heap[p]? = some (.cells #[vl, .slice (some ⟨bw, 0, none⟩) s.ws.length s.ws.length, .slice (some ⟨bm, 0, none⟩) s.ms.length s.ms.length, .int .i64 s.v] 81 (0, 0)) ∧
    w.heap[bw]? = some (.cells (s.ws.map (Value.int .i64)).toArray 3 (0, 0)) ∧
    w.heap[bm]? = some (.cells (s.ms.flatMap ocells).toArray 107 (0, 0)) ∧
    w.ownsRow 0 131 6 vl s.log.length (s.log.flatMap Acc.cells)

/-- From F to F': only F's blocks have turned, and F' is of F or new. -/
def Goes (F F' : List Nat) (w w' : World) : Prop := Upd F w w' ∧ ∀ x ∈ F', x ∈ F ∨ w.heap.size ≤ x
theorem Goes.refl (F : List Nat) (w : World) : Goes F F w w := ⟨Upd.refl _ _, fun _ h => .inl h⟩
theorem Goes.trans {F G H : List Nat} {a b c : World} (h : Goes F G a b) (k : Goes G H b c) : Goes F H a c :=
  ⟨h.1.trans k.1 (fun x hx hl => (h.2 x hx).resolve_right (by omega)), fun x hx => (k.2 x hx).elim (fun hg => h.2 x hg) (fun hs => .inr (Nat.le_trans h.1.size hs))⟩
theorem Goes.upd {F G : List Nat} {a b c : World} (h : Goes F G a b) (k : Upd [] b c) : Goes F G a c := ⟨h.1.trans k (by simp), h.2⟩
theorem Goes.after {F G : List Nat} {a b c : World} (k : Upd [] a b) (h : Goes F G b c) : Goes F G a c :=
  ⟨(k.mono (by simp)).trans h.1 (fun _ hx _ => hx), fun x hx => (h.2 x hx).imp id (fun hs => Nat.le_trans k.size hs)⟩

theorem goes_of {F F' : List Nat} {w wc W2 w' : World} (hU : Upd F w wc) (h2 : Upd [] wc W2) (hG : Goes F F' W2 w') : Goes F F' w w' :=
  ⟨(hU.trans h2 (by simp)).trans hG.1 (fun _ hx _ => hx), fun x hx => (hG.2 x hx).imp id (fun h => Nat.le_trans (Nat.le_trans hU.size h2.size) h)⟩
theorem Mem.lt {F : List Nat} {p bw bm : Nat} {s : St} {w : World} (h : Mem F p bw bm s w) : ∀ x ∈ F, x < w.heap.size := by
  obtain ⟨vl, rfl, hp, hw, hm, hl⟩ := h
  intro x hx
  simp only [List.mem_cons] at hx
  rcases hx with rfl | rfl | rfl | hx
  · exact lt_block hp
  · exact lt_block hw
  · exact lt_block hm
  · exact (hl.lt x (toList_of hx)).2
theorem Mem.keep {F S : List Nat} {p bw bm : Nat} {s : St} {w w' : World} (h : Mem F p bw bm s w) (hu : Upd S w w') (hd : ∀ x ∈ F, x ∉ S) : Mem F p bw bm s w' := by
  obtain ⟨vl, rfl, hp, hw, hm, hl⟩ := h
  refine ⟨vl, rfl, hu.at hp (hd _ (by simp)), hu.at hw (hd _ (by simp)), hu.at hm (hd _ (by simp)), hu.row hl fun k hk => hd k (by simp [hk])⟩
theorem Mem.stay {F : List Nat} {p bw bm : Nat} {s : St} {w w' : World} (h : Mem F p bw bm s w) (hu : Upd [] w w') : Mem F p bw bm s w' := h.keep hu (by simp)

theorem getElem_ocells (ms : List (Bool × Int)) (k : Nat) (h : k < ms.length) : (ms.flatMap ocells)[k * 2]? = some (.bool ms[k].1) ∧ (ms.flatMap ocells)[k * 2 + 1]? = some (.int .i64 ms[k].2) := by
  induction ms generalizing k with
  | nil => simp at h
  | cons a r ih =>
    cases k with
    | zero => simp [ocells]
    | succ k =>
      have := ih k (by simpa using h)
      simp only [List.flatMap_cons, ocells, Nat.succ_mul, List.getElem_cons_succ]
      exact this

theorem Mem.cells {F : List Nat} {p bw bm : Nat} {s : St} {w : World} (h : Mem F p bw bm s w) :
    ∃ vl, w.cell? ⟨p, 0, none⟩ = some vl ∧ w.cell? ⟨p, 1, none⟩ = some (.slice (some ⟨bw, 0, none⟩) s.ws.length s.ws.length) ∧ w.cell? ⟨p, 2, none⟩ = some (.slice (some ⟨bm, 0, none⟩) s.ms.length s.ms.length) ∧ w.cell? ⟨p, 3, none⟩ = some (.int .i64 s.v) := by
  obtain ⟨vl, rfl, hp, hw, hm, hl⟩ := h
  exact ⟨vl, by simp [cell_block hp], by simp [cell_block hp], by simp [cell_block hp], by simp [cell_block hp]⟩
theorem Mem.free {F : List Nat} {p bw bm : Nat} {s : St} {w : World} (h : Mem F p bw bm s w) (o : Nat) : w.frozen? ⟨p, o, none⟩ = false ∧ w.frozen? ⟨bw, o, none⟩ = false ∧ w.frozen? ⟨bm, o, none⟩ = false := by
  obtain ⟨vl, rfl, hp, hw, hm, hl⟩ := h
  exact ⟨free_block hp _, free_block hw _, free_block hm _⟩
theorem Mem.word {F : List Nat} {p bw bm : Nat} {s : St} {w : World} (h : Mem F p bw bm s w) {k : Nat} (hk : k < s.ws.length) : w.cell? ⟨bw, k, none⟩ = some (.int .i64 s.ws[k]) := by
  obtain ⟨vl, rfl, hp, hw, hm, hl⟩ := h
  simp [cell_block hw, hk]
theorem Mem.owner {F : List Nat} {p bw bm : Nat} {s : St} {w : World} (h : Mem F p bw bm s w) {k : Nat} (hk : k < s.ms.length) : w.cell? ⟨bm, k * 2, none⟩ = some (.bool s.ms[k].1) ∧ w.cell? ⟨bm, k * 2 + 1, none⟩ = some (.int .i64 s.ms[k].2) := by
  obtain ⟨vl, rfl, hp, hw, hm, hl⟩ := h
  have := getElem_ocells s.ms k hk
  exact ⟨by simp [cell_block hm, this.1], by simp [cell_block hm, this.2]⟩

theorem Mem.setWord {F : List Nat} {p bw bm : Nat} {s : St} {w : World} (h : Mem F p bw bm s w) (k : Nat) (x : Int) : Mem F p bw bm { s with ws := s.ws.set k x } (w.setCell ⟨bw, k, none⟩ (.int .i64 x)) := by
  obtain ⟨vl, rfl, hp, hw, hm, hl⟩ := h
  have h1 := ne_block hp hw (by decide)
  have h2 := ne_block hm hw (by decide)
  refine ⟨vl, rfl, ?_, ?_, ?_, ?_⟩
  · rw [Below.heap_setCell _ _ _ _ h1, hp]; simp
  · rw [setCell_block hw]; simp
  · rw [Below.heap_setCell _ _ _ _ h2, hm]
  · exact row_setCell hl (ne_own hw hl (by decide)) _
theorem set_ocells (ms : List (Bool × Int)) (k : Nat) (o : Bool × Int) : ((ms.flatMap ocells).set (k * 2) (.bool o.1)).set (k * 2 + 1) (.int .i64 o.2) = (ms.set k o).flatMap ocells := by
  induction ms generalizing k with
  | nil => simp
  | cons a r ih =>
    cases k with
    | zero => simp [ocells]
    | succ k =>
      have := ih k
      simp only [List.flatMap_cons, ocells, Nat.succ_mul, List.set_cons_succ, List.cons_append, List.nil_append]
      rw [this]
theorem Mem.setOwner {F : List Nat} {p bw bm : Nat} {s : St} {w : World} (h : Mem F p bw bm s w) (k : Nat) (o : Bool × Int) :
    Mem F p bw bm { s with ms := s.ms.set k o } ((w.setCell ⟨bm, k * 2, none⟩ (.bool o.1)).setCell ⟨bm, k * 2 + 1, none⟩ (.int .i64 o.2)) := by
  obtain ⟨vl, rfl, hp, hw, hm, hl⟩ := h
  have h1 := ne_block hp hm (by decide)
  have h2 := ne_block hw hm (by decide)
  have h3 := ne_own hm hl (by decide)
  refine ⟨vl, rfl, ?_, ?_, ?_, ?_⟩
  · rw [Below.heap_setCell _ _ _ _ h1, Below.heap_setCell _ _ _ _ h1, hp]; simp
  · rw [Below.heap_setCell _ _ _ _ h2, Below.heap_setCell _ _ _ _ h2, hw]
  · rw [setCell_block (setCell_block hm _)]
    simp [← set_ocells]
  · exact row_setCell (row_setCell hl h3 _) h3 _
theorem Mem.setV {F : List Nat} {p bw bm : Nat} {s : St} {w : World} (h : Mem F p bw bm s w) (x : Int) : Mem F p bw bm { s with v := x } (w.setCell ⟨p, 3, none⟩ (.int .i64 x)) := by
  obtain ⟨vl, rfl, hp, hw, hm, hl⟩ := h
  refine ⟨vl, rfl, ?_, ?_, ?_, ?_⟩
  · rw [setCell_block hp]; simp
  · rw [Below.heap_setCell _ _ _ _ (ne_block hw hp (by decide)), hw]
  · rw [Below.heap_setCell _ _ _ _ (ne_block hm hp (by decide)), hm]
  · exact row_setCell hl (ne_own hp hl (by decide)) _

theorem record_mem {F : List Nat} {p bw bm : Nat} {s : St} {w : World} (h : Mem F p bw bm s w) (hs : s.log.length ≤ 1000000) (t k i x y : Int) (ok : Bool) :
    Calls Tryz.prog 88 #[.pointer (some ⟨p, 0, none⟩), .agg #[.int .i64 t, .int .i64 k, .int .i64 i, .int .i64 x, .int .i64 y, .bool ok]] w fun e w' =>
      e = .returned (.tuple #[]) ∧ ∃ F', Mem F' p bw bm { s with log := s.log ++ [⟨t, k, i, x, y, ok⟩] } w' ∧ Goes F F' w w' := by
  obtain ⟨vl, rfl, hp, hw, hm, hl⟩ := h
  refine (record_any p _ vl _ _ t k i x y ok w hp rfl hl hs).mono ?_
  rintro e w' ⟨rfl, g, cap, ho, hp', hu, hg⟩
  refine ⟨rfl, _, ⟨.slice (some ⟨g, 0, none⟩) (s.log.length + 1) cap, rfl, by simpa using hp', ?_, ?_, by simpa [Acc.cells] using ho⟩, ?_, ?_⟩
  · exact hu.at hw (by simp only [List.mem_cons, not_or]; exact ⟨ne_block hw hp (by decide), fun h => ne_own hw hl (by decide) (toList_of h)⟩)
  · exact hu.at hm (by simp only [List.mem_cons, not_or]; exact ⟨ne_block hm hp (by decide), fun h => ne_own hm hl (by decide) (toList_of h)⟩)
  · exact hu.mono (by intro x hx; simp only [List.mem_cons] at hx ⊢; rcases hx with rfl | hx; exact .inl rfl; exact .inr (.inr (.inr hx)))
  · intro x hx
    simp only [List.mem_cons] at hx ⊢
    rcases hx with rfl | rfl | rfl | hx
    · simp
    · simp
    · simp
    · simp [Value.ownBlock] at hx
      subst hx
      rcases hg with hg | hg
      · exact .inl (.inr (.inr (.inr (by simp [hg]))))
      · exact .inr hg
end Go.Proofs.YtmfnfinbkdemkaaGreat
