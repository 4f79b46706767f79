/- Rungs in memory: a row of buckets, each a row of items. -/
import Derived.Test.YtneodiemgemhfaaUA
import Derived.Test.YtneodiemgemhfaaGC
namespace Go.Proofs.Ytneodiemgemhfaa
open Go.RowKit Go.Lib

def LI : Lay It := ⟨3, fun x => [.int .i64 x.t, .int .i64 x.q, .int .i64 x.s], fun _ => rfl, fun x v hv => by
  simp only [List.mem_cons, List.not_mem_nil, or_false] at hv
  rcases hv with rfl | rfl | rfl <;> rfl, by decide⟩
def LB : Lay (SlR It) := ⟨1, fun s => [.slice s.ad s.l.length s.cap], fun _ => rfl, fun x v hv => by
  simp only [List.mem_cons, List.not_mem_nil, or_false] at hv
  rcases hv with rfl; rfl, by decide⟩
def aggI (x : It) : Value := .agg #[.int .i64 x.t, .int .i64 x.q, .int .i64 x.s]
theorem infoItem : (Try.prog.info? 34).map (fun i => (i.zero, i.size, i.bytes)) = some (some (.agg #[.int .i64 0, .int .i64 0, .int .i64 0]), 3, 24) := by kernel_rfl
theorem infoItems : (Try.prog.info? 24).map (fun i => (i.zero, i.size, i.bytes)) = some (some (.slice none 0 0), 1, 24) := by kernel_rfl
theorem tyI : RowTy LI 24 34 := rowTy Try.underlying24 _ 24 infoItem rfl (by decide)
theorem tyB : RowTy LB 41 24 := rowTy Try.underlying41 _ 24 infoItems rfl (by decide)
theorem Row.item {w : World} {ad : Option Addr} {l : List It} (h : Row LI w ad l) (j : Nat) (hj : j < l.length) : ∃ b off, ad = some ⟨b, off, none⟩ ∧ w.cell? ⟨b, off + j * 3, none⟩ = some (.int .i64 l[j].t) ∧ w.cell? ⟨b, off + j * 3 + 1, none⟩ = some (.int .i64 l[j].q) ∧ w.cell? ⟨b, off + j * 3 + 2, none⟩ = some (.int .i64 l[j].s) := by
  obtain ⟨b, off, e, c⟩ := h j hj
  exact ⟨b, off, e, c 0 _ rfl, c 1 _ rfl, c 2 _ rfl⟩
theorem Row.bucket {w : World} {ad : Option Addr} {l : List (SlR It)} (h : Row LB w ad l) (j : Nat) (hj : j < l.length) : ∃ b off, ad = some ⟨b, off, none⟩ ∧ w.cell? ⟨b, off + j, none⟩ = some (.slice l[j].ad l[j].l.length l[j].cap) := by
  obtain ⟨b, off, e, c⟩ := h j hj
  have c0 := c 0 _ rfl
  rw [show off + j * LB.k + 0 = off + j from by show off + j * 1 + 0 = _; omega] at c0
  exact ⟨b, off, e, c0⟩

/-- A rung as it lies. -/
structure RgR where
  fr : Int
  wd : Int
  cu : Int
  bk : SlR (SlR It)
def rowsOf (l : List (SlR It)) : List (List It) := l.map SlR.l
def RgR.rg (r : RgR) : Rg := ⟨r.fr, r.wd, r.cu, rowsOf r.bk.l⟩
theorem rowsOf_length (l : List (SlR It)) : (rowsOf l).length = l.length := by simp [rowsOf]
theorem rowsOf_get {l : List (SlR It)} {j : Nat} (h : j < l.length) : (rowsOf l)[j]'(by rw [rowsOf_length]; exact h) = l[j].l := by simp [rowsOf]
theorem rowsOf_at {l : List (SlR It)} {j : Nat} (h : j < l.length) : bAt (rowsOf l) j = l[j].l := by rw [bAt_get (by rw [rowsOf_length]; exact h), rowsOf_get h]
theorem rowsOf_set (l : List (SlR It)) (i : Nat) (s : SlR It) : rowsOf (l.set i s) = (rowsOf l).set i s.l := by simp [rowsOf]
def encR (r : RgR) : Value := .agg #[.int .i64 r.fr, .int .i64 r.wd, .int .i64 r.cu, .slice r.bk.ad r.bk.l.length r.bk.cap]
def cellsR (r : RgR) : Array Value := #[.int .i64 r.fr, .int .i64 r.wd, .int .i64 r.cu, .slice r.bk.ad r.bk.l.length r.bk.cap]
structure HasR (w : World) (r : RgR) : Prop where
  bk : HasS LB w r.bk
  its : ∀ s ∈ r.bk.l, HasS LI w s
theorem HasR.at {w : World} {r : RgR} (h : HasR w r) {j : Nat} (hj : j < r.bk.l.length) : HasS LI w r.bk.l[j] := h.its _ (List.getElem_mem hj)
theorem HasR.stay {w w' : World} {r : RgR} (h : HasR w r) (hu : Upd [] w w') : HasR w' r := ⟨h.bk.stay hu, fun s hs => (h.its s hs).stay hu⟩
/-- The rung lies outside of block b. -/
structure AvR (r : RgR) (b : Nat) : Prop where
  bk : AvS r.bk b
  its : ∀ s ∈ r.bk.l, AvS s b
theorem HasR.keep1 {w w' : World} {r : RgR} {b : Nat} (h : HasR w r) (hu : Upd [b] w w') (ha : AvR r b) : HasR w' r := ⟨h.bk.keep1 hu ha.bk, fun s hs => (h.its s hs).keep1 hu (ha.its s hs)⟩
theorem HasR.avoids {w : World} {r : RgR} (h : HasR w r) {b : Nat} (hb : w.heap.size ≤ b) : AvR r b := ⟨h.bk.avoids hb, fun s hs => (h.its s hs).avoids hb⟩
/-- From the rung r in w a call came to the rung r' in w', which holds g. -/
structure Nxt (w : World) (r : RgR) (g : Rg) (w' : World) (r' : RgR) : Prop where
  eq : r'.rg = g
  has : HasR w' r'
  av : ∀ b, b < w.heap.size → AvR r b → AvR r' b
  upd : Upd [] w w'
theorem Nxt.same {w w' : World} {r : RgR} (h : HasR w r) (hu : Upd [] w w') : Nxt w r r.rg w' r := ⟨rfl, h.stay hu, fun _ _ h => h, hu⟩
theorem Nxt.of_upd {w w0 : World} {r : RgR} {g : Rg} {w' : World} {r' : RgR} (h : Nxt w0 r g w' r') (hu : Upd [] w w0) : Nxt w r g w' r' :=
  ⟨h.eq, h.has, fun b hb ha => h.av b (by have := hu.size; omega) ha, hu.thn h.upd⟩
theorem Nxt.up {w : World} {r : RgR} {g : Rg} {w' w2 : World} {r' : RgR} (h : Nxt w r g w' r') (hu : Upd [] w' w2) : Nxt w r g w2 r' :=
  ⟨h.eq, h.has.stay hu, h.av, h.upd.thn hu⟩
/-- A rung made anew: nothing of it is older than w. -/
structure Born (w : World) (g : Rg) (w' : World) (r' : RgR) : Prop where
  eq : r'.rg = g
  has : HasR w' r'
  av : ∀ b, b < w.heap.size → AvR r' b
  upd : Upd [] w w'
/-- What a call gives of items. -/
structure Gave (w : World) (r : RgR) (l : List It) (w' : World) (s : SlR It) : Prop where
  eq : s.l = l
  has : HasS LI w' s
  av : ∀ b, b < w.heap.size → AvR r b → AvS s b
theorem zeroR_has (w : World) : HasR w ⟨0, 0, 0, ⟨[], none, 0⟩⟩ := ⟨hasS_nil LB w, fun s hs => by simp at hs⟩
end Go.Proofs.Ytneodiemgemhfaa
