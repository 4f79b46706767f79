
/- Layer 10 in memory: entries, events, handles, models, results. -/
import Derived.Test.YtpneljhplbkdkaaAB
import Derived.Test.YtpneljhplbkdkaaGC
namespace Go.Proofs.Ytpneljhplbkdkaa
open Go.RowKit Go.Lib

def LE : Lay En := ⟨4, fun x => [.int .i64 x.t, .int .i64 x.q, .int .i64 x.h, .bool x.d], fun _ => rfl, fun x v hv => by
  simp only [List.mem_cons, List.not_mem_nil, or_false] at hv
  rcases hv with rfl | rfl | rfl | rfl <;> rfl, by decide⟩
def LV : Lay Ev := ⟨2, fun x => [.int .i64 x.t, .int .i64 x.h], fun _ => rfl, fun x v hv => by
  simp only [List.mem_cons, List.not_mem_nil, or_false] at hv
  rcases hv with rfl | rfl <;> rfl, by decide⟩
def LN : Lay Int := ⟨1, fun x => [.int .i64 x], fun _ => rfl, fun x v hv => by
  simp only [List.mem_cons, List.not_mem_nil, or_false] at hv
  rcases hv with rfl; rfl, by decide⟩
theorem infoEntry : (Try.prog.info? 49).map (fun i => (i.zero, i.size, i.bytes)) = some (some (.agg #[.int .i64 0, .int .i64 0, .int .i64 0, .bool false]), 4, 32) := by kernel_rfl
theorem infoEvent : (Try.prog.info? 51).map (fun i => (i.zero, i.size, i.bytes)) = some (some (.agg #[.int .i64 0, .int .i64 0]), 2, 16) := by kernel_rfl
theorem infoInt : (Try.prog.info? 3).map (fun i => (i.zero, i.size, i.bytes)) = some (some (.int .i64 0), 1, 8) := by kernel_rfl
theorem tyE : RowTy LE 22 49 := rowTy Try.underlying22 _ 32 infoEntry rfl (by decide)
theorem tyV : RowTy LV 32 51 := rowTy Try.underlying32 _ 16 infoEvent rfl (by decide)
theorem tyN : RowTy LN 23 3 := rowTy Try.underlying23 _ 8 infoInt rfl (by decide)
theorem Row.ent {w : World} {ad : Option Addr} {l : List En} (h : Row LE w ad l) (j : Nat) (hj : j < l.length) : ∃ b off, ad = some ⟨b, off, none⟩ ∧ w.cell? ⟨b, off + j * 4, none⟩ = some (.int .i64 l[j].t) ∧ w.cell? ⟨b, off + j * 4 + 1, none⟩ = some (.int .i64 l[j].q) ∧ w.cell? ⟨b, off + j * 4 + 2, none⟩ = some (.int .i64 l[j].h) ∧ w.cell? ⟨b, off + j * 4 + 3, none⟩ = some (.bool l[j].d) := by
  obtain ⟨b, off, e, c⟩ := h j hj
  exact ⟨b, off, e, c 0 _ rfl, c 1 _ rfl, c 2 _ rfl, c 3 _ rfl⟩
theorem Row.ev {w : World} {ad : Option Addr} {l : List Ev} (h : Row LV w ad l) (j : Nat) (hj : j < l.length) : ∃ b off, ad = some ⟨b, off, none⟩ ∧ w.cell? ⟨b, off + j * 2, none⟩ = some (.int .i64 l[j].t) ∧ w.cell? ⟨b, off + j * 2 + 1, none⟩ = some (.int .i64 l[j].h) := by
  obtain ⟨b, off, e, c⟩ := h j hj
  exact ⟨b, off, e, c 0 _ rfl, c 1 _ rfl⟩
theorem Row.num {w : World} {ad : Option Addr} {l : List Int} (h : Row LN w ad l) (j : Nat) (hj : j < l.length) : ∃ b off, ad = some ⟨b, off, none⟩ ∧ w.cell? ⟨b, off + j, none⟩ = some (.int .i64 l[j]) := by
  obtain ⟨b, off, e, c⟩ := h j hj
  have := c 0 _ rfl
  rw [show LN.k = 1 from rfl, Nat.mul_one, Nat.add_zero] at this
  exact ⟨b, off, e, this⟩
theorem ent_cells {w : World} {b : Nat} {x : En} {e : TypeId} {f : Nat × Nat} (h : w.heap[b]? = some (.cells #[.int .i64 x.t, .int .i64 x.q, .int .i64 x.h, .bool x.d] e f)) : Row LE w (some ⟨b, 0, none⟩) [x] := by
  intro j hj
  obtain rfl : j = 0 := by simp at hj; omega
  refine ⟨b, 0, rfl, fun t u hu => ?_⟩
  rw [cell_block h]
  simp only [List.getElem_cons_zero] at hu
  have ht := LE.lt hu
  rw [show 0 + 0 * LE.k + t = t by omega]
  simpa [LE] using hu
theorem ev_cells {w : World} {b : Nat} {x : Ev} {e : TypeId} {f : Nat × Nat} (h : w.heap[b]? = some (.cells #[.int .i64 x.t, .int .i64 x.h] e f)) : Row LV w (some ⟨b, 0, none⟩) [x] := by
  intro j hj
  obtain rfl : j = 0 := by simp at hj; omega
  refine ⟨b, 0, rfl, fun t u hu => ?_⟩
  rw [cell_block h]
  simp only [List.getElem_cons_zero] at hu
  have ht := LV.lt hu
  rw [show 0 + 0 * LV.k + t = t by omega]
  simpa [LV] using hu
theorem num_cells {w : World} {b : Nat} {x : Int} {e : TypeId} {f : Nat × Nat} (h : w.heap[b]? = some (.cells #[.int .i64 x] e f)) : Row LN w (some ⟨b, 0, none⟩) [x] := by
  intro j hj
  obtain rfl : j = 0 := by simp at hj; omega
  refine ⟨b, 0, rfl, fun t u hu => ?_⟩
  rw [cell_block h]
  simp only [List.getElem_cons_zero] at hu
  have ht := LN.lt hu
  rw [show 0 + 0 * LN.k + t = t by omega]
  simpa [LN] using hu
/-- A model in memory. -/
structure MdR where
  cap : Int
  es : SlR En
  nx : Int
  is : SlR Int
def MdR.md (m : MdR) : Md := ⟨m.cap, m.es.l, m.nx, m.is.l⟩
def cellsM (m : MdR) : Array Value := #[.int .i64 m.cap, .slice m.es.ad m.es.l.length m.es.cap, .int .i64 m.nx, .slice m.is.ad m.is.l.length m.is.cap]
def encM (m : MdR) : Value := .agg (cellsM m)
structure HasM (w : World) (m : MdR) : Prop where
  es : HasS LE w m.es
  is : HasS LN w m.is
theorem HasM.stay {w w' : World} {m : MdR} (h : HasM w m) (hu : Upd [] w w') : HasM w' m := ⟨h.es.stay hu, h.is.stay hu⟩
/-- A result in memory. -/
structure RsR where
  e : Int
  h : Int
  c : Bool
  ev : SlR Ev
def RsR.rs (r : RsR) : Rs := ⟨r.e, r.h, r.c, r.ev.l⟩
def cellsR (r : RsR) : Array Value := #[.int .i64 r.e, .int .i64 r.h, .bool r.c, .slice r.ev.ad r.ev.l.length r.ev.cap]
def encR (r : RsR) : Value := .agg (cellsR r)
def encC (c : Ca) : Value := .agg #[.int .i64 c.k, .int .i64 c.t, .int .i64 c.h, .int .i64 c.m, .int .i64 c.b]
/-- The model lies outside of block b. -/
structure AvM (m : MdR) (b : Nat) : Prop where
  es : AvS m.es b
  is : AvS m.is b
theorem HasM.avoids {w : World} {m : MdR} (h : HasM w m) {b : Nat} (hb : w.heap.size ≤ b) : AvM m b := ⟨h.es.avoids hb, h.is.avoids hb⟩
/-- What a call gives, from the model m0: a model and a result. -/
structure DidM (m0 : MdR) (w : World) (g : Md) (s : Rs) (w' : World) (m : MdR) (r : RsR) : Prop where
  md : m.md = g
  rs : r.rs = s
  has : HasM w' m
  ev : HasS LV w' r.ev
  av : ∀ b, b < w.heap.size → AvM m0 b → AvM m b ∧ AvS r.ev b
  upd : Upd [] w w'
def GivesM (m0 : MdR) (p : Md × Rs) (w : World) (e : Ending) (w' : World) : Prop := ∃ m r, e = .returned (.tuple #[encM m, encR r]) ∧ DidM m0 w p.1 p.2 w' m r
theorem DidM.enter {m0 : MdR} {w0 w w' : World} {g : Md} {s : Rs} {m : MdR} {r : RsR} (h : DidM m0 w g s w' m r) (hu : Upd [] w0 w) : DidM m0 w0 g s w' m r := ⟨h.md, h.rs, h.has, h.ev, fun b hb ha => h.av b (Nat.lt_of_lt_of_le hb hu.size) ha, hu.thn h.upd⟩
theorem DidM.stay {m0 : MdR} {w w' w2 : World} {g : Md} {s : Rs} {m : MdR} {r : RsR} (h : DidM m0 w g s w' m r) (hu : Upd [] w' w2) : DidM m0 w g s w2 m r := ⟨h.md, h.rs, h.has.stay hu, h.ev.stay hu, h.av, h.upd.thn hu⟩
theorem av_any {α : Type} {L : Lay α} {w : World} {base n : Nat} {e : TypeId} {ad : Option Addr} {cap : Nat} {l : List α} (h : w.ownsRow base e L.k (.slice ad n cap) n (L.flat l)) {b : Nat} (hb : b < base) : AvS (⟨l, ad, cap⟩ : SlR α) b := fun _ a ea => by
  obtain ⟨_, ad', cap', e', _, hg⟩ := hasS_row (L := L) h
  simp only [Value.slice.injEq, true_and] at e'
  obtain ⟨rfl, rfl⟩ := e'
  have := hg a ea
  omega
end Go.Proofs.Ytpneljhplbkdkaa
