/- Rungs in memory: a row of buckets, each a row of items. -/
/- General facts on rungs in memory, of no function: what contracts of both sides lean on. -/
import Derived.Test.YtpabapjodcafkaaGreatNB
import Derived.Test.YtpabapjodcafkaaGreatGC
import Derived.Laws.StructEq
namespace Go.Proofs.YtpabapjodcafkaaGreat
open Go.RowKit Go.Lib

def LI : Lay It := ⟨3, fun x => [.int .i64 x.t, .int .i64 x.q, .int .i64 x.s], fun _ => rfl, fun x v hv => by
  simp only [List.mem_cons, List.not_mem_nil, or_false] at hv
  rcases hv with rfl | rfl | rfl <;> rfl, by decide⟩
def LB : Lay (SlR It) := ⟨1, fun s => [.slice s.ad s.l.length s.cap], fun _ => rfl, fun x v hv => by
  simp only [List.mem_cons, List.not_mem_nil, or_false] at hv
  rcases hv with rfl; rfl, by decide⟩
def aggI (x : It) : Value := .agg #[.int .i64 x.t, .int .i64 x.q, .int .i64 x.s]
theorem infoItem : (Tryz.prog.info? 38).map (fun i => (i.zero, i.size, i.bytes)) = some (some (.agg #[.int .i64 0, .int .i64 0, .int .i64 0]), 3, 24) := by kernel_rfl
theorem infoItems : (Tryz.prog.info? 26).map (fun i => (i.zero, i.size, i.bytes)) = some (some (.slice none 0 0), 1, 24) := by kernel_rfl
theorem tyI : RowTy LI 26 38 := rowTy Tryz.underlying26 _ 24 infoItem rfl (by decide)
theorem tyB : RowTy LB 57 26 := rowTy Tryz.underlying57 _ 24 infoItems rfl (by decide)
theorem Row.item {w : World} {ad : Option Addr} {l : List It} (h : Row LI w ad l) (j : Nat) (hj : j < l.length) : ∃ b off, ad = some ⟨b, off, none⟩ ∧ w.cell? ⟨b, off + j * 3, none⟩ = some (.int .i64 l[j].t) ∧ w.cell? ⟨b, off + j * 3 + 1, none⟩ = some (.int .i64 l[j].q) ∧ w.cell? ⟨b, off + j * 3 + 2, none⟩ = some (.int .i64 l[j].s) := by
  obtain ⟨b, off, e, c⟩ := h j hj
  exact ⟨b, off, e, c 0 _ rfl, c 1 _ rfl, c 2 _ rfl⟩
theorem Row.bucket {w : World} {ad : Option Addr} {l : List (SlR It)} (h : Row LB w ad l) (j : Nat) (hj : j < l.length) : ∃ b off, ad = some ⟨b, off, none⟩ ∧ w.cell? ⟨b, off + j, none⟩ = some (.slice l[j].ad l[j].l.length l[j].cap) := by
  obtain ⟨b, off, e, c⟩ := h j hj
  have c0 := c 0 _ rfl
  rw [show off + j * LB.k + 0 = off + j from by show off + j * 1 + 0 = _; omega] at c0
  exact ⟨b, off, e, c0⟩

/-- A rung as it lies. -/
structure RgR where
  fr : Int
  wd : Int
  cu : Int
  bk : SlR (SlR It)
def rowsOf (l : List (SlR It)) : List (List It) := l.map SlR.l
def RgR.rg (r : RgR) : Rg := ⟨r.fr, r.wd, r.cu, rowsOf r.bk.l⟩
theorem rowsOf_length (l : List (SlR It)) : (rowsOf l).length = l.length := by simp [rowsOf]
theorem rowsOf_get {l : List (SlR It)} {j : Nat} (h : j < l.length) : (rowsOf l)[j]'(by rw [rowsOf_length]; exact h) = l[j].l := by simp [rowsOf]
theorem rowsOf_at {l : List (SlR It)} {j : Nat} (h : j < l.length) : bAt (rowsOf l) j = l[j].l := by rw [bAt_get (by rw [rowsOf_length]; exact h), rowsOf_get h]
theorem rowsOf_set (l : List (SlR It)) (i : Nat) (s : SlR It) : rowsOf (l.set i s) = (rowsOf l).set i s.l := by simp [rowsOf]
def encR (r : RgR) : Value := .agg #[.int .i64 r.fr, .int .i64 r.wd, .int .i64 r.cu, .slice r.bk.ad r.bk.l.length r.bk.cap]
def cellsR (r : RgR) : Array Value := #[.int .i64 r.fr, .int .i64 r.wd, .int .i64 r.cu, .slice r.bk.ad r.bk.l.length r.bk.cap]
structure HasR (w : World) (r : RgR) : Prop where
  bk : HasS LB w r.bk
  its : ∀ s ∈ r.bk.l, HasS LI w s
theorem HasR.at {w : World} {r : RgR} (h : HasR w r) {j : Nat} (hj : j < r.bk.l.length) : HasS LI w r.bk.l[j] := h.its _ (List.getElem_mem hj)
theorem HasR.stay {w w' : World} {r : RgR} (h : HasR w r) (hu : Upd [] w w') : HasR w' r := ⟨h.bk.stay hu, fun s hs => (h.its s hs).stay hu⟩
/-- The rung lies outside of block b. -/
structure AvR (r : RgR) (b : Nat) : Prop where
  bk : AvS r.bk b
  its : ∀ s ∈ r.bk.l, AvS s b
theorem HasR.keep1 {w w' : World} {r : RgR} {b : Nat} (h : HasR w r) (hu : Upd [b] w w') (ha : AvR r b) : HasR w' r := ⟨h.bk.keep1 hu ha.bk, fun s hs => (h.its s hs).keep1 hu (ha.its s hs)⟩
theorem HasR.avoids {w : World} {r : RgR} (h : HasR w r) {b : Nat} (hb : w.heap.size ≤ b) : AvR r b := ⟨h.bk.avoids hb, fun s hs => (h.its s hs).avoids hb⟩
/-- From the rung r in w a call came to the rung r' in w', which holds g. -/
structure Nxt (w : World) (r : RgR) (g : Rg) (w' : World) (r' : RgR) : Prop where
  eq : r'.rg = g
  has : HasR w' r'
  av : ∀ b, b < w.heap.size → AvR r b → AvR r' b
  upd : Upd [] w w'
theorem Nxt.same {w w' : World} {r : RgR} (h : HasR w r) (hu : Upd [] w w') : Nxt w r r.rg w' r := ⟨rfl, h.stay hu, fun _ _ h => h, hu⟩
theorem Nxt.of_upd {w w0 : World} {r : RgR} {g : Rg} {w' : World} {r' : RgR} (h : Nxt w0 r g w' r') (hu : Upd [] w w0) : Nxt w r g w' r' :=
  ⟨h.eq, h.has, fun b hb ha => h.av b (by have := hu.size; omega) ha, hu.thn h.upd⟩
theorem Nxt.up {w : World} {r : RgR} {g : Rg} {w' w2 : World} {r' : RgR} (h : Nxt w r g w' r') (hu : Upd [] w' w2) : Nxt w r g w2 r' :=
  ⟨h.eq, h.has.stay hu, h.av, h.upd.thn hu⟩
/-- A rung made anew: nothing of it is older than w. -/
structure Born (w : World) (g : Rg) (w' : World) (r' : RgR) : Prop where
  eq : r'.rg = g
  has : HasR w' r'
  av : ∀ b, b < w.heap.size → AvR r' b
  upd : Upd [] w w'
/-- What a call gives of items. -/
structure Gave (w : World) (r : RgR) (l : List It) (w' : World) (s : SlR It) : Prop where
  eq : s.l = l
  has : HasS LI w' s
  av : ∀ b, b < w.heap.size → AvR r b → AvS s b
theorem zeroR_has (w : World) : HasR w ⟨0, 0, 0, ⟨[], none, 0⟩⟩ := ⟨hasS_nil LB w, fun s hs => by simp at hs⟩
end Go.Proofs.YtpabapjodcafkaaGreat
namespace Go.Proofs.YtpabapjodcafkaaGreat
open Go.RowKit Go.Lib
theorem madeOne (v : Value) (n : Nat) : madeCells #[v] (n * 1) = (List.replicate n v).toArray := by
  apply Array.ext
  · simp [madeCells]
  · intro i h1 h2
    simp [madeCells, Nat.mod_one]
def nilB : SlR It := ⟨[], none, 0⟩
theorem held_made {w : World} {g : Nat} (h : w.heap[g]? = some (.cells (List.replicate 8 (Value.slice none 0 0)).toArray 26 (0, 0))) : Held LB 26 w g 8 (List.replicate 8 nilB) :=
  ⟨⟨_, h, rfl, rfl⟩, by simp⟩
theorem guardItem : Tryz.prog.eqGuardType Tryz.prog.depth 38 = false := by kernel_rfl
theorem eqlItem (x y : It) (w : World) : (binOp .eql 38 (.agg #[.int .i64 x.t, .int .i64 x.q, .int .i64 x.s]) (.agg #[.int .i64 y.t, .int .i64 y.q, .int .i64 y.s])).run Tryz.prog w = .ok (.bool (decide (x = y))) w := by
  have u3 := Tryz.underlying3
  have a3 := Tryz.isAgg3
  have z3 := Tryz.sizeOf3
  have hS : Tryz.prog.underlying 38 = some (.struct (Tryz.prog.fieldsOf 38)) := by kernel_rfl
  have hp : Tryz.prog.stoodInHeld 38 = false := by kernel_rfl
  obtain ⟨t, q, s⟩ := x
  obtain ⟨t', q', s'⟩ := y
  rw [run_eql_struct, show (10000 : Nat) = 9999 + 1 from rfl, run_equalIn_agg w 9999 38 _ _ hS hp]
  simp only [Program.fieldsOf, Tryz.underlying38]
  go_simp
  by_cases h2 : s = s' <;> by_cases h3 : t = t' <;> by_cases h4 : q = q' <;> simp [h2, h3, h4]
theorem neqItem (x y : It) (w : World) : (binOp .neq 38 (.agg #[.int .i64 x.t, .int .i64 x.q, .int .i64 x.s]) (.agg #[.int .i64 y.t, .int .i64 y.q, .int .i64 y.s])).run Tryz.prog w = .ok (.bool (!decide (x = y))) w := by
  have h := eqlItem x y w
  rw [run_eql_struct] at h
  rw [run_neq_struct]
  generalize (Op.equalIn 10000 38 (.agg #[.int .i64 x.t, .int .i64 x.q, .int .i64 x.s]) (.agg #[.int .i64 y.t, .int .i64 y.q, .int .i64 y.s])).run Tryz.prog w = r at h ⊢
  cases r with
  | ok b w' => simp only [Result.andThen_ok, Result.ok.injEq, Value.bool.injEq] at h ⊢; obtain ⟨rfl, rfl⟩ := h; simp
  | halt e w' => simp [Result.andThen] at h

def withR (r : RgR) (i : Nat) (s : SlR It) (g cap : Nat) : RgR := ⟨r.fr, r.wd, r.cu, ⟨r.bk.l.set i s, some ⟨g, 0, none⟩, cap⟩⟩
theorem with_nxt {w w' : World} {r : RgR} {i : Nat} {s : SlR It} {g cap : Nat} (h : HasR w' (withR r i s g cap)) (hg : w.heap.size ≤ g) (hu : Upd [] w w') (hs : ∀ b, b < w.heap.size → AvR r b → AvS s b) : Nxt w r ⟨r.fr, r.wd, r.cu, r.rg.bs.set i s.l⟩ w' (withR r i s g cap) :=
  ⟨by simp [RgR.rg, withR, rowsOf_set], h, fun b hb ha => ⟨fun _ a e => by obtain rfl := Option.some.inj e; simp only; omega, fun x hx => by
    rcases List.mem_or_eq_of_mem_set hx with h | h
    · exact ha.its x h
    · rw [h]; exact hs b hb ha⟩, hu⟩
def GivesRB (r : RgR) (p : Rg × Bool) (w : World) (e : Ending) (w' : World) : Prop := ∃ r', e = .returned (.tuple #[encR r', .bool p.2]) ∧ Nxt w r p.1 w' r'
theorem row_one {w : World} {b : Nat} {it : It} {e : TypeId} {f : Nat × Nat} (h : w.heap[b]? = some (.cells #[.int .i64 it.t, .int .i64 it.q, .int .i64 it.s] e f)) : Row LI w (some ⟨b, 0, none⟩) [it] := by
  intro j hj
  obtain rfl : j = 0 := by simp at hj; omega
  refine ⟨b, 0, rfl, fun t u hu => ?_⟩
  rw [cell_block h]
  simp only [List.getElem_cons_zero] at hu
  have ht := LI.lt hu
  rw [show 0 + 0 * LI.k + t = t by omega]
  simpa [LI] using hu
theorem ar_one (it : It) : (LI.enc it) = [.int .i64 it.t, .int .i64 it.q, .int .i64 it.s] := rfl
def GivesRN (r : RgR) (p : Rg × List It × Int × Bool) (w : World) (e : Ending) (w' : World) : Prop := ∃ (r' : RgR) (s : SlR It), e = .returned (.tuple #[encR r', .slice s.ad s.l.length s.cap, .int .i64 p.2.2.1, .bool p.2.2.2]) ∧ Nxt w r p.1 w' r' ∧ Gave w r p.2.1 w' s
theorem withR_len (r : RgR) (i : Nat) (s : SlR It) (g cap : Nat) : (withR r i s g cap).bk.l.length = r.bk.l.length := by simp [withR]
def nilS : SlR It := ⟨[], none, 0⟩
/-- What Valid asks of a bucket. -/
def BOk (r : Rg) (i : Nat) : Prop := ((i : Int) < r.cu → bAt r.bs i = []) ∧ ∀ it ∈ bAt r.bs i, InB r i it
structure Shp (r : Rg) : Prop where
  fr0 : 0 ≤ r.fr
  fr1 : r.fr ≤ 1152921504606846976
  wd0 : 1 ≤ r.wd
  wd1 : r.wd ≤ 144115188075855873
  cu0 : 0 ≤ r.cu
  cu1 : r.cu ≤ 8
  len : r.bs.length = 8
theorem good_iff (r : Rg) : GoodR r ↔ Shp r ∧ ∀ i, i < 8 → BOk r i := by
  constructor
  · intro h
    exact ⟨⟨h.fr0, h.fr1, h.wd0, h.wd1, h.cu0, h.cu1, h.len⟩, fun i hi => ⟨h.low i hi, h.inb i hi⟩⟩
  · rintro ⟨h, k⟩
    exact ⟨h.fr0, h.fr1, h.wd0, h.wd1, h.cu0, h.cu1, h.len, fun i hi => (k i hi).1, fun i hi => (k i hi).2⟩
theorem ret_valid {r : Rg} {b : Bool} (h : b = validR r) : Ending.returned (.bool b) = .returned (.bool (validR r)) := by rw [h]
theorem bad_shp {r : Rg} (h : ¬ Shp r) : false = validR r := (validR_no.2 (fun k => h ((good_iff r).1 k).1)).symm
theorem bad_bok {r : Rg} {i : Nat} (hi : i < 8) (h : ¬ BOk r i) : false = validR r := (validR_no.2 (fun k => h (((good_iff r).1 k).2 i hi))).symm
theorem good_all {r : Rg} (h : Shp r) (k : ∀ i, i < 8 → BOk r i) : true = validR r := (validR_yes.2 ((good_iff r).2 ⟨h, k⟩)).symm
theorem bok_of {r : Rg} {i : Nat} {l : List It} (h : bAt r.bs i = l) (h1 : (i : Int) < r.cu → l = []) (h2 : ∀ k (hk : k < l.length), InB r i l[k]) : BOk r i := by
  subst h
  exact ⟨h1, fun it hit => by obtain ⟨k, hk, rfl⟩ := List.mem_iff_getElem.1 hit; exact h2 k hk⟩
theorem not_bok1 {r : Rg} {i : Nat} {l : List It} (h : bAt r.bs i = l) (h1 : (i : Int) < r.cu) (h2 : l ≠ []) : ¬ BOk r i := fun k => h2 (h ▸ k.1 h1)
theorem not_bok2 {r : Rg} {i : Nat} {l : List It} (h : bAt r.bs i = l) {k : Nat} (hk : k < l.length) (h2 : ¬ InB r i l[k]) : ¬ BOk r i := fun q => h2 (q.2 _ (by subst h; exact List.getElem_mem hk))

def U64 (x : Int) : Prop := 0 ≤ x ∧ x < 18446744073709551616
/-- The box Q holds the rung r', which a call made out of r. -/
structure Boxed (w : World) (r : RgR) (g : Rg) (Q : Nat) (wx : World) (r' : RgR) : Prop where
  blk : wx.heap[Q]? = some (.cells (cellsR r') 59 (0, 0))
  ge : w.heap.size ≤ Q
  nxt : Nxt w r g wx r'
  av : AvR r' Q
theorem boxed_last {w w1 w4 : World} {r r' : RgR} {g : Rg} (h : Nxt w1 r g w4 r') (hu : Upd [] w w1) : Boxed w r g w4.heap.size (w4.alloc (.cells (cellsR r') 59)) r' :=
  ⟨heap_alloc1 _ _, Nat.le_trans hu.size h.upd.size, (h.of_upd hu).up ((Upd.refl _ _).alloc _), h.has.avoids (Nat.le_refl _)⟩
theorem boxed_at {w w1 w4 : World} {r r' : RgR} {g : Rg} {Q : Nat} {x y z p : Value} (hr : HasR w r) (hQ : w1.heap[Q]? = some (.cells #[x, y, z, p] 59 (0, 0))) (h : Nxt w1 r g w4 r') (hu : Upd [] w w1) (hge : w.heap.size ≤ Q) :
    Boxed w r g Q ((((w4.setCell ⟨Q, 0, none⟩ (.int .i64 r'.fr)).setCell ⟨Q, 1, none⟩ (.int .i64 r'.wd)).setCell ⟨Q, 2, none⟩ (.int .i64 r'.cu)).setCell ⟨Q, 3, none⟩ (.slice r'.bk.ad r'.bk.l.length r'.bk.cap)) r' := by
  have h1 := h.upd.at hQ (by simp)
  have h2 := upd_set4 w4 Q (.int .i64 r'.fr) (.int .i64 r'.wd) (.int .i64 r'.cu) (.slice r'.bk.ad r'.bk.l.length r'.bk.cap)
  have h3 := h.av Q (lt_block hQ) (hr.avoids hge)
  exact ⟨stored4 h1 _ _ _ _, hge, ⟨h.eq, h.has.keep1 h2 h3, fun b hb ha => h.av b (by have := hu.size; omega) ha, (hu.thn h.upd).new h2 hge⟩, h3⟩
/-- What Small answers. -/
def SmallPost (bl : List (SlR It)) (w : World) (e : Ending) (w' : World) : Prop := ∃ b, e = .returned (.bool b) ∧ (b = true → bl.length ≤ 20 ∧ ∀ s ∈ bl, s.l.length ≤ 200) ∧ Upd [] w w'
end Go.Proofs.YtpabapjodcafkaaGreat
