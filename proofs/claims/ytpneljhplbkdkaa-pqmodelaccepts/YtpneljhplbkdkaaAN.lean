
/- Layer 10: a scenario's steps in memory; a call whose two answers are boxed beside it. -/
import Derived.Test.YtpneljhplbkdkaaAM
import Derived.Test.YtpneljhplbkdkaaAK
namespace Go.Proofs.Ytpneljhplbkdkaa
open Go.RowKit Go.Lib

/-- A step: a call and the handle that is offered. -/
structure St where
  c : Ca
  h : Int
def LP : Lay St := ⟨6, fun s => [.int .i64 s.c.k, .int .i64 s.c.t, .int .i64 s.c.h, .int .i64 s.c.m, .int .i64 s.c.b, .int .i64 s.h], fun _ => rfl, fun s v hv => by
  simp only [List.mem_cons, List.not_mem_nil, or_false] at hv
  rcases hv with rfl | rfl | rfl | rfl | rfl | rfl <;> rfl, by decide⟩
theorem Row.stp {w : World} {ad : Option Addr} {l : List St} (h : Row LP w ad l) (j : Nat) (hj : j < l.length) : ∃ b off, ad = some ⟨b, off, none⟩ ∧ w.cell? ⟨b, off + j * 6, none⟩ = some (.int .i64 l[j].c.k) ∧ w.cell? ⟨b, off + j * 6 + 1, none⟩ = some (.int .i64 l[j].c.t) ∧ w.cell? ⟨b, off + j * 6 + 2, none⟩ = some (.int .i64 l[j].c.h) ∧ w.cell? ⟨b, off + j * 6 + 3, none⟩ = some (.int .i64 l[j].c.m) ∧ w.cell? ⟨b, off + j * 6 + 4, none⟩ = some (.int .i64 l[j].c.b) ∧ w.cell? ⟨b, off + j * 6 + 5, none⟩ = some (.int .i64 l[j].h) := by
  obtain ⟨b, off, e, c⟩ := h j hj
  exact ⟨b, off, e, c 0 _ rfl, c 1 _ rfl, c 2 _ rfl, c 3 _ rfl, c 4 _ rfl, c 5 _ rfl⟩
/-- A scenario. -/
def runM (m : Md) (l : List St) : Md := l.foldl (fun m s => (doM m s.c s.h).1) m
theorem runM_succ (m : Md) (l : List St) {k : Nat} (hk : k < l.length) : runM m (l.take (k + 1)) = (doM (runM m (l.take k)) l[k].c l[k].h).1 := by
  unfold runM
  rw [List.take_succ_eq_append_getElem hk, List.foldl_append]
  rfl
theorem doM_grow (m : Md) (c : Ca) (h : Int) : (doM m c h).1.is.length ≤ m.is.length + 1 := by
  unfold doM insM canM batM
  split
  · split
    · simp
    · split
      · simp
      · split
        · simp
        · simp
  · split
    · split <;> simp
    · split
      · split <;> simp
      · simp
theorem runM_ok {m : Md} (hm : OkM m) : ∀ (l : List St), OkM (runM m l) ∧ (runM m l).is.length ≤ m.is.length + l.length
  | [] => ⟨hm, by simp [runM]⟩
  | s :: l => by
    have h1 := runM_ok (doM_ok hm s.c s.h) l
    have h2 := doM_grow m s.c s.h
    refine ⟨h1.1, ?_⟩
    have h3 := h1.2
    show (runM (doM m s.c s.h).1 l).is.length ≤ _
    simp only [List.length_cons]
    omega
/-- The model that Made gives. -/
def madeM (c : Int) (l : List St) : Md := runM (newM (c % 64 + 1)).1 (l.take 100)
theorem madeM_ok (c : Int) (l : List St) : OkM (madeM c l) ∧ (madeM c l).is.length ≤ 100 := by
  have h := runM_ok (newM_ok (n := c % 64 + 1) (by omega)) (l.take 100)
  refine ⟨h.1, ?_⟩
  have h2 : (newM (c % 64 + 1)).1.is.length = 0 := by unfold newM; split <;> rfl
  have h3 := h.2
  rw [h2, List.length_take] at h3
  unfold madeM
  omega
/-- A call's answers, boxed. -/
structure Box2 (w : World) (m0 : MdR) (g : Md) (s : Rs) (P Q : Nat) (wx : World) (x : MdR) (y : RsR) : Prop where
  bp : wx.heap[P]? = some (.cells (cellsM x) 25 (0, 0))
  bq : wx.heap[Q]? = some (.cells (cellsR y) 34 (0, 0))
  did : DidM m0 w g s wx x y
  gp : w.heap.size ≤ P
  gq : w.heap.size ≤ Q
theorem HasS.many {α : Type} {L : Lay α} {w w' : World} {s : SlR α} {S : List Nat} (h : HasS L w s) (hu : Upd S w w') (hS : ∀ b ∈ S, AvS s b) : HasS L w' s :=
  ⟨h.row.keep hu (fun hn a e hm => hS _ hm hn a e rfl), h.le, h.nn⟩
theorem box2_fin {wr wc w' wx : World} {m0 : MdR} {g : Md} {s : Rs} {x : MdR} {y : RsR} {P Q : Nat} {S : List Nat} (hm : HasM wr m0) (hc : Upd [] wr wc) (hD : DidM m0 wc g s w' x y) (hu : Upd S w' wx) (hS : ∀ b ∈ S, wr.heap.size ≤ b ∧ b < wc.heap.size) (bp : wx.heap[P]? = some (.cells (cellsM x) 25 (0, 0))) (bq : wx.heap[Q]? = some (.cells (cellsR y) 34 (0, 0))) (gp : wr.heap.size ≤ P) (gq : wr.heap.size ≤ Q) : Box2 wr m0 g s P Q wx x y := by
  have hav : ∀ b ∈ S, AvM x b ∧ AvS y.ev b := fun b hb => hD.av b (hS b hb).2 (hm.avoids (hS b hb).1)
  exact ⟨bp, bq, ⟨hD.md, hD.rs, ⟨hD.has.es.many hu (fun b hb => (hav b hb).1.es), hD.has.is.many hu (fun b hb => (hav b hb).1.is)⟩, hD.ev.many hu (fun b hb => (hav b hb).2), fun b hb ha => hD.av b (Nat.lt_of_lt_of_le hb hc.size) ha, (hc.thn hD.upd).trans hu (fun b hb hl => absurd hl (by have := (hS b hb).1; omega))⟩, gp, gq⟩
theorem b2_none {wr wc w' : World} {m0 : MdR} {g : Md} {s : Rs} {x : MdR} {y : RsR} (hm : HasM wr m0) (hc : Upd [] wr wc) (hD : DidM m0 wc g s w' x y) : Box2 wr m0 g s w'.heap.size (w'.heap.size + 1) ((w'.alloc (.cells #[.int .i64 x.cap, .slice x.es.ad x.es.l.length x.es.cap, .int .i64 x.nx, .slice x.is.ad x.is.l.length x.is.cap] 25)).alloc (.cells #[.int .i64 y.e, .int .i64 y.h, .bool y.c, .slice y.ev.ad y.ev.l.length y.ev.cap] 34)) x y := by
  have h0 := hc.size; have h1 := hD.upd.size
  obtain ⟨hu, p0, p1, _⟩ := two_boxes w' (.cells #[.int .i64 x.cap, .slice x.es.ad x.es.l.length x.es.cap, .int .i64 x.nx, .slice x.is.ad x.is.l.length x.is.cap] 25) (.cells #[.int .i64 y.e, .int .i64 y.h, .bool y.c, .slice y.ev.ad y.ev.l.length y.ev.cap] 34)
  exact box2_fin (S := []) hm hc hD hu (fun b hb => by simp at hb) p0 p1 (by omega) (by omega)
theorem b2_enon {wr wc w' : World} {m0 : MdR} {g : Md} {s : Rs} {x : MdR} {y : RsR} (hm : HasM wr m0) (hc : Upd [] wr wc) (hD : DidM m0 wc g s w' x y) : Box2 wr m0 g s (w'.heap.size + 1) w'.heap.size ((w'.alloc (.cells #[.int .i64 y.e, .int .i64 y.h, .bool y.c, .slice y.ev.ad y.ev.l.length y.ev.cap] 34)).alloc (.cells #[.int .i64 x.cap, .slice x.es.ad x.es.l.length x.es.cap, .int .i64 x.nx, .slice x.is.ad x.is.l.length x.is.cap] 25)) x y := by
  have h0 := hc.size; have h1 := hD.upd.size
  obtain ⟨hu, p0, p1, _⟩ := two_boxes w' (.cells #[.int .i64 y.e, .int .i64 y.h, .bool y.c, .slice y.ev.ad y.ev.l.length y.ev.cap] 34) (.cells #[.int .i64 x.cap, .slice x.es.ad x.es.l.length x.es.cap, .int .i64 x.nx, .slice x.is.ad x.is.l.length x.is.cap] 25)
  exact box2_fin (S := []) hm hc hD hu (fun b hb => by simp at hb) p1 p0 (by omega) (by omega)
theorem b2_mod {wr wc w' : World} {m0 : MdR} {g : Md} {s : Rs} {x : MdR} {y : RsR} (hm : HasM wr m0) (hc : Upd [] wr wc) (hD : DidM m0 wc g s w' x y) {P : Nat} (hP : wr.heap.size ≤ P) (hl : P < wc.heap.size) {a1 a2 a3 a4 : Value} (pb : w'.heap[P]? = some (.cells #[a1, a2, a3, a4] 25 (0, 0))) : Box2 wr m0 g s P w'.heap.size (((((w'.setCell ⟨P, 0, none⟩ (.int .i64 x.cap)).setCell ⟨P, 1, none⟩ (.slice x.es.ad x.es.l.length x.es.cap)).setCell ⟨P, 2, none⟩ (.int .i64 x.nx)).setCell ⟨P, 3, none⟩ (.slice x.is.ad x.is.l.length x.is.cap)).alloc (.cells #[.int .i64 y.e, .int .i64 y.h, .bool y.c, .slice y.ev.ad y.ev.l.length y.ev.cap] 34)) x y := by
  have h0 := hc.size; have h1 := hD.upd.size
  have k1 := stored4 pb (.int .i64 x.cap) (.slice x.es.ad x.es.l.length x.es.cap) (.int .i64 x.nx) (.slice x.is.ad x.is.l.length x.is.cap)
  have u1 := upd_set4 w' P (.int .i64 x.cap) (.slice x.es.ad x.es.l.length x.es.cap) (.int .i64 x.nx) (.slice x.is.ad x.is.l.length x.is.cap)
  have hsz : ((((w'.setCell ⟨P, 0, none⟩ (.int .i64 x.cap)).setCell ⟨P, 1, none⟩ (.slice x.es.ad x.es.l.length x.es.cap)).setCell ⟨P, 2, none⟩ (.int .i64 x.nx)).setCell ⟨P, 3, none⟩ (.slice x.is.ad x.is.l.length x.is.cap)).heap.size = w'.heap.size := by simp
  with_reducible generalize (((w'.setCell ⟨P, 0, none⟩ (.int .i64 x.cap)).setCell ⟨P, 1, none⟩ (.slice x.es.ad x.es.l.length x.es.cap)).setCell ⟨P, 2, none⟩ (.int .i64 x.nx)).setCell ⟨P, 3, none⟩ (.slice x.is.ad x.is.l.length x.is.cap) = w1 at k1 u1 hsz ⊢
  have hal := (Upd.refl [] w1).alloc (.cells #[.int .i64 y.e, .int .i64 y.h, .bool y.c, .slice y.ev.ad y.ev.l.length y.ev.cap] 34)
  have q1 := heap_alloc1 w1 (.cells #[.int .i64 y.e, .int .i64 y.h, .bool y.c, .slice y.ev.ad y.ev.l.length y.ev.cap] 34)
  rw [hsz] at q1
  exact box2_fin (S := [P]) hm hc hD (u1.trans hal (by simp)) (fun b hb => by simp at hb; subst hb; exact ⟨hP, hl⟩) (hal.at k1 (by simp)) q1 hP (by omega)
theorem b2_res {wr wc w' : World} {m0 : MdR} {g : Md} {s : Rs} {x : MdR} {y : RsR} (hm : HasM wr m0) (hc : Upd [] wr wc) (hD : DidM m0 wc g s w' x y) {Q : Nat} (hQ : wr.heap.size ≤ Q) (hl : Q < wc.heap.size) {b1 b2 b3 b4 : Value} (qb : w'.heap[Q]? = some (.cells #[b1, b2, b3, b4] 34 (0, 0))) : Box2 wr m0 g s w'.heap.size Q (((((w'.setCell ⟨Q, 0, none⟩ (.int .i64 y.e)).setCell ⟨Q, 1, none⟩ (.int .i64 y.h)).setCell ⟨Q, 2, none⟩ (.bool y.c)).setCell ⟨Q, 3, none⟩ (.slice y.ev.ad y.ev.l.length y.ev.cap)).alloc (.cells #[.int .i64 x.cap, .slice x.es.ad x.es.l.length x.es.cap, .int .i64 x.nx, .slice x.is.ad x.is.l.length x.is.cap] 25)) x y := by
  have h0 := hc.size; have h1 := hD.upd.size
  have k1 := stored4 qb (.int .i64 y.e) (.int .i64 y.h) (.bool y.c) (.slice y.ev.ad y.ev.l.length y.ev.cap)
  have u1 := upd_set4 w' Q (.int .i64 y.e) (.int .i64 y.h) (.bool y.c) (.slice y.ev.ad y.ev.l.length y.ev.cap)
  have hsz : ((((w'.setCell ⟨Q, 0, none⟩ (.int .i64 y.e)).setCell ⟨Q, 1, none⟩ (.int .i64 y.h)).setCell ⟨Q, 2, none⟩ (.bool y.c)).setCell ⟨Q, 3, none⟩ (.slice y.ev.ad y.ev.l.length y.ev.cap)).heap.size = w'.heap.size := by simp
  with_reducible generalize (((w'.setCell ⟨Q, 0, none⟩ (.int .i64 y.e)).setCell ⟨Q, 1, none⟩ (.int .i64 y.h)).setCell ⟨Q, 2, none⟩ (.bool y.c)).setCell ⟨Q, 3, none⟩ (.slice y.ev.ad y.ev.l.length y.ev.cap) = w1 at k1 u1 hsz ⊢
  have hal := (Upd.refl [] w1).alloc (.cells #[.int .i64 x.cap, .slice x.es.ad x.es.l.length x.es.cap, .int .i64 x.nx, .slice x.is.ad x.is.l.length x.is.cap] 25)
  have q1 := heap_alloc1 w1 (.cells #[.int .i64 x.cap, .slice x.es.ad x.es.l.length x.es.cap, .int .i64 x.nx, .slice x.is.ad x.is.l.length x.is.cap] 25)
  rw [hsz] at q1
  exact box2_fin (S := [Q]) hm hc hD (u1.trans hal (by simp)) (fun b hb => by simp at hb; subst hb; exact ⟨hQ, hl⟩) q1 (hal.at k1 (by simp)) (by omega) hQ
theorem b2_two {wr wc w' : World} {m0 : MdR} {g : Md} {s : Rs} {x : MdR} {y : RsR} (hm : HasM wr m0) (hc : Upd [] wr wc) (hD : DidM m0 wc g s w' x y) {P Q : Nat} (hn : P ≠ Q) (hP : wr.heap.size ≤ P) (hl : P < wc.heap.size) (hQ : wr.heap.size ≤ Q) (hl2 : Q < wc.heap.size) {a1 a2 a3 a4 : Value} (pb : w'.heap[P]? = some (.cells #[a1, a2, a3, a4] 25 (0, 0))) {b1 b2 b3 b4 : Value} (qb : w'.heap[Q]? = some (.cells #[b1, b2, b3, b4] 34 (0, 0))) : Box2 wr m0 g s P Q ((((((((w'.setCell ⟨P, 0, none⟩ (.int .i64 x.cap)).setCell ⟨P, 1, none⟩ (.slice x.es.ad x.es.l.length x.es.cap)).setCell ⟨P, 2, none⟩ (.int .i64 x.nx)).setCell ⟨P, 3, none⟩ (.slice x.is.ad x.is.l.length x.is.cap)).setCell ⟨Q, 0, none⟩ (.int .i64 y.e)).setCell ⟨Q, 1, none⟩ (.int .i64 y.h)).setCell ⟨Q, 2, none⟩ (.bool y.c)).setCell ⟨Q, 3, none⟩ (.slice y.ev.ad y.ev.l.length y.ev.cap)) x y := by
  have k1 := stored4 pb (.int .i64 x.cap) (.slice x.es.ad x.es.l.length x.es.cap) (.int .i64 x.nx) (.slice x.is.ad x.is.l.length x.is.cap)
  have u1 := upd_set4 w' P (.int .i64 x.cap) (.slice x.es.ad x.es.l.length x.es.cap) (.int .i64 x.nx) (.slice x.is.ad x.is.l.length x.is.cap)
  with_reducible generalize (((w'.setCell ⟨P, 0, none⟩ (.int .i64 x.cap)).setCell ⟨P, 1, none⟩ (.slice x.es.ad x.es.l.length x.es.cap)).setCell ⟨P, 2, none⟩ (.int .i64 x.nx)).setCell ⟨P, 3, none⟩ (.slice x.is.ad x.is.l.length x.is.cap) = w1 at k1 u1 ⊢
  have k2 := stored4 (u1.at qb (by simp; omega)) (.int .i64 y.e) (.int .i64 y.h) (.bool y.c) (.slice y.ev.ad y.ev.l.length y.ev.cap)
  have u2 := upd_set4 w1 Q (.int .i64 y.e) (.int .i64 y.h) (.bool y.c) (.slice y.ev.ad y.ev.l.length y.ev.cap)
  with_reducible generalize (((w1.setCell ⟨Q, 0, none⟩ (.int .i64 y.e)).setCell ⟨Q, 1, none⟩ (.int .i64 y.h)).setCell ⟨Q, 2, none⟩ (.bool y.c)).setCell ⟨Q, 3, none⟩ (.slice y.ev.ad y.ev.l.length y.ev.cap) = w2 at k2 u2 ⊢
  exact box2_fin (S := [P, Q]) hm hc hD ((u1.mono (by simp)).trans u2 (by simp)) (fun b hb => by simp at hb; rcases hb with rfl | rfl <;> constructor <;> assumption) (u2.at k1 (by simp; omega)) k2 hP hQ
/-- Where Made stands: the model lies in box P. -/
structure MadeAt (w : World) (H P : Nat) (g : Md) (wr : World) (x : MdR) : Prop where
  rb : wr.heap[H]? = some (.cells #[.int .i64 0, .slice none 0 0, .int .i64 0, .slice none 0 0] 25 (0, 0))
  bx : wr.heap[P]? = some (.cells (cellsM x) 25 (0, 0))
  md : x.md = g
  has : HasM wr x
  avH : AvM x H
  avP : AvM x P
  upd : Upd [] w wr
  av : ∀ b, b < w.heap.size → AvM x b
  ge : w.heap.size ≤ H ∧ w.heap.size ≤ P ∧ H ≠ P
theorem MadeAt.step {w wr wx w5 : World} {H P P2 Q2 : Nat} {g g2 : Md} {s : Rs} {x x2 : MdR} {y : RsR} (h : MadeAt w H P g wr x) (hb : Box2 wr x g2 s P2 Q2 wx x2 y) (hu : Upd [P] wx w5) (bx : w5.heap[P]? = some (.cells (cellsM x2) 25 (0, 0))) : MadeAt w H P g2 w5 x2 := by
  have hPl := lt_block h.bx
  have hHl := lt_block h.rb
  have a1 := (hb.did.av P hPl h.avP).1
  have hge := h.ge
  have hsz := h.upd.size
  exact ⟨hu.at (hb.did.upd.at h.rb (by simp)) (by simp; omega), bx, hb.did.md, ⟨hb.did.has.es.keep1 hu a1.es, hb.did.has.is.keep1 hu a1.is⟩, (hb.did.av H hHl h.avH).1, a1, (h.upd.thn hb.did.upd).trans hu (fun x hx hl => by simp at hx; omega), fun b hb2 => (hb.did.av b (by omega) (h.av b hb2)).1, hge⟩
/-- What Made gives. -/
structure MadeOf (w : World) (g : Md) (w' : World) (x : MdR) : Prop where
  md : x.md = g
  has : HasM w' x
  av : ∀ b, b < w.heap.size → AvM x b
  upd : Upd [] w w'
theorem MadeAt.done {w wr w5 : World} {H P : Nat} {g : Md} {x : MdR} (h : MadeAt w H P g wr x) (hu : Upd [H] wr w5) : MadeOf w g w5 x :=
  ⟨h.md, ⟨h.has.es.keep1 hu h.avH.es, h.has.is.keep1 hu h.avH.is⟩, h.av, h.upd.trans hu (fun x hx hl => by have := h.ge; simp at hx; omega)⟩
end Go.Proofs.Ytpneljhplbkdkaa
