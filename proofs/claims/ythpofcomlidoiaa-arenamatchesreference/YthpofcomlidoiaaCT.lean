/- Contract: step of the laws; scripts of operations in memory. -/
import Derived.Test.YthpofcomlidoiaaCR
import Derived.Test.YthpofcomlidoiaaCS
namespace Go.Proofs.Ythpofcomlidoiaa
open Go.RowKit Go.Lib

theorem step_has (r : ArR) (ad : Option Addr) (cap : Nat) (is : List Int) (o : Oz) (w : World) (ha : HasA w r) (hg : Good r.ar) (hi : HasI w ad cap is) (hl : is.length ≤ 100000) (ho : OzOk o) :
    Calls Try.prog 27 #[encA r, .slice ad is.length cap, encO o] w (GivesStep r ad is (stepA r.ar is o) w) := by
  by_cases h01 : o.k % 4 = 0 ∨ o.k % 4 = 1
  · exact step_alloc r ad cap is o w ha hg hi hl ho h01
  · by_cases h2 : o.k % 4 = 2
    · exact step_trans r ad cap is o w ha hg hi hl ho h2
    · exact step_rel r ad cap is o w ha hg hi hl ho ⟨h01, h2⟩

/-- The slice at ad holds the operations os. -/
def Ozs (w : World) (ad : Option Addr) (os : List Oz) : Prop := ∀ j (h : j < os.length), OzOk os[j] ∧ ∃ b off, ad = some ⟨b, off, none⟩ ∧
  w.cell? ⟨b, off + j * 4, none⟩ = some (.int .u8 os[j].k) ∧ w.cell? ⟨b, off + j * 4 + 1, none⟩ = some (.int .i64 os[j].n) ∧ w.cell? ⟨b, off + j * 4 + 2, none⟩ = some (.int .u8 os[j].a) ∧ w.cell? ⟨b, off + j * 4 + 3, none⟩ = some (.int .u8 os[j].b)
theorem Ozs.stay {w w' : World} {ad : Option Addr} {os : List Oz} (h : Ozs w ad os) (hu : Upd [] w w') : Ozs w' ad os := by
  intro j hj
  obtain ⟨h0, b, off, rfl, c0, c1, c2, c3⟩ := h j hj
  exact ⟨h0, b, off, rfl, hu.cell c0 (by simp), hu.cell c1 (by simp), hu.cell c2 (by simp), hu.cell c3 (by simp)⟩
/-- The arena r' in the box P, the handles at ad', both made by a step. -/
structure Stepped (w : World) (r : ArR) (ad : Option Addr) (is : List Int) (a' : Ar) (is' : List Int) (P : Nat) (ad' : Option Addr) (cap' : Nat) (wx : World) (r' : ArR) : Prop where
  bx : Boxed w r a' P wx r'
  hi : HasI wx ad' cap' is'
  av : ∀ b, b < w.heap.size → AvoidsI ad is b → AvoidsI ad' is' b
theorem stepped_last {w w4 : World} {r r' : ArR} {ad ad' : Option Addr} {is is' : List Int} {cap' : Nat} {a' : Ar} (h : Nxt w r a' w4 r') (hi : HasI w4 ad' cap' is') (ha : ∀ b, b < w.heap.size → AvoidsI ad is b → AvoidsI ad' is' b) :
    Stepped w r ad is a' is' w4.heap.size ad' cap' (w4.alloc (.cells (cellsA r') 25)) r' :=
  ⟨boxed_last h, hi.stay ((Upd.refl _ _).alloc _), ha⟩
theorem stepped_first {w w4 : World} {r r' : ArR} {ad ad' : Option Addr} {is is' : List Int} {cap cap' : Nat} {a' : Ar} {x y z : Value} (hr : HasA w r) (hi0 : HasI w ad cap is) (h : Nxt (w.alloc (.cells #[x, y, z] 25)) r a' w4 r') (hi : HasI w4 ad' cap' is') (ha : ∀ b, b < (w.alloc (.cells #[x, y, z] 25)).heap.size → AvoidsI ad is b → AvoidsI ad' is' b) :
    Stepped w r ad is a' is' w.heap.size ad' cap' (((w4.setCell ⟨w.heap.size, 0, none⟩ (.slice r'.sa r'.ar.sl.length r'.sc)).setCell ⟨w.heap.size, 1, none⟩ (.slice r'.ia r'.ar.id.length r'.ic)).setCell ⟨w.heap.size, 2, none⟩ (.int .i64 r'.ar.nx)) r' :=
  ⟨boxed_first hr h, hi.keep1 (upd_set3 w4 w.heap.size _ _ _) (ha _ (by simp) (hi0.avoids (Nat.le_refl _))), fun b hb => ha b (by simp; omega)⟩
/-- The state of Made's loop: the result's box H, the arena's box P. -/
structure MadeAt (w : World) (H P : Nat) (p : Ar × List Int) (r : ArR) (ad : Option Addr) (cap : Nat) (wr : World) : Prop where
  eq : r.ar = p.1
  rb : wr.heap[H]? = some (.cells #[.slice none 0 0, .slice none 0 0, .int .i64 0] 25 (0, 0))
  bx : wr.heap[P]? = some (.cells (cellsA r) 25 (0, 0))
  has : HasA wr r
  his : HasI wr ad cap p.2
  avH : Avoids r H ∧ AvoidsI ad p.2 H
  avP : Avoids r P ∧ AvoidsI ad p.2 P
  upd : Upd [] w wr
  av : ∀ b, b < w.heap.size → Avoids r b ∧ AvoidsI ad p.2 b
  ge : w.heap.size ≤ H ∧ w.heap.size ≤ P ∧ H ≠ P
theorem MadeAt.step {w wr wx w5 : World} {H P Q : Nat} {p : Ar × List Int} {r r' : ArR} {ad ad' : Option Addr} {cap cap' : Nat} {a' : Ar} {is' : List Int} (h : MadeAt w H P p r ad cap wr) (hs : Stepped wr r ad p.2 a' is' Q ad' cap' wx r') (hu : Upd [P] wx w5) (hb : w5.heap[P]? = some (.cells (cellsA r') 25 (0, 0))) : MadeAt w H P (a', is') r' ad' cap' w5 := by
  have hPl := lt_block h.bx
  have hHl := lt_block h.rb
  have a1 := hs.bx.nxt.av P hPl h.avP.1
  have a2 := hs.av P hPl h.avP.2
  have hge := h.ge
  have hsz := h.upd.size
  exact ⟨hs.bx.nxt.eq, hu.at (hs.bx.nxt.upd.at h.rb (by simp)) (by simp; omega), hb, hs.bx.nxt.has.keep1 hu a1, hs.hi.keep1 hu a2, ⟨hs.bx.nxt.av H hHl h.avH.1, hs.av H hHl h.avH.2⟩, ⟨a1, a2⟩, (h.upd.trans hs.bx.nxt.upd (by simp)).trans hu (fun x hx hl => by simp at hx; omega), fun b hb => ⟨hs.bx.nxt.av b (by omega) (h.av b hb).1, hs.av b (by omega) (h.av b hb).2⟩, hge⟩
/-- What Made gives. -/
structure MadeOf (w : World) (p : Ar × List Int) (w' : World) (r' : ArR) (ad' : Option Addr) (cap' : Nat) : Prop where
  eq : r'.ar = p.1
  has : HasA w' r'
  his : HasI w' ad' cap' p.2
  av : ∀ b, b < w.heap.size → Avoids r' b ∧ AvoidsI ad' p.2 b
  upd : Upd [] w w'
theorem MadeAt.done {w wr w5 : World} {H P : Nat} {p : Ar × List Int} {r : ArR} {ad : Option Addr} {cap : Nat} (h : MadeAt w H P p r ad cap wr) (hu : Upd [H] wr w5) : MadeOf w p w5 r ad cap :=
  ⟨h.eq, h.has.keep1 hu h.avH.1, h.his.keep1 hu h.avH.2, h.av, h.upd.trans hu (fun x hx hl => by have := h.ge; simp at hx; omega)⟩
end Go.Proofs.Ythpofcomlidoiaa
