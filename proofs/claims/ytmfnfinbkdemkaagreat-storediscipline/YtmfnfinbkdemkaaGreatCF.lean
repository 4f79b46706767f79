
/- Contract: the reference's Release. An arena that a call gives, kept in a box of the caller's own. -/
import Derived.Test.YtmfnfinbkdemkaaGreatCE
namespace Go.Proofs.YtmfnfinbkdemkaaGreat.A5
open Go.RowKit Go.Lib

def cellsA (r : ArR) : Array Value := #[.slice r.sa r.ar.sl.length r.sc, .slice r.ia r.ar.id.length r.ic, .int .i64 r.ar.nx]
/-- The box P holds the arena r', which a call made out of r. -/
structure Boxed (w : World) (r : ArR) (a' : Ar) (P : Nat) (wx : World) (r' : ArR) : Prop where
  blk : wx.heap[P]? = some (.cells (cellsA r') 45 (0, 0))
  ge : w.heap.size ≤ P
  nxt : Nxt w r a' wx r'
  av : Avoids r' P
theorem boxed_last {w w4 : World} {r r' : ArR} {a' : Ar} (h : Nxt w r a' w4 r') : Boxed w r a' w4.heap.size (w4.alloc (.cells (cellsA r') 45)) r' :=
  ⟨heap_alloc1 _ _, h.upd.size, ⟨h.eq, h.has.stay ((Upd.refl _ _).alloc _), h.av, h.upd.trans ((Upd.refl [] _).alloc _) (by simp)⟩, h.has.avoids (Nat.le_refl _)⟩
theorem boxed_first {w w4 : World} {r r' : ArR} {a' : Ar} {x y z : Value} (hr : HasA w r) (h : Nxt (w.alloc (.cells #[x, y, z] 45)) r a' w4 r') :
    Boxed w r a' w.heap.size (((w4.setCell ⟨w.heap.size, 0, none⟩ (.slice r'.sa r'.ar.sl.length r'.sc)).setCell ⟨w.heap.size, 1, none⟩ (.slice r'.ia r'.ar.id.length r'.ic)).setCell ⟨w.heap.size, 2, none⟩ (.int .i64 r'.ar.nx)) r' := by
  have h1 := h.upd.at (heap_alloc1 w _) (by simp)
  have h2 := upd_set3 w4 w.heap.size (.slice r'.sa r'.ar.sl.length r'.sc) (.slice r'.ia r'.ar.id.length r'.ic) (.int .i64 r'.ar.nx)
  have h3 := h.av w.heap.size (by simp) (hr.avoids (Nat.le_refl _))
  exact ⟨stored3 h1 _ _ _, Nat.le_refl _, ⟨h.eq, h.has.keep1 h2 h3, fun b hb ha => h.av b (by simp; omega) ha, (((Upd.refl [] w).alloc _).trans h.upd (by simp)).trans h2 (fun x hx hl => by simp at hx; omega)⟩, h3⟩
theorem Nxt.of_upd {w w0 : World} {r : ArR} {a' : Ar} {w' : World} {r' : ArR} (h : Nxt w0 r a' w' r') (hu : Upd [] w w0) : Nxt w r a' w' r' :=
  ⟨h.eq, h.has, fun b hb ha => h.av b (by have := hu.size; omega) ha, hu.trans h.upd (by simp)⟩
theorem nxt_set {w w' : World} {r : ArR} {i : Nat} {s : Sl} {sa : Option Addr} {sc : Nat} (hA : HasA w' ⟨setS r.ar i s, sa, sc, r.ia, r.ic⟩) (hs : ∀ a, sa = some a → w.heap.size ≤ a.block) (hu : Upd [] w w') : Nxt w r (setS r.ar i s) w' ⟨setS r.ar i s, sa, sc, r.ia, r.ic⟩ :=
  ⟨rfl, hA, fun b hb ha => ⟨fun _ ad e => by have := hs ad e; omega, ha.2⟩, hu⟩

theorem row_ge {w : World} {base g n cap size : Nat} {e : TypeId} {xs : List Value} (h : w.ownsRow base e size (.slice (some ⟨g, 0, none⟩) n cap) n xs) : base ≤ g := by
  rcases h.2 with ⟨h1, _⟩ | ⟨g', cap', cur, h1, hb, _⟩
  · simp at h1
  · simp only [Value.slice.injEq, Option.some.injEq, Addr.mk.injEq] at h1
    omega
theorem row_cap {w : World} {base g n cap size : Nat} {e : TypeId} {xs : List Value} (h : w.ownsRow base e size (.slice (some ⟨g, 0, none⟩) n cap) n xs) : n ≤ cap := by
  rcases h.2 with ⟨h1, _⟩ | ⟨g', cap', cur, h1, _, _, hc, _⟩
  · simp at h1
  · simp only [Value.slice.injEq] at h1
    omega
end Go.Proofs.YtmfnfinbkdemkaaGreat.A5
