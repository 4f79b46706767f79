/- Contracts: the reference's Compare, CompareItems, place, Sort. -/
/- Contract: the reference's Sort. -/
import Derived.Test.YtmfnfinbkdemkaaGreatGE
import Derived.Test.YtmfnfinbkdemkaaGreatNA
namespace Go.Proofs.YtmfnfinbkdemkaaGreat
open Go.RowKit Go.Lib

def cmpZ (a b : Int) : Int := if a < b then -1 else if b < a then 1 else 0
theorem cmpI_eq (x y : It) : cmpI x y = if x.t = y.t then cmpZ x.q y.q else cmpZ x.t y.t := by
  have a1 : ltI x y ↔ x.t < y.t ∨ (x.t = y.t ∧ x.q < y.q) := Iff.rfl
  have a2 : ltI y x ↔ y.t < x.t ∨ (y.t = x.t ∧ y.q < x.q) := Iff.rfl
  unfold cmpI cmpZ
  by_cases h : x.t = y.t
  · rw [if_pos h]
    by_cases p : ltI x y
    · rw [if_pos p, if_pos (by have := a1.1 p; omega)]
    · rw [if_neg p, if_neg (fun k => p (a1.2 (.inr ⟨h, k⟩)))]
      by_cases q : ltI y x
      · rw [if_pos q, if_pos (by have := a2.1 q; omega)]
      · rw [if_neg q, if_neg (fun k => q (a2.2 (.inr ⟨h.symm, k⟩)))]
  · rw [if_neg h]
    by_cases p : ltI x y
    · rw [if_pos p, if_pos (by have := a1.1 p; omega)]
    · rw [if_neg p, if_neg (fun k => p (a1.2 (.inl k)))]
      by_cases q : ltI y x
      · rw [if_pos q, if_pos (by have := a2.1 q; omega)]
      · rw [if_neg q, if_neg (fun k => q (a2.2 (.inl k)))]
/-- A row that a call made, as a slice. -/
structure MadeS (w : World) (l : List It) (w' : World) (s : SlR It) : Prop where
  eq : s.l = l
  has : HasS LI w' s
  ge : ∀ a, s.ad = some a → w.heap.size ≤ a.block
  upd : Upd [] w w'
theorem Row.drop {L : Lay It} {w : World} {b off : Nat} {l : List It} (h : Row L w (some ⟨b, off, none⟩) l) (n : Nat) : Row L w (some ⟨b, off + n * L.k, none⟩) (l.drop n) := by
  intro j hj
  have hl : n + j < l.length := by simp at hj; omega
  obtain ⟨b', off', e, c⟩ := h (n + j) hl
  simp only [Option.some.injEq, Addr.mk.injEq, and_true] at e
  obtain ⟨rfl, rfl⟩ := e
  refine ⟨b, off + n * L.k, rfl, fun t u hu => ?_⟩
  rw [List.getElem_drop] at hu
  have := c t u hu
  rw [show off + n * L.k + j * L.k + t = off + (n + j) * L.k + t by rw [Nat.add_mul]; omega]
  exact this
theorem ret_slice {a : Option Addr} {n m c : Nat} (h : n = m) : Ending.returned (.slice a n c) = .returned (.slice a m c) := by rw [h]
theorem row_cells {w : World} {b : Nat} {it : It} {e : TypeId} {f : Nat × Nat} (h : w.heap[b]? = some (.cells #[.int .i64 it.t, .int .i64 it.q, .int .i64 it.s] e f)) : Row LI w (some ⟨b, 0, none⟩) [it] := by
  intro j hj
  obtain rfl : j = 0 := by simp at hj; omega
  refine ⟨b, 0, rfl, fun t u hu => ?_⟩
  rw [cell_block h]
  simp only [List.getElem_cons_zero] at hu
  have ht := LI.lt hu
  rw [show 0 + 0 * LI.k + t = t by omega]
  simpa [LI] using hu
end Go.Proofs.YtmfnfinbkdemkaaGreat
namespace Go.Proofs.YtmfnfinbkdemkaaGreat
open Go.RowKit Go.Lib

theorem sort_take_succ {l : List It} {i : Nat} (h : i < l.length) : sortI (l.take (i + 1)) = plI (sortI (l.take i)) l[i] := by
  unfold sortI
  rw [List.take_succ_eq_append_getElem h, List.foldl_append]
  rfl
end Go.Proofs.YtmfnfinbkdemkaaGreat
