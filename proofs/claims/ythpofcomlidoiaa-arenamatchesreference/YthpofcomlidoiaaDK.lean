/- A drawn region that only reads, whose callees keep what is old: walked once. -/
import Derived.Test.YthpofcomlidoiaaF
import Derived.Deep.QuietTactic
import Derived.BigQuiet
namespace Go.Proofs.Ythpofcomlidoiaa
open Go.RowKit

/-- A world in which nothing of w has turned. -/
structure Kept (w : World) where
  x : World
  up : Upd [] w x
instance (w : World) : Inhabited (Kept w) := ⟨⟨w, Upd.refl [] w⟩⟩
theorem wp_region_quiet_kept {P : Program} {id : Nat} {Q : Exit → Act → World → Prop} {a : Act} {w : World} {l : List Oper} (hm : P.follows .mixedOrders = true) (hB : Region.lexB .any l.toArray = true)
    (h : wpQuiet P l.toArray (fun w' => ∃ p : Kept w, w' = p.x) (fun a' => ∀ w', (∃ p : Kept w, w' = p.x) → Q .normal a' w') l a) : (Code.region id l.toArray true).wp P Q a w :=
  wp_region_quiet (C := fun w' => ∃ p : Kept w, w' = p.x) hm hB ⟨⟨w.drew, (Upd.refl [] w).drew⟩, rfl⟩ (by simpa using h)
theorem kept_cell {w : World} {b o : Nat} {c : Array Value} {t : TypeId} {f : Nat × Nat} {v : Value} (h : w.heap[b]? = some (.cells c t f)) (hv : c[o]? = some v) (p : Kept w) : p.x.cell? ⟨b, o, none⟩ = some v :=
  (cell_block (p.up.at h (by simp)) o).trans hv
theorem kept3 {w : World} {b : Nat} {x y z : Value} {t : TypeId} {f : Nat × Nat} (h : w.heap[b]? = some (.cells #[x, y, z] t f)) : (∀ p : Kept w, p.x.cell? ⟨b, 0, none⟩ = some x) ∧ (∀ p : Kept w, p.x.cell? ⟨b, 1, none⟩ = some y) ∧ (∀ p : Kept w, p.x.cell? ⟨b, 2, none⟩ = some z) :=
  ⟨fun p => kept_cell h rfl p, fun p => kept_cell h rfl p, fun p => kept_cell h rfl p⟩
theorem kept4 {w : World} {b : Nat} {x y z q : Value} {t : TypeId} {f : Nat × Nat} (h : w.heap[b]? = some (.cells #[x, y, z, q] t f)) : (∀ p : Kept w, p.x.cell? ⟨b, 0, none⟩ = some x) ∧ (∀ p : Kept w, p.x.cell? ⟨b, 1, none⟩ = some y) ∧ (∀ p : Kept w, p.x.cell? ⟨b, 2, none⟩ = some z) ∧ (∀ p : Kept w, p.x.cell? ⟨b, 3, none⟩ = some q) :=
  ⟨fun p => kept_cell h rfl p, fun p => kept_cell h rfl p, fun p => kept_cell h rfl p, fun p => kept_cell h rfl p⟩
/-- A callee's contract, met in a world of the class. -/
theorem calls_kept {P : Program} {f : FuncId} {args : Array Value} {w : World} {p : Kept w} {v : Value}
    (h : Calls P f args p.x fun e w' => e = .returned v ∧ Upd [] p.x w') : Calls P f args p.x fun e w'' => e = .returned v ∧ ∃ q : Kept w, w'' = q.x :=
  h.mono fun _ w'' ⟨he, hu⟩ => ⟨he, ⟨⟨w'', p.up.trans hu (by simp)⟩, rfl⟩⟩
end Go.Proofs.Ythpofcomlidoiaa
