
/- Ladder queues in memory. -/
import Derived.Test.YtpabapjodcafkaaGreatGD
import Derived.Test.YtpabapjodcafkaaGreatNE
namespace Go.Proofs.YtpabapjodcafkaaGreat
open Go.RowKit Go.Lib
def LR : Lay RgR := ⟨4, fun r => [.int .i64 r.fr, .int .i64 r.wd, .int .i64 r.cu, .slice r.bk.ad r.bk.l.length r.bk.cap], fun _ => rfl, fun x v hv => by
  simp only [List.mem_cons, List.not_mem_nil, or_false] at hv
  rcases hv with rfl | rfl | rfl | rfl <;> rfl, by decide⟩
theorem infoRung : (Tryz.prog.info? 59).map (fun i => (i.zero, i.size, i.bytes)) = some (some (.agg #[.int .i64 0, .int .i64 0, .int .i64 0, .slice none 0 0]), 4, 48) := by kernel_rfl
theorem tyR : RowTy LR 40 59 := rowTy Tryz.underlying40 _ 48 infoRung rfl (by decide)
theorem Row.rung {w : World} {ad : Option Addr} {l : List RgR} (h : Row LR w ad l) (j : Nat) (hj : j < l.length) : ∃ b off, ad = some ⟨b, off, none⟩ ∧ w.cell? ⟨b, off + j * 4, none⟩ = some (.int .i64 l[j].fr) ∧ w.cell? ⟨b, off + j * 4 + 1, none⟩ = some (.int .i64 l[j].wd) ∧ w.cell? ⟨b, off + j * 4 + 2, none⟩ = some (.int .i64 l[j].cu) ∧ w.cell? ⟨b, off + j * 4 + 3, none⟩ = some (.slice l[j].bk.ad l[j].bk.l.length l[j].bk.cap) := by
  obtain ⟨b, off, e, c⟩ := h j hj
  exact ⟨b, off, e, c 0 _ rfl, c 1 _ rfl, c 2 _ rfl, c 3 _ rfl⟩
/-- A ladder queue as it lies. -/
structure LdR where
  ts : Int
  top : SlR It
  rs : SlR RgR
  bot : SlR It
  mv : Int
  cp : Int
def LdR.ld (l : LdR) : Ld := ⟨l.ts, l.top.l, l.rs.l.map RgR.rg, l.bot.l, l.mv, l.cp⟩
def cellsD (l : LdR) : Array Value := #[.int .i64 l.ts, .slice l.top.ad l.top.l.length l.top.cap, .slice l.rs.ad l.rs.l.length l.rs.cap, .slice l.bot.ad l.bot.l.length l.bot.cap, .int .i64 l.mv, .int .i64 l.cp]
def encD (l : LdR) : Value := .agg (cellsD l)
structure HasD (w : World) (l : LdR) : Prop where
  top : HasS LI w l.top
  rs : HasS LR w l.rs
  rg : ∀ r ∈ l.rs.l, HasR w r
  bot : HasS LI w l.bot
theorem HasD.stay {w w' : World} {l : LdR} (h : HasD w l) (hu : Upd [] w w') : HasD w' l := ⟨h.top.stay hu, h.rs.stay hu, fun r hr => (h.rg r hr).stay hu, h.bot.stay hu⟩
structure AvD (l : LdR) (b : Nat) : Prop where
  top : AvS l.top b
  rs : AvS l.rs b
  rg : ∀ r ∈ l.rs.l, AvR r b
  bot : AvS l.bot b
theorem HasD.keep1 {w w' : World} {l : LdR} {b : Nat} (h : HasD w l) (hu : Upd [b] w w') (ha : AvD l b) : HasD w' l := ⟨h.top.keep1 hu ha.top, h.rs.keep1 hu ha.rs, fun r hr => (h.rg r hr).keep1 hu (ha.rg r hr), h.bot.keep1 hu ha.bot⟩
theorem HasD.avoids {w : World} {l : LdR} (h : HasD w l) {b : Nat} (hb : w.heap.size ≤ b) : AvD l b := ⟨h.top.avoids hb, h.rs.avoids hb, fun r hr => (h.rg r hr).avoids hb, h.bot.avoids hb⟩
/-- From the queue l in w a call came to the queue l' in w', which holds g. -/
structure NxtD (w : World) (l : LdR) (g : Ld) (w' : World) (l' : LdR) : Prop where
  eq : l'.ld = g
  has : HasD w' l'
  av : ∀ b, b < w.heap.size → AvD l b → AvD l' b
  upd : Upd [] w w'
theorem cells6 {w : World} {b : Nat} {x y z p q r : Value} {t : TypeId} {f : Nat × Nat} (h : w.heap[b]? = some (.cells #[x, y, z, p, q, r] t f)) : w.cell? ⟨b, 0, none⟩ = some x ∧ w.cell? ⟨b, 1, none⟩ = some y ∧ w.cell? ⟨b, 2, none⟩ = some z ∧ w.cell? ⟨b, 3, none⟩ = some p ∧ w.cell? ⟨b, 4, none⟩ = some q ∧ w.cell? ⟨b, 5, none⟩ = some r := ⟨cell_block h 0, cell_block h 1, cell_block h 2, cell_block h 3, cell_block h 4, cell_block h 5⟩
theorem free6 {w : World} {b : Nat} {c : Array Value} {t : TypeId} (h : w.heap[b]? = some (.cells c t (0, 0))) : w.frozen? ⟨b, 0, none⟩ = false ∧ w.frozen? ⟨b, 1, none⟩ = false ∧ w.frozen? ⟨b, 2, none⟩ = false ∧ w.frozen? ⟨b, 3, none⟩ = false ∧ w.frozen? ⟨b, 4, none⟩ = false ∧ w.frozen? ⟨b, 5, none⟩ = false := ⟨free_block h 0, free_block h 1, free_block h 2, free_block h 3, free_block h 4, free_block h 5⟩
theorem stored6 {w : World} {b : Nat} {x y z p q r : Value} {t : TypeId} {f : Nat × Nat} (h : w.heap[b]? = some (.cells #[x, y, z, p, q, r] t f)) (u v s a c d : Value) :
    ((((((w.setCell ⟨b, 0, none⟩ u).setCell ⟨b, 1, none⟩ v).setCell ⟨b, 2, none⟩ s).setCell ⟨b, 3, none⟩ a).setCell ⟨b, 4, none⟩ c).setCell ⟨b, 5, none⟩ d).heap[b]? = some (.cells #[u, v, s, a, c, d] t f) := setCell_block (setCell_block (setCell_block (setCell_block (setCell_block (setCell_block h _) _) _) _) _) _
theorem upd_set6 (w : World) (b : Nat) (u v s a c d : Value) : Upd [b] w ((((((w.setCell ⟨b, 0, none⟩ u).setCell ⟨b, 1, none⟩ v).setCell ⟨b, 2, none⟩ s).setCell ⟨b, 3, none⟩ a).setCell ⟨b, 4, none⟩ c).setCell ⟨b, 5, none⟩ d) :=
  ((upd_set4 w b u v s a).setCell (p := ⟨b, 4, none⟩) (fun _ => by simp) _).setCell (p := ⟨b, 5, none⟩) (fun _ => by simp) _

/-- How many items the first k rungs hold. -/
def lenRs (rs : List Rg) (k : Nat) : Nat := ((rs.take k).map (fun r => lenL r.bs)).sum
theorem lenRs_succ {rs : List Rg} {k : Nat} (h : k < rs.length) : lenRs rs (k + 1) = lenRs rs k + lenL rs[k].bs := by
  unfold lenRs
  rw [List.take_succ_eq_append_getElem h, List.map_append, List.sum_append]
  simp only [List.map_cons, List.map_nil, List.sum_cons, List.sum_nil, Nat.add_zero]
theorem lenRs_le (rs : List Rg) (k : Nat) : lenRs rs k ≤ (rs.map (fun r => lenL r.bs)).sum := by
  unfold lenRs
  conv => rhs; rw [← List.take_append_drop k rs]
  rw [List.map_append, List.sum_append]
  omega
end Go.Proofs.YtpabapjodcafkaaGreat
