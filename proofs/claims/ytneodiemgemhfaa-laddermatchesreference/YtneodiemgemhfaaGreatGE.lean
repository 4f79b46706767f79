/- Plain maths: refilling, Peek and Pop of a ladder queue; Pop takes the least. Nothing of the program. -/
/- Ladder queues in memory. -/
import Derived.Test.YtneodiemgemhfaaGreatND
import Derived.Test.YtneodiemgemhfaaGreatGD
namespace Go.Proofs.YtneodiemgemhfaaGreat

def More (l : Ld) : Prop := l.bot = [] ∧ (l.rs ≠ [] ∨ l.top ≠ [])
theorem more_dec (l : Ld) : More l ∨ ¬ More l := Classical.em _
open Classical in
noncomputable def refillN : Nat → Ld → Ld
  | 0, l => l
  | n + 1, l => if More l then refillN n (stepL l) else l
noncomputable def refillL (l : Ld) : Ld := refillN (mes l) l
theorem refillN_more {n : Nat} {l : Ld} (h : More l) : refillN (n + 1) l = refillN n (stepL l) := by rw [refillN, if_pos h]
theorem refillN_stop {n : Nat} {l : Ld} (h : ¬ More l) : refillN n l = l := by
  cases n with
  | zero => rfl
  | succ n => rw [refillN, if_neg h]
theorem more_mes {l : Ld} (hg : GoodL l) (h : More l) : 0 < mes l := by
  unfold mes
  rcases h.2 with hr | ht
  · obtain ⟨r, rs, e⟩ := List.exists_cons_of_ne_nil hr
    have hok := hg.rs
    rw [e] at hok ⊢
    have h8 := hok.1.good.cu1
    have h9 : 1 ≤ (9 - r.cu).toNat := by omega
    have := Nat.mul_le_mul_right (10 ^ 4) h9
    simp only [mesRs]
    omega
  · rw [if_neg ht]; omega
theorem refillN_eq : ∀ {n m : Nat} {l : Ld}, GoodL l → mes l ≤ n → mes l ≤ m → refillN n l = refillN m l
  | 0, m, l, hg, hn, _ => by
    have h : ¬ More l := fun h => by have := more_mes hg h; omega
    rw [refillN_stop h, refillN_stop h]
  | n + 1, 0, l, hg, _, hm => by
    have h : ¬ More l := fun h => by have := more_mes hg h; omega
    rw [refillN_stop h, refillN_stop h]
  | n + 1, m + 1, l, hg, hn, hm => by
    rcases more_dec l with h | h
    · have hs := step_ok hg h.1 h.2
      rw [refillN_more h, refillN_more h]
      have := hs.mes
      exact refillN_eq hs.good (by omega) (by omega)
    · rw [refillN_stop h, refillN_stop h]
theorem refill_step {l : Ld} (hg : GoodL l) (h : More l) : refillL l = refillL (stepL l) := by
  have hs := step_ok hg h.1 h.2
  have hm := hs.mes
  unfold refillL
  obtain ⟨k, hk⟩ : ∃ k, mes l = k + 1 := ⟨mes l - 1, by omega⟩
  rw [hk, refillN_more h]
  exact refillN_eq hs.good (by omega) (Nat.le_refl _)
theorem refill_stop {l : Ld} (h : ¬ More l) : refillL l = l := refillN_stop h
/-- What refilling brings. -/
structure Refilled (l l' : Ld) : Prop where
  good : GoodL l'
  its : (itemsL l').Perm (itemsL l)
  pot : pot l' ≤ pot l
  mv : l.mv ≤ l'.mv
  cp : l'.cp = l.cp
  fin : ¬ More l'
theorem refillN_ok : ∀ {n : Nat} {l : Ld}, GoodL l → mes l ≤ n → Refilled l (refillN n l)
  | n, l, hg, hn => by
    rcases more_dec l with h | h
    · have h0 := more_mes hg h
      obtain ⟨k, rfl⟩ : ∃ k, n = k + 1 := ⟨n - 1, by omega⟩
      have hs := step_ok hg h.1 h.2
      have hm := hs.mes
      have ih := refillN_ok (n := k) hs.good (by omega)
      rw [refillN_more h]
      exact ⟨ih.good, ih.its.trans hs.its, by have := ih.pot; have := hs.pot; omega, by have := ih.mv; have := hs.mv; omega, ih.cp.trans hs.cp, ih.fin⟩
    · rw [refillN_stop h]
      exact ⟨hg, List.Perm.refl _, Int.le_refl _, Int.le_refl _, rfl, h⟩
termination_by n => n
theorem refill_ok {l : Ld} (hg : GoodL l) : Refilled l (refillL l) := refillN_ok hg (Nat.le_refl _)
theorem refill_idem {l : Ld} (hg : GoodL l) : refillL (refillL l) = refillL l := refill_stop (refill_ok hg).fin
theorem empty_bot {l : Ld} (h : ¬ More l) (hb : l.bot = []) : itemsL l = [] := by
  have hr : l.rs = [] := Classical.byContradiction fun k => h ⟨hb, .inl k⟩
  have ht : l.top = [] := Classical.byContradiction fun k => h ⟨hb, .inr k⟩
  simp [itemsL, itsRs, hb, hr, ht]
def zeroI : It := ⟨0, 0, 0⟩
noncomputable def peekL (l : Ld) : Ld × It × Bool := match (refillL l).bot with
  | [] => (refillL l, zeroI, false)
  | x :: _ => (refillL l, x, true)
noncomputable def popL (l : Ld) : Ld × It × Bool := match (refillL l).bot with
  | [] => (refillL l, zeroI, false)
  | x :: xs => ({ refillL l with bot := xs }, x, true)
theorem peek_no {l : Ld} (h : (refillL l).bot = []) : peekL l = (refillL l, zeroI, false) ∧ popL l = (refillL l, zeroI, false) := by
  unfold peekL popL; rw [h]; exact ⟨rfl, rfl⟩
theorem peek_yes {l : Ld} {x : It} {xs : List It} (h : (refillL l).bot = x :: xs) : peekL l = (refillL l, x, true) ∧ popL l = ({ refillL l with bot := xs }, x, true) := by
  unfold peekL popL; rw [h]; exact ⟨rfl, rfl⟩
/-- Pop, by cases. -/
inductive Popped (l : Ld) : Prop
  | no (e : itemsL l = []) (p : popL l = (refillL l, zeroI, false)) (k : peekL l = (refillL l, zeroI, false))
  | yes (x : It) (l' : Ld) (p : popL l = (l', x, true)) (k : peekL l = (refillL l, x, true)) (good : GoodL l') (its : (x :: itemsL l').Perm (itemsL l)) (least : ∀ y ∈ itemsL l', ltI x y)
      (pot : pot l' ≤ pot l) (mv : l.mv ≤ l'.mv) (cp : l'.cp = l.cp) (bot : (refillL l).bot = x :: l'.bot)
theorem pop_ok {l : Ld} (hg : GoodL l) : Popped l := by
  have hR := refill_ok hg
  cases hb : (refillL l).bot with
  | nil =>
    have he := empty_bot hR.fin hb
    have h0 := hR.its
    rw [he] at h0
    exact .no (List.nil_perm.1 h0) (peek_no hb).2 (peek_no hb).1
  | cons x xs =>
    have hm := hR.good
    generalize hM : refillL l = m at *
    have hsub : ∀ y ∈ xs, y ∈ m.bot := fun y hy => by rw [hb]; exact List.mem_cons_of_mem _ hy
    have hsrt := hm.srt
    rw [hb] at hsrt
    have hperm : (x :: itemsL { m with bot := xs }).Perm (itemsL m) := by
      unfold itemsL
      rw [hb]
      simp only [List.append_assoc, List.cons_append]
      exact List.perm_middle.symm
    have hd : DistI (x :: itemsL { m with bot := xs }) := hm.dist.perm hperm.symm
    refine .yes x { m with bot := xs } (by rw [← hM]; exact (peek_yes (by rw [hM]; exact hb)).2) (peek_yes (by rw [hM]; exact hb)).1 ⟨hm.ts0, hm.ts1, hm.top, hm.len, hm.rs, fun y hy => hm.bot y (hsub y hy), (List.pairwise_cons.1 hsrt).2, (List.pairwise_cons.1 hd).2, hm.mv0, hm.cp0⟩ (hperm.trans hR.its) (fun y hy => ?_) hR.pot hR.mv hR.cp (by rw [hM, hb])
    have hx : x ∈ m.bot := by rw [hb]; exact List.mem_cons_self
    rcases List.mem_append.1 hy with hy | hy
    · rcases List.mem_append.1 hy with hy | hy
      · exact .inl (hm.before hx (.inl hy))
      · exact (List.pairwise_cons.1 hsrt).1 y hy
    · exact .inl (hm.before hx (.inr hy))
theorem Popped.sort {l l' : Ld} {x : It} (hg : GoodL l) (its : (x :: itemsL l').Perm (itemsL l)) (least : ∀ y ∈ itemsL l', ltI x y) : sortI (itemsL l) = x :: sortI (itemsL l') := by
  have hd : DistI (x :: itemsL l') := hg.dist.perm its.symm
  rw [← sortI_of_perm hd its]
  exact sortI_cons hd least
/-- What Pop gives hangs on the items alone. -/
theorem pop_item {l m : Ld} (hl : GoodL l) (hm : GoodL m) (hp : (itemsL l).Perm (itemsL m)) : (popL l).2 = (popL m).2 := by
  cases pop_ok hl with
  | no e p =>
    cases pop_ok hm with
    | no e' p' => rw [p, p']
    | yes x l' p' _ _ its =>
      rw [e] at hp
      have := (its.trans hp.symm).length_eq
      simp at this
  | yes x l' p _ _ its least =>
    cases pop_ok hm with
    | no e' p' =>
      rw [e'] at hp
      have := (its.trans hp).length_eq
      simp at this
    | yes y m' p' _ _ its' least' =>
      have h1 := Popped.sort hl its least
      have h2 := Popped.sort hm its' least'
      rw [sortI_of_perm hl.dist hp, h2] at h1
      rw [p, p', (List.cons.inj h1).1]
theorem pop_refill {l : Ld} (hg : GoodL l) : popL (refillL l) = popL l ∧ peekL (refillL l) = peekL l := by
  unfold popL peekL
  rw [refill_idem hg]
  exact ⟨rfl, rfl⟩
def lenD (l : Ld) : Nat := l.top.length + l.bot.length + (l.rs.map (fun r => lenL r.bs)).sum
theorem lenD_its (l : Ld) : lenD l = (itemsL l).length := by
  unfold lenD itemsL itsRs
  rw [List.length_append, List.length_append, List.length_flatten, List.map_map]
  congr 2
  refine List.map_congr_left fun r _ => ?_
  exact (itsR_length r).symm
theorem potRs_le : ∀ (rs : List Rg) (e : Nat), potRs e rs ≤ e * (rs.map (fun r => lenL r.bs)).sum
  | [], e => by simp [potRs]
  | r :: rs, e => by
    have ih := potRs_le rs (e - 1)
    simp only [potRs, List.map_cons, List.sum_cons, Nat.mul_add]
    have := Nat.mul_le_mul_right ((rs.map (fun r => lenL r.bs)).sum) (show e - 1 ≤ e by omega)
    omega
/-- A removal moves each item at most five times. -/
theorem pot_len (l : Ld) : pot l ≤ l.mv + 5 * lenD l := by
  have := potRs_le l.rs 4
  unfold pot lenD
  omega
theorem mv_pot (l : Ld) : l.mv ≤ pot l := by unfold pot; omega
theorem potRs_ins : ∀ (rs : List Rg) (e : Nat) (it : It) (b : Int), OkRs b rs → it.t < b → potRs e (insR rs it).1 ≤ potRs e rs + (if (insR rs it).2.2 then e else 0)
  | [], e, it, b, _, _ => by simp [insR, potRs]
  | r :: rs, e, it, b, h, hb => by
    by_cases hc : curT r ≤ it.t
    · have e1 : insR (r :: rs) it = ((putR r it).1 :: rs, 1, true) := by rw [insR, if_pos hc]
      have hl := put_len_le h.1.good it
      rw [e1]
      simp only [potRs, if_true]
      have := Nat.mul_le_mul_left e hl
      rw [Nat.mul_add, Nat.mul_one] at this
      omega
    · have e1 : insR (r :: rs) it = (r :: (insR rs it).1, (insR rs it).2.1 + 1, (insR rs it).2.2) := by rw [insR, if_neg hc]
      have ih := potRs_ins rs (e - 1) it (min b (curT r)) h.2 (by omega)
      rw [e1]
      simp only [potRs]
      split at ih
      · rename_i hh; rw [if_pos hh]; omega
      · rename_i hh; rw [if_neg hh]; omega
theorem insert_pot {l : Ld} (h : GoodL l) (it : It) : pot (insertL l it) ≤ pot l + 6 ∧ (insertL l it).mv = l.mv + 1 ∧ l.cp + 1 ≤ (insertL l it).cp ∧ (insertL l it).cp ≤ l.cp + 5 := by
  have hle := insR_le l.rs it
  have hlen := h.len
  unfold insertL
  by_cases ht : l.ts ≤ it.t
  · rw [if_pos ht]
    refine ⟨?_, rfl, by simp only; omega, by simp only; omega⟩
    unfold pot
    simp only [List.length_append, List.length_singleton]
    omega
  · rw [if_neg ht]
    have hp := potRs_ins l.rs 4 it l.ts h.rs (by omega)
    split
    · rename_i hh
      rw [if_pos hh] at hp
      refine ⟨?_, rfl, by simp only; omega, by simp only; omega⟩
      unfold pot
      simp only
      omega
    · refine ⟨?_, rfl, by simp only; omega, by simp only; omega⟩
      unfold pot
      simp only
      omega
def newL : Ld := ⟨0, [], [], [], 0, 0⟩
theorem newL_good : GoodL newL := ⟨by decide, by decide, fun it h => by simp [newL] at h, by decide, trivial, fun it h => by simp [newL] at h, List.Pairwise.nil, List.Pairwise.nil, by decide, by decide⟩
end Go.Proofs.YtneodiemgemhfaaGreat
namespace Go.Proofs.YtneodiemgemhfaaGreat
open Go.RowKit Go.Lib
def LR : Lay RgR := ⟨4, fun r => [.int .i64 r.fr, .int .i64 r.wd, .int .i64 r.cu, .slice r.bk.ad r.bk.l.length r.bk.cap], fun _ => rfl, fun x v hv => by
  simp only [List.mem_cons, List.not_mem_nil, or_false] at hv
  rcases hv with rfl | rfl | rfl | rfl <;> rfl, by decide⟩
theorem infoRung : (Tryz.prog.info? 53).map (fun i => (i.zero, i.size, i.bytes)) = some (some (.agg #[.int .i64 0, .int .i64 0, .int .i64 0, .slice none 0 0]), 4, 48) := by kernel_rfl
theorem tyR : RowTy LR 23 53 := rowTy Tryz.underlying23 _ 48 infoRung rfl (by decide)
theorem Row.rung {w : World} {ad : Option Addr} {l : List RgR} (h : Row LR w ad l) (j : Nat) (hj : j < l.length) : ∃ b off, ad = some ⟨b, off, none⟩ ∧ w.cell? ⟨b, off + j * 4, none⟩ = some (.int .i64 l[j].fr) ∧ w.cell? ⟨b, off + j * 4 + 1, none⟩ = some (.int .i64 l[j].wd) ∧ w.cell? ⟨b, off + j * 4 + 2, none⟩ = some (.int .i64 l[j].cu) ∧ w.cell? ⟨b, off + j * 4 + 3, none⟩ = some (.slice l[j].bk.ad l[j].bk.l.length l[j].bk.cap) := by
  obtain ⟨b, off, e, c⟩ := h j hj
  exact ⟨b, off, e, c 0 _ rfl, c 1 _ rfl, c 2 _ rfl, c 3 _ rfl⟩
/-- A ladder queue as it lies. -/
structure LdR where
  ts : Int
  top : SlR It
  rs : SlR RgR
  bot : SlR It
  mv : Int
  cp : Int
def LdR.ld (l : LdR) : Ld := ⟨l.ts, l.top.l, l.rs.l.map RgR.rg, l.bot.l, l.mv, l.cp⟩
def cellsD (l : LdR) : Array Value := #[.int .i64 l.ts, .slice l.top.ad l.top.l.length l.top.cap, .slice l.rs.ad l.rs.l.length l.rs.cap, .slice l.bot.ad l.bot.l.length l.bot.cap, .int .i64 l.mv, .int .i64 l.cp]
def encD (l : LdR) : Value := .agg (cellsD l)
structure HasD (w : World) (l : LdR) : Prop where
  top : HasS LI w l.top
  rs : HasS LR w l.rs
  rg : ∀ r ∈ l.rs.l, HasR w r
  bot : HasS LI w l.bot
theorem HasD.stay {w w' : World} {l : LdR} (h : HasD w l) (hu : Upd [] w w') : HasD w' l := ⟨h.top.stay hu, h.rs.stay hu, fun r hr => (h.rg r hr).stay hu, h.bot.stay hu⟩
structure AvD (l : LdR) (b : Nat) : Prop where
  top : AvS l.top b
  rs : AvS l.rs b
  rg : ∀ r ∈ l.rs.l, AvR r b
  bot : AvS l.bot b
theorem HasD.keep1 {w w' : World} {l : LdR} {b : Nat} (h : HasD w l) (hu : Upd [b] w w') (ha : AvD l b) : HasD w' l := ⟨h.top.keep1 hu ha.top, h.rs.keep1 hu ha.rs, fun r hr => (h.rg r hr).keep1 hu (ha.rg r hr), h.bot.keep1 hu ha.bot⟩
theorem HasD.avoids {w : World} {l : LdR} (h : HasD w l) {b : Nat} (hb : w.heap.size ≤ b) : AvD l b := ⟨h.top.avoids hb, h.rs.avoids hb, fun r hr => (h.rg r hr).avoids hb, h.bot.avoids hb⟩
/-- From the queue l in w a call came to the queue l' in w', which holds g. -/
structure NxtD (w : World) (l : LdR) (g : Ld) (w' : World) (l' : LdR) : Prop where
  eq : l'.ld = g
  has : HasD w' l'
  av : ∀ b, b < w.heap.size → AvD l b → AvD l' b
  upd : Upd [] w w'
theorem cells6 {w : World} {b : Nat} {x y z p q r : Value} {t : TypeId} {f : Nat × Nat} (h : w.heap[b]? = some (.cells #[x, y, z, p, q, r] t f)) : w.cell? ⟨b, 0, none⟩ = some x ∧ w.cell? ⟨b, 1, none⟩ = some y ∧ w.cell? ⟨b, 2, none⟩ = some z ∧ w.cell? ⟨b, 3, none⟩ = some p ∧ w.cell? ⟨b, 4, none⟩ = some q ∧ w.cell? ⟨b, 5, none⟩ = some r := ⟨cell_block h 0, cell_block h 1, cell_block h 2, cell_block h 3, cell_block h 4, cell_block h 5⟩
theorem free6 {w : World} {b : Nat} {c : Array Value} {t : TypeId} (h : w.heap[b]? = some (.cells c t (0, 0))) : w.frozen? ⟨b, 0, none⟩ = false ∧ w.frozen? ⟨b, 1, none⟩ = false ∧ w.frozen? ⟨b, 2, none⟩ = false ∧ w.frozen? ⟨b, 3, none⟩ = false ∧ w.frozen? ⟨b, 4, none⟩ = false ∧ w.frozen? ⟨b, 5, none⟩ = false := ⟨free_block h 0, free_block h 1, free_block h 2, free_block h 3, free_block h 4, free_block h 5⟩
theorem stored6 {w : World} {b : Nat} {x y z p q r : Value} {t : TypeId} {f : Nat × Nat} (h : w.heap[b]? = some (.cells #[x, y, z, p, q, r] t f)) (u v s a c d : Value) :
    ((((((w.setCell ⟨b, 0, none⟩ u).setCell ⟨b, 1, none⟩ v).setCell ⟨b, 2, none⟩ s).setCell ⟨b, 3, none⟩ a).setCell ⟨b, 4, none⟩ c).setCell ⟨b, 5, none⟩ d).heap[b]? = some (.cells #[u, v, s, a, c, d] t f) := setCell_block (setCell_block (setCell_block (setCell_block (setCell_block (setCell_block h _) _) _) _) _) _
theorem upd_set6 (w : World) (b : Nat) (u v s a c d : Value) : Upd [b] w ((((((w.setCell ⟨b, 0, none⟩ u).setCell ⟨b, 1, none⟩ v).setCell ⟨b, 2, none⟩ s).setCell ⟨b, 3, none⟩ a).setCell ⟨b, 4, none⟩ c).setCell ⟨b, 5, none⟩ d) :=
  ((upd_set4 w b u v s a).setCell (p := ⟨b, 4, none⟩) (fun _ => by simp) _).setCell (p := ⟨b, 5, none⟩) (fun _ => by simp) _

/-- How many items the first k rungs hold. -/
def lenRs (rs : List Rg) (k : Nat) : Nat := ((rs.take k).map (fun r => lenL r.bs)).sum
theorem lenRs_succ {rs : List Rg} {k : Nat} (h : k < rs.length) : lenRs rs (k + 1) = lenRs rs k + lenL rs[k].bs := by
  unfold lenRs
  rw [List.take_succ_eq_append_getElem h, List.map_append, List.sum_append]
  simp only [List.map_cons, List.map_nil, List.sum_cons, List.sum_nil, Nat.add_zero]
theorem lenRs_le (rs : List Rg) (k : Nat) : lenRs rs k ≤ (rs.map (fun r => lenL r.bs)).sum := by
  unfold lenRs
  conv => rhs; rw [← List.take_append_drop k rs]
  rw [List.map_append, List.sum_append]
  omega
end Go.Proofs.YtneodiemgemhfaaGreat
