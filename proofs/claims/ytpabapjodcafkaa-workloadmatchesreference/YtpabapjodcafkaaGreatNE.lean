
/- Plain maths: refilling, Peek and Pop of a ladder queue; Pop takes the least. Nothing of the program. -/
import Derived.Test.YtpabapjodcafkaaGreatND
namespace Go.Proofs.YtpabapjodcafkaaGreat

def More (l : Ld) : Prop := l.bot = [] ∧ (l.rs ≠ [] ∨ l.top ≠ [])
theorem more_dec (l : Ld) : More l ∨ ¬ More l := Classical.em _
open Classical in
noncomputable def refillN : Nat → Ld → Ld
  | 0, l => l
  | n + 1, l => if More l then refillN n (stepL l) else l
noncomputable def refillL (l : Ld) : Ld := refillN (mes l) l
theorem refillN_more {n : Nat} {l : Ld} (h : More l) : refillN (n + 1) l = refillN n (stepL l) := by rw [refillN, if_pos h]
theorem refillN_stop {n : Nat} {l : Ld} (h : ¬ More l) : refillN n l = l := by
  cases n with
  | zero => rfl
  | succ n => rw [refillN, if_neg h]
theorem more_mes {l : Ld} (hg : GoodL l) (h : More l) : 0 < mes l := by
  unfold mes
  rcases h.2 with hr | ht
  · obtain ⟨r, rs, e⟩ := List.exists_cons_of_ne_nil hr
    have hok := hg.rs
    rw [e] at hok ⊢
    have h8 := hok.1.good.cu1
    have h9 : 1 ≤ (9 - r.cu).toNat := by omega
    have := Nat.mul_le_mul_right (10 ^ 4) h9
    simp only [mesRs]
    omega
  · rw [if_neg ht]; omega
theorem refillN_eq : ∀ {n m : Nat} {l : Ld}, GoodL l → mes l ≤ n → mes l ≤ m → refillN n l = refillN m l
  | 0, m, l, hg, hn, _ => by
    have h : ¬ More l := fun h => by have := more_mes hg h; omega
    rw [refillN_stop h, refillN_stop h]
  | n + 1, 0, l, hg, _, hm => by
    have h : ¬ More l := fun h => by have := more_mes hg h; omega
    rw [refillN_stop h, refillN_stop h]
  | n + 1, m + 1, l, hg, hn, hm => by
    rcases more_dec l with h | h
    · have hs := step_ok hg h.1 h.2
      rw [refillN_more h, refillN_more h]
      have := hs.mes
      exact refillN_eq hs.good (by omega) (by omega)
    · rw [refillN_stop h, refillN_stop h]
theorem refill_step {l : Ld} (hg : GoodL l) (h : More l) : refillL l = refillL (stepL l) := by
  have hs := step_ok hg h.1 h.2
  have hm := hs.mes
  unfold refillL
  obtain ⟨k, hk⟩ : ∃ k, mes l = k + 1 := ⟨mes l - 1, by omega⟩
  rw [hk, refillN_more h]
  exact refillN_eq hs.good (by omega) (Nat.le_refl _)
theorem refill_stop {l : Ld} (h : ¬ More l) : refillL l = l := refillN_stop h
/-- What refilling brings. -/
structure Refilled (l l' : Ld) : Prop where
  good : GoodL l'
  its : (itemsL l').Perm (itemsL l)
  pot : pot l' ≤ pot l
  mv : l.mv ≤ l'.mv
  cp : l'.cp = l.cp
  fin : ¬ More l'
theorem refillN_ok : ∀ {n : Nat} {l : Ld}, GoodL l → mes l ≤ n → Refilled l (refillN n l)
  | n, l, hg, hn => by
    rcases more_dec l with h | h
    · have h0 := more_mes hg h
      obtain ⟨k, rfl⟩ : ∃ k, n = k + 1 := ⟨n - 1, by omega⟩
      have hs := step_ok hg h.1 h.2
      have hm := hs.mes
      have ih := refillN_ok (n := k) hs.good (by omega)
      rw [refillN_more h]
      exact ⟨ih.good, ih.its.trans hs.its, by have := ih.pot; have := hs.pot; omega, by have := ih.mv; have := hs.mv; omega, ih.cp.trans hs.cp, ih.fin⟩
    · rw [refillN_stop h]
      exact ⟨hg, List.Perm.refl _, Int.le_refl _, Int.le_refl _, rfl, h⟩
termination_by n => n
theorem refill_ok {l : Ld} (hg : GoodL l) : Refilled l (refillL l) := refillN_ok hg (Nat.le_refl _)
theorem refill_idem {l : Ld} (hg : GoodL l) : refillL (refillL l) = refillL l := refill_stop (refill_ok hg).fin
theorem empty_bot {l : Ld} (h : ¬ More l) (hb : l.bot = []) : itemsL l = [] := by
  have hr : l.rs = [] := Classical.byContradiction fun k => h ⟨hb, .inl k⟩
  have ht : l.top = [] := Classical.byContradiction fun k => h ⟨hb, .inr k⟩
  simp [itemsL, itsRs, hb, hr, ht]
def zeroI : It := ⟨0, 0, 0⟩
noncomputable def peekL (l : Ld) : Ld × It × Bool := match (refillL l).bot with
  | [] => (refillL l, zeroI, false)
  | x :: _ => (refillL l, x, true)
noncomputable def popL (l : Ld) : Ld × It × Bool := match (refillL l).bot with
  | [] => (refillL l, zeroI, false)
  | x :: xs => ({ refillL l with bot := xs }, x, true)
theorem peek_no {l : Ld} (h : (refillL l).bot = []) : peekL l = (refillL l, zeroI, false) ∧ popL l = (refillL l, zeroI, false) := by
  unfold peekL popL; rw [h]; exact ⟨rfl, rfl⟩
theorem peek_yes {l : Ld} {x : It} {xs : List It} (h : (refillL l).bot = x :: xs) : peekL l = (refillL l, x, true) ∧ popL l = ({ refillL l with bot := xs }, x, true) := by
  unfold peekL popL; rw [h]; exact ⟨rfl, rfl⟩
/-- Pop, by cases. -/
inductive Popped (l : Ld) : Prop
  | no (e : itemsL l = []) (p : popL l = (refillL l, zeroI, false)) (k : peekL l = (refillL l, zeroI, false))
  | yes (x : It) (l' : Ld) (p : popL l = (l', x, true)) (k : peekL l = (refillL l, x, true)) (good : GoodL l') (its : (x :: itemsL l').Perm (itemsL l)) (least : ∀ y ∈ itemsL l', ltI x y)
      (pot : pot l' ≤ pot l) (mv : l.mv ≤ l'.mv) (cp : l'.cp = l.cp) (bot : (refillL l).bot = x :: l'.bot)
theorem pop_ok {l : Ld} (hg : GoodL l) : Popped l := by
  have hR := refill_ok hg
  cases hb : (refillL l).bot with
  | nil =>
    have he := empty_bot hR.fin hb
    have h0 := hR.its
    rw [he] at h0
    exact .no (List.nil_perm.1 h0) (peek_no hb).2 (peek_no hb).1
  | cons x xs =>
    have hm := hR.good
    generalize hM : refillL l = m at *
    have hsub : ∀ y ∈ xs, y ∈ m.bot := fun y hy => by rw [hb]; exact List.mem_cons_of_mem _ hy
    have hsrt := hm.srt
    rw [hb] at hsrt
    have hperm : (x :: itemsL { m with bot := xs }).Perm (itemsL m) := by
      unfold itemsL
      rw [hb]
      simp only [List.append_assoc, List.cons_append]
      exact List.perm_middle.symm
    have hd : DistI (x :: itemsL { m with bot := xs }) := hm.dist.perm hperm.symm
    refine .yes x { m with bot := xs } (by rw [← hM]; exact (peek_yes (by rw [hM]; exact hb)).2) (peek_yes (by rw [hM]; exact hb)).1 ⟨hm.ts0, hm.ts1, hm.top, hm.len, hm.rs, fun y hy => hm.bot y (hsub y hy), (List.pairwise_cons.1 hsrt).2, (List.pairwise_cons.1 hd).2, hm.mv0, hm.cp0⟩ (hperm.trans hR.its) (fun y hy => ?_) hR.pot hR.mv hR.cp (by rw [hM, hb])
    have hx : x ∈ m.bot := by rw [hb]; exact List.mem_cons_self
    rcases List.mem_append.1 hy with hy | hy
    · rcases List.mem_append.1 hy with hy | hy
      · exact .inl (hm.before hx (.inl hy))
      · exact (List.pairwise_cons.1 hsrt).1 y hy
    · exact .inl (hm.before hx (.inr hy))
theorem Popped.sort {l l' : Ld} {x : It} (hg : GoodL l) (its : (x :: itemsL l').Perm (itemsL l)) (least : ∀ y ∈ itemsL l', ltI x y) : sortI (itemsL l) = x :: sortI (itemsL l') := by
  have hd : DistI (x :: itemsL l') := hg.dist.perm its.symm
  rw [← sortI_of_perm hd its]
  exact sortI_cons hd least
/-- What Pop gives hangs on the items alone. -/
theorem pop_item {l m : Ld} (hl : GoodL l) (hm : GoodL m) (hp : (itemsL l).Perm (itemsL m)) : (popL l).2 = (popL m).2 := by
  cases pop_ok hl with
  | no e p =>
    cases pop_ok hm with
    | no e' p' => rw [p, p']
    | yes x l' p' _ _ its =>
      rw [e] at hp
      have := (its.trans hp.symm).length_eq
      simp at this
  | yes x l' p _ _ its least =>
    cases pop_ok hm with
    | no e' p' =>
      rw [e'] at hp
      have := (its.trans hp).length_eq
      simp at this
    | yes y m' p' _ _ its' least' =>
      have h1 := Popped.sort hl its least
      have h2 := Popped.sort hm its' least'
      rw [sortI_of_perm hl.dist hp, h2] at h1
      rw [p, p', (List.cons.inj h1).1]
theorem pop_refill {l : Ld} (hg : GoodL l) : popL (refillL l) = popL l ∧ peekL (refillL l) = peekL l := by
  unfold popL peekL
  rw [refill_idem hg]
  exact ⟨rfl, rfl⟩
def lenD (l : Ld) : Nat := l.top.length + l.bot.length + (l.rs.map (fun r => lenL r.bs)).sum
theorem lenD_its (l : Ld) : lenD l = (itemsL l).length := by
  unfold lenD itemsL itsRs
  rw [List.length_append, List.length_append, List.length_flatten, List.map_map]
  congr 2
  refine List.map_congr_left fun r _ => ?_
  exact (itsR_length r).symm
theorem potRs_le : ∀ (rs : List Rg) (e : Nat), potRs e rs ≤ e * (rs.map (fun r => lenL r.bs)).sum
  | [], e => by simp [potRs]
  | r :: rs, e => by
    have ih := potRs_le rs (e - 1)
    simp only [potRs, List.map_cons, List.sum_cons, Nat.mul_add]
    have := Nat.mul_le_mul_right ((rs.map (fun r => lenL r.bs)).sum) (show e - 1 ≤ e by omega)
    omega
/-- A removal moves each item at most five times. -/
theorem pot_len (l : Ld) : pot l ≤ l.mv + 5 * lenD l := by
  have := potRs_le l.rs 4
  unfold pot lenD
  omega
theorem mv_pot (l : Ld) : l.mv ≤ pot l := by unfold pot; omega
theorem potRs_ins : ∀ (rs : List Rg) (e : Nat) (it : It) (b : Int), OkRs b rs → it.t < b → potRs e (insR rs it).1 ≤ potRs e rs + (if (insR rs it).2.2 then e else 0)
  | [], e, it, b, _, _ => by simp [insR, potRs]
  | r :: rs, e, it, b, h, hb => by
    by_cases hc : curT r ≤ it.t
    · have e1 : insR (r :: rs) it = ((putR r it).1 :: rs, 1, true) := by rw [insR, if_pos hc]
      have hl := put_len_le h.1.good it
      rw [e1]
      simp only [potRs, if_true]
      have := Nat.mul_le_mul_left e hl
      rw [Nat.mul_add, Nat.mul_one] at this
      omega
    · have e1 : insR (r :: rs) it = (r :: (insR rs it).1, (insR rs it).2.1 + 1, (insR rs it).2.2) := by rw [insR, if_neg hc]
      have ih := potRs_ins rs (e - 1) it (min b (curT r)) h.2 (by omega)
      rw [e1]
      simp only [potRs]
      split at ih
      · rename_i hh; rw [if_pos hh]; omega
      · rename_i hh; rw [if_neg hh]; omega
theorem insert_pot {l : Ld} (h : GoodL l) (it : It) : pot (insertL l it) ≤ pot l + 6 ∧ (insertL l it).mv = l.mv + 1 ∧ l.cp + 1 ≤ (insertL l it).cp ∧ (insertL l it).cp ≤ l.cp + 5 := by
  have hle := insR_le l.rs it
  have hlen := h.len
  unfold insertL
  by_cases ht : l.ts ≤ it.t
  · rw [if_pos ht]
    refine ⟨?_, rfl, by simp only; omega, by simp only; omega⟩
    unfold pot
    simp only [List.length_append, List.length_singleton]
    omega
  · rw [if_neg ht]
    have hp := potRs_ins l.rs 4 it l.ts h.rs (by omega)
    split
    · rename_i hh
      rw [if_pos hh] at hp
      refine ⟨?_, rfl, by simp only; omega, by simp only; omega⟩
      unfold pot
      simp only
      omega
    · refine ⟨?_, rfl, by simp only; omega, by simp only; omega⟩
      unfold pot
      simp only
      omega
def newL : Ld := ⟨0, [], [], [], 0, 0⟩
theorem newL_good : GoodL newL := ⟨by decide, by decide, fun it h => by simp [newL] at h, by decide, trivial, fun it h => by simp [newL] at h, List.Pairwise.nil, List.Pairwise.nil, by decide, by decide⟩
end Go.Proofs.YtpabapjodcafkaaGreat
