/- Plain maths: refilling, Peek and Pop of a ladder queue; Pop takes the least. Nothing of the program. -/
/- Plain maths: the shared store as an arena and a queue, a script's step, what it keeps. Nothing of the program. -/
/- Plain maths: a script over the shared store, what its statements ask of it. Nothing of the program. -/
import Derived.Test.YtmfnfinbkdemkaaGreatND
import Derived.Test.YtmfnfinbkdemkaaGreatCP
namespace Go.Proofs.YtmfnfinbkdemkaaGreat

def More (l : Ld) : Prop := l.bot = [] ∧ (l.rs ≠ [] ∨ l.top ≠ [])
theorem more_dec (l : Ld) : More l ∨ ¬ More l := Classical.em _
open Classical in
noncomputable def refillN : Nat → Ld → Ld
  | 0, l => l
  | n + 1, l => if More l then refillN n (stepL l) else l
noncomputable def refillL (l : Ld) : Ld := refillN (mes l) l
theorem refillN_more {n : Nat} {l : Ld} (h : More l) : refillN (n + 1) l = refillN n (stepL l) := by rw [refillN, if_pos h]
theorem refillN_stop {n : Nat} {l : Ld} (h : ¬ More l) : refillN n l = l := by
  cases n with
  | zero => rfl
  | succ n => rw [refillN, if_neg h]
theorem more_mes {l : Ld} (hg : GoodL l) (h : More l) : 0 < mes l := by
  unfold mes
  rcases h.2 with hr | ht
  · obtain ⟨r, rs, e⟩ := List.exists_cons_of_ne_nil hr
    have hok := hg.rs
    rw [e] at hok ⊢
    have h8 := hok.1.good.cu1
    have h9 : 1 ≤ (9 - r.cu).toNat := by omega
    have := Nat.mul_le_mul_right (10 ^ 4) h9
    simp only [mesRs]
    omega
  · rw [if_neg ht]; omega
theorem refillN_eq : ∀ {n m : Nat} {l : Ld}, GoodL l → mes l ≤ n → mes l ≤ m → refillN n l = refillN m l
  | 0, m, l, hg, hn, _ => by
    have h : ¬ More l := fun h => by have := more_mes hg h; omega
    rw [refillN_stop h, refillN_stop h]
  | n + 1, 0, l, hg, _, hm => by
    have h : ¬ More l := fun h => by have := more_mes hg h; omega
    rw [refillN_stop h, refillN_stop h]
  | n + 1, m + 1, l, hg, hn, hm => by
    rcases more_dec l with h | h
    · have hs := step_ok hg h.1 h.2
      rw [refillN_more h, refillN_more h]
      have := hs.mes
      exact refillN_eq hs.good (by omega) (by omega)
    · rw [refillN_stop h, refillN_stop h]
theorem refill_step {l : Ld} (hg : GoodL l) (h : More l) : refillL l = refillL (stepL l) := by
  have hs := step_ok hg h.1 h.2
  have hm := hs.mes
  unfold refillL
  obtain ⟨k, hk⟩ : ∃ k, mes l = k + 1 := ⟨mes l - 1, by omega⟩
  rw [hk, refillN_more h]
  exact refillN_eq hs.good (by omega) (Nat.le_refl _)
theorem refill_stop {l : Ld} (h : ¬ More l) : refillL l = l := refillN_stop h
/-- What refilling brings. -/
structure Refilled (l l' : Ld) : Prop where
  good : GoodL l'
  its : (itemsL l').Perm (itemsL l)
  pot : pot l' ≤ pot l
  mv : l.mv ≤ l'.mv
  cp : l'.cp = l.cp
  fin : ¬ More l'
theorem refillN_ok : ∀ {n : Nat} {l : Ld}, GoodL l → mes l ≤ n → Refilled l (refillN n l)
  | n, l, hg, hn => by
    rcases more_dec l with h | h
    · have h0 := more_mes hg h
      obtain ⟨k, rfl⟩ : ∃ k, n = k + 1 := ⟨n - 1, by omega⟩
      have hs := step_ok hg h.1 h.2
      have hm := hs.mes
      have ih := refillN_ok (n := k) hs.good (by omega)
      rw [refillN_more h]
      exact ⟨ih.good, ih.its.trans hs.its, by have := ih.pot; have := hs.pot; omega, by have := ih.mv; have := hs.mv; omega, ih.cp.trans hs.cp, ih.fin⟩
    · rw [refillN_stop h]
      exact ⟨hg, List.Perm.refl _, Int.le_refl _, Int.le_refl _, rfl, h⟩
termination_by n => n
theorem refill_ok {l : Ld} (hg : GoodL l) : Refilled l (refillL l) := refillN_ok hg (Nat.le_refl _)
theorem refill_idem {l : Ld} (hg : GoodL l) : refillL (refillL l) = refillL l := refill_stop (refill_ok hg).fin
theorem empty_bot {l : Ld} (h : ¬ More l) (hb : l.bot = []) : itemsL l = [] := by
  have hr : l.rs = [] := Classical.byContradiction fun k => h ⟨hb, .inl k⟩
  have ht : l.top = [] := Classical.byContradiction fun k => h ⟨hb, .inr k⟩
  simp [itemsL, itsRs, hb, hr, ht]
def zeroI : It := ⟨0, 0, 0⟩
noncomputable def peekL (l : Ld) : Ld × It × Bool := match (refillL l).bot with
  | [] => (refillL l, zeroI, false)
  | x :: _ => (refillL l, x, true)
noncomputable def popL (l : Ld) : Ld × It × Bool := match (refillL l).bot with
  | [] => (refillL l, zeroI, false)
  | x :: xs => ({ refillL l with bot := xs }, x, true)
theorem peek_no {l : Ld} (h : (refillL l).bot = []) : peekL l = (refillL l, zeroI, false) ∧ popL l = (refillL l, zeroI, false) := by
  unfold peekL popL; rw [h]; exact ⟨rfl, rfl⟩
theorem peek_yes {l : Ld} {x : It} {xs : List It} (h : (refillL l).bot = x :: xs) : peekL l = (refillL l, x, true) ∧ popL l = ({ refillL l with bot := xs }, x, true) := by
  unfold peekL popL; rw [h]; exact ⟨rfl, rfl⟩
/-- Pop, by cases. -/
inductive Popped (l : Ld) : Prop
  | no (e : itemsL l = []) (p : popL l = (refillL l, zeroI, false)) (k : peekL l = (refillL l, zeroI, false))
  | yes (x : It) (l' : Ld) (p : popL l = (l', x, true)) (k : peekL l = (refillL l, x, true)) (good : GoodL l') (its : (x :: itemsL l').Perm (itemsL l)) (least : ∀ y ∈ itemsL l', ltI x y)
      (pot : pot l' ≤ pot l) (mv : l.mv ≤ l'.mv) (cp : l'.cp = l.cp) (bot : (refillL l).bot = x :: l'.bot)
theorem pop_ok {l : Ld} (hg : GoodL l) : Popped l := by
  have hR := refill_ok hg
  cases hb : (refillL l).bot with
  | nil =>
    have he := empty_bot hR.fin hb
    have h0 := hR.its
    rw [he] at h0
    exact .no (List.nil_perm.1 h0) (peek_no hb).2 (peek_no hb).1
  | cons x xs =>
    have hm := hR.good
    generalize hM : refillL l = m at *
    have hsub : ∀ y ∈ xs, y ∈ m.bot := fun y hy => by rw [hb]; exact List.mem_cons_of_mem _ hy
    have hsrt := hm.srt
    rw [hb] at hsrt
    have hperm : (x :: itemsL { m with bot := xs }).Perm (itemsL m) := by
      unfold itemsL
      rw [hb]
      simp only [List.append_assoc, List.cons_append]
      exact List.perm_middle.symm
    have hd : DistI (x :: itemsL { m with bot := xs }) := hm.dist.perm hperm.symm
    refine .yes x { m with bot := xs } (by rw [← hM]; exact (peek_yes (by rw [hM]; exact hb)).2) (peek_yes (by rw [hM]; exact hb)).1 ⟨hm.ts0, hm.ts1, hm.top, hm.len, hm.rs, fun y hy => hm.bot y (hsub y hy), (List.pairwise_cons.1 hsrt).2, (List.pairwise_cons.1 hd).2, hm.mv0, hm.cp0⟩ (hperm.trans hR.its) (fun y hy => ?_) hR.pot hR.mv hR.cp (by rw [hM, hb])
    have hx : x ∈ m.bot := by rw [hb]; exact List.mem_cons_self
    rcases List.mem_append.1 hy with hy | hy
    · rcases List.mem_append.1 hy with hy | hy
      · exact .inl (hm.before hx (.inl hy))
      · exact (List.pairwise_cons.1 hsrt).1 y hy
    · exact .inl (hm.before hx (.inr hy))
theorem Popped.sort {l l' : Ld} {x : It} (hg : GoodL l) (its : (x :: itemsL l').Perm (itemsL l)) (least : ∀ y ∈ itemsL l', ltI x y) : sortI (itemsL l) = x :: sortI (itemsL l') := by
  have hd : DistI (x :: itemsL l') := hg.dist.perm its.symm
  rw [← sortI_of_perm hd its]
  exact sortI_cons hd least
/-- What Pop gives hangs on the items alone. -/
theorem pop_item {l m : Ld} (hl : GoodL l) (hm : GoodL m) (hp : (itemsL l).Perm (itemsL m)) : (popL l).2 = (popL m).2 := by
  cases pop_ok hl with
  | no e p =>
    cases pop_ok hm with
    | no e' p' => rw [p, p']
    | yes x l' p' _ _ its =>
      rw [e] at hp
      have := (its.trans hp.symm).length_eq
      simp at this
  | yes x l' p _ _ its least =>
    cases pop_ok hm with
    | no e' p' =>
      rw [e'] at hp
      have := (its.trans hp).length_eq
      simp at this
    | yes y m' p' _ _ its' least' =>
      have h1 := Popped.sort hl its least
      have h2 := Popped.sort hm its' least'
      rw [sortI_of_perm hl.dist hp, h2] at h1
      rw [p, p', (List.cons.inj h1).1]
theorem pop_refill {l : Ld} (hg : GoodL l) : popL (refillL l) = popL l ∧ peekL (refillL l) = peekL l := by
  unfold popL peekL
  rw [refill_idem hg]
  exact ⟨rfl, rfl⟩
def lenD (l : Ld) : Nat := l.top.length + l.bot.length + (l.rs.map (fun r => lenL r.bs)).sum
theorem lenD_its (l : Ld) : lenD l = (itemsL l).length := by
  unfold lenD itemsL itsRs
  rw [List.length_append, List.length_append, List.length_flatten, List.map_map]
  congr 2
  refine List.map_congr_left fun r _ => ?_
  exact (itsR_length r).symm
theorem potRs_le : ∀ (rs : List Rg) (e : Nat), potRs e rs ≤ e * (rs.map (fun r => lenL r.bs)).sum
  | [], e => by simp [potRs]
  | r :: rs, e => by
    have ih := potRs_le rs (e - 1)
    simp only [potRs, List.map_cons, List.sum_cons, Nat.mul_add]
    have := Nat.mul_le_mul_right ((rs.map (fun r => lenL r.bs)).sum) (show e - 1 ≤ e by omega)
    omega
/-- A removal moves each item at most five times. -/
theorem pot_len (l : Ld) : pot l ≤ l.mv + 5 * lenD l := by
  have := potRs_le l.rs 4
  unfold pot lenD
  omega
theorem mv_pot (l : Ld) : l.mv ≤ pot l := by unfold pot; omega
theorem potRs_ins : ∀ (rs : List Rg) (e : Nat) (it : It) (b : Int), OkRs b rs → it.t < b → potRs e (insR rs it).1 ≤ potRs e rs + (if (insR rs it).2.2 then e else 0)
  | [], e, it, b, _, _ => by simp [insR, potRs]
  | r :: rs, e, it, b, h, hb => by
    by_cases hc : curT r ≤ it.t
    · have e1 : insR (r :: rs) it = ((putR r it).1 :: rs, 1, true) := by rw [insR, if_pos hc]
      have hl := put_len_le h.1.good it
      rw [e1]
      simp only [potRs, if_true]
      have := Nat.mul_le_mul_left e hl
      rw [Nat.mul_add, Nat.mul_one] at this
      omega
    · have e1 : insR (r :: rs) it = (r :: (insR rs it).1, (insR rs it).2.1 + 1, (insR rs it).2.2) := by rw [insR, if_neg hc]
      have ih := potRs_ins rs (e - 1) it (min b (curT r)) h.2 (by omega)
      rw [e1]
      simp only [potRs]
      split at ih
      · rename_i hh; rw [if_pos hh]; omega
      · rename_i hh; rw [if_neg hh]; omega
theorem insert_pot {l : Ld} (h : GoodL l) (it : It) : pot (insertL l it) ≤ pot l + 6 ∧ (insertL l it).mv = l.mv + 1 ∧ l.cp + 1 ≤ (insertL l it).cp ∧ (insertL l it).cp ≤ l.cp + 5 := by
  have hle := insR_le l.rs it
  have hlen := h.len
  unfold insertL
  by_cases ht : l.ts ≤ it.t
  · rw [if_pos ht]
    refine ⟨?_, rfl, by simp only; omega, by simp only; omega⟩
    unfold pot
    simp only [List.length_append, List.length_singleton]
    omega
  · rw [if_neg ht]
    have hp := potRs_ins l.rs 4 it l.ts h.rs (by omega)
    split
    · rename_i hh
      rw [if_pos hh] at hp
      refine ⟨?_, rfl, by simp only; omega, by simp only; omega⟩
      unfold pot
      simp only
      omega
    · refine ⟨?_, rfl, by simp only; omega, by simp only; omega⟩
      unfold pot
      simp only
      omega
def newL : Ld := ⟨0, [], [], [], 0, 0⟩
theorem newL_good : GoodL newL := ⟨by decide, by decide, fun it h => by simp [newL] at h, by decide, trivial, fun it h => by simp [newL] at h, List.Pairwise.nil, List.Pairwise.nil, by decide, by decide⟩
end Go.Proofs.YtmfnfinbkdemkaaGreat
namespace Go.Proofs.YtmfnfinbkdemkaaGreat
open A5

structure Sto where
  a : Ar
  q : Ld
/-- The item of a slot. -/
def itA (a : Ar) (i : Nat) : It := ⟨(slAt a.sl i).t, (slAt a.sl i).q, (i : Int)⟩
def liveI (a : Ar) : List Nat := (List.range a.sl.length).filter (fun i => decide ((slAt a.sl i).s ≠ 0))
/-- The items of the live slots. -/
def itemsA (a : Ar) : List It := (liveI a).map (itA a)
theorem mem_liveI {a : Ar} {i : Nat} : i ∈ liveI a ↔ i < a.sl.length ∧ (slAt a.sl i).s ≠ 0 := by simp [liveI]
theorem mem_itemsA {a : Ar} {x : It} : x ∈ itemsA a ↔ ∃ i : Nat, i < a.sl.length ∧ (slAt a.sl i).s ≠ 0 ∧ x = itA a i := by
  unfold itemsA
  rw [List.mem_map]
  constructor
  · rintro ⟨i, hi, rfl⟩
    exact ⟨i, (mem_liveI.1 hi).1, (mem_liveI.1 hi).2, rfl⟩
  · rintro ⟨i, h1, h2, rfl⟩
    exact ⟨i, mem_liveI.2 ⟨h1, h2⟩, rfl⟩
theorem itemsA_length (a : Ar) : (itemsA a).length = liveL a.sl := by simp [itemsA, liveI, liveL, liveTo]
theorem itA_inj {a : Ar} {i k : Nat} (h : itA a i = itA a k) : i = k := by
  simp only [itA, It.mk.injEq] at h
  omega
theorem nodup_itemsA (a : Ar) : (itemsA a).Nodup :=
  List.Pairwise.map (itA a) (fun _ _ hne e => hne (itA_inj e)) (List.Pairwise.filter _ List.nodup_range)
theorem dist_itemsA {a : Ar} (h : Good a) : DistI (itemsA a) := by
  refine List.Pairwise.imp_of_mem ?_ (nodup_itemsA a)
  intro x y hx hy hne he
  obtain ⟨i, h1, h2, rfl⟩ := mem_itemsA.1 hx
  obtain ⟨k, k1, k2, rfl⟩ := mem_itemsA.1 hy
  exact h.dist i k h1 k1 (fun e => hne (by rw [e])) h2 k2 he.2
theorem set_itemsA {a b : Ar} {i : Nat} {s : Sl} (hi : i < a.sl.length) (hb : b.sl = a.sl.set i s) {x : It} : x ∈ itemsA b ↔ (s.s ≠ 0 ∧ x = ⟨s.t, s.q, (i : Int)⟩) ∨ (x ∈ itemsA a ∧ x.s ≠ (i : Int)) := by
  rw [mem_itemsA, mem_itemsA]
  unfold itA
  rw [hb, List.length_set]
  constructor
  · rintro ⟨k, k1, k2, rfl⟩
    rw [slAt_set hi] at k2 ⊢
    by_cases hk : k = i
    · subst hk
      rw [if_pos rfl] at k2 ⊢
      exact .inl ⟨k2, rfl⟩
    · rw [if_neg hk] at k2 ⊢
      exact .inr ⟨⟨k, k1, k2, rfl⟩, fun e => hk (by simp only at e; omega)⟩
  · rintro (⟨h1, rfl⟩ | ⟨⟨k, k1, k2, rfl⟩, h⟩)
    · exact ⟨i, hi, by rw [slAt_set hi, if_pos rfl]; exact h1, by rw [slAt_set hi, if_pos rfl]⟩
    · have hk : k ≠ i := fun e => h (by simp only; omega)
      exact ⟨k, k1, by rw [slAt_set hi, if_neg hk]; exact k2, by rw [slAt_set hi, if_neg hk]⟩
theorem take_itemsA {a : Ar} (hg : Good a) (hr : a.id ≠ []) (t : Int) : (itemsA (takeA a t)).Perm (itA (takeA a t) (lastI a) :: itemsA a) := by
  obtain ⟨hl, h0, _⟩ := hg.last hr
  have e : itA (takeA a t) (lastI a) = ⟨t, a.nx, (lastI a : Int)⟩ := by simp [itA, takeA, slAt_set hl]
  have hno : ∀ x ∈ itemsA a, x.s ≠ (lastI a : Int) := fun x hx hs => by
    obtain ⟨i, h1, h2, rfl⟩ := mem_itemsA.1 hx
    simp only [itA] at hs
    obtain rfl : i = lastI a := by omega
    exact h2 h0
  refine perm_of_mem _ _ (nodup_itemsA _) (List.nodup_cons.2 ⟨fun h => hno _ h (by rw [e]), nodup_itemsA _⟩) (fun x => ?_)
  rw [set_itemsA (b := takeA a t) hl rfl, List.mem_cons, e]
  constructor
  · rintro (⟨_, h⟩ | ⟨h, _⟩)
    · exact .inl h
    · exact .inr h
  · rintro (h | h)
    · exact .inl ⟨by simp, h⟩
    · exact .inr ⟨h, hno x h⟩
/-- Free, at a slot. -/
def freeAt (a : Ar) (i : Nat) : Ar := ⟨a.sl.set i (freeS (slAt a.sl i)), a.id ++ [(i : Int)], a.nx⟩
/-- A slot's state turned. -/
def markA (a : Ar) (i : Nat) : Ar := setS a i (moveS (slAt a.sl i) 3)
theorem free_itemsA {a : Ar} {i : Nat} (hl : i < a.sl.length) (hs : (slAt a.sl i).s ≠ 0) : (itA a i :: itemsA (freeAt a i)).Perm (itemsA a) := by
  have key : ∀ x, x ∈ itemsA (freeAt a i) ↔ x ∈ itemsA a ∧ x.s ≠ (i : Int) := fun x => by
    rw [set_itemsA (b := freeAt a i) hl rfl]
    constructor
    · rintro (⟨h, _⟩ | h)
      · exact absurd rfl h
      · exact h
    · exact .inr
  refine perm_of_mem _ _ (List.nodup_cons.2 ⟨fun h => ((key _).1 h).2 rfl, nodup_itemsA _⟩) (nodup_itemsA _) (fun x => ?_)
  rw [List.mem_cons, key]
  constructor
  · rintro (rfl | h)
    · exact mem_itemsA.2 ⟨i, hl, hs, rfl⟩
    · exact h.1
  · intro h
    obtain ⟨k, k1, k2, rfl⟩ := mem_itemsA.1 h
    by_cases hk : k = i
    · exact .inl (by rw [hk])
    · exact .inr ⟨h, fun e => hk (by simp only [itA] at e; omega)⟩
theorem mark_itemsA {a : Ar} {i : Nat} (hl : i < a.sl.length) (hs : (slAt a.sl i).s ≠ 0) : (itemsA (markA a i)).Perm (itemsA a) := by
  refine perm_of_mem _ _ (nodup_itemsA _) (nodup_itemsA _) (fun x => ?_)
  rw [set_itemsA (b := markA a i) hl rfl]
  constructor
  · rintro (⟨_, h⟩ | h)
    · exact mem_itemsA.2 ⟨i, hl, hs, h⟩
    · exact h.1
  · intro h
    obtain ⟨k, k1, k2, rfl⟩ := mem_itemsA.1 h
    by_cases hk : k = i
    · subst hk
      exact .inl ⟨by simp [moveS], rfl⟩
    · exact .inr ⟨h, fun e => hk (by simp only [itA] at e; omega)⟩
/-- The handle of a slot as it is. -/
def hndA (a : Ar) (i : Nat) : Int := 64 * (slAt a.sl i).g + (i : Int)
theorem hndA_refers {a : Ar} (hg : Good a) {i : Nat} (hl : i < a.sl.length) (hs : (slAt a.sl i).s ≠ 0) : Refers a (hndA a i) ∧ hS (hndA a i) = i := by
  have h1 := (hg.ok i hl).1
  have h2 := hg.len1
  have e : hS (hndA a i) = i := by unfold hS hndA; omega
  refine ⟨⟨⟨by unfold hndA; omega, by unfold hndA; omega⟩, by rw [e]; exact hl, ?_, by rw [e]; exact hs⟩, e⟩
  rw [e]; unfold hndA; omega
theorem freeAt_put {a : Ar} (hg : Good a) {i : Nat} (hl : i < a.sl.length) (hs : (slAt a.sl i).s ≠ 0) (h : (slAt a.sl i).g < 1099511627776) : Frees a (hndA a i) ∧ putA a (hndA a i) = freeAt a i := by
  obtain ⟨h1, e⟩ := hndA_refers hg hl hs
  exact ⟨⟨h1, by rw [e]; exact h⟩, by unfold putA freeAt; rw [e]⟩
theorem markA_moves {a : Ar} (hg : Good a) {i : Nat} (hl : i < a.sl.length) (hs : (slAt a.sl i).s ≠ 0) : Moves a (hndA a i) (slAt a.sl i).s 3 ∧ setS a (hS (hndA a i)) (moveS (slAt a.sl (hS (hndA a i))) 3) = markA a i := by
  obtain ⟨h1, e⟩ := hndA_refers hg hl hs
  exact ⟨⟨h1, by rw [e], by omega, by omega⟩, by rw [e]; rfl⟩
/-- What a script of k steps over n slots reaches: the queue holds the live slots' items. -/
structure OkS (n k : Nat) (s : Sto) (is : List Int) : Prop where
  reach : ReachA n k s.a is
  gen : ∀ i, i < s.a.sl.length → (slAt s.a.sl i).g ≤ k
  good : GoodL s.q
  its : (itemsL s.q).Perm (itemsA s.a)
  pot : pot s.q ≤ 6 * k
  cp : s.q.cp ≤ 5 * k
theorem okS_new {n : Nat} (h1 : 1 ≤ n) (h2 : n ≤ 64) : OkS n 0 ⟨newA n, newL⟩ [] := by
  have hst : ∀ i, (slAt (newA n).sl i) = ⟨0, 0, 0, 0⟩ := fun i => by
    simp only [newA, slAt, List.getElem?_replicate]
    split <;> rfl
  refine ⟨reachA_new h1 h2, fun i _ => by simp only [hst]; exact Int.le_refl _, newL_good, ?_, by simp [pot, newL, potRs], by simp [newL]⟩
  have e : itemsA (newA n) = [] := List.eq_nil_iff_forall_not_mem.2 fun x hx => by
    obtain ⟨i, _, h, _⟩ := mem_itemsA.1 hx
    rw [hst] at h
    exact h rfl
  simp only [e]
  simp [itemsL, newL, itsRs]
theorem OkS.more {n k m : Nat} {s : Sto} {is : List Int} (h : OkS n k s is) (hm : k ≤ m) : OkS n m s is :=
  ⟨⟨h.reach.good, h.reach.iss, by have := h.reach.nx; omega, h.reach.len, by have := h.reach.isl; omega⟩, fun i hi => by have := h.gen i hi; omega, h.good, h.its, by have := h.pot; omega, by have := h.cp; omega⟩
theorem OkS.refill {n k : Nat} {s : Sto} {is : List Int} (h : OkS n k s is) : OkS n k ⟨s.a, refillL s.q⟩ is := by
  have hr := refill_ok h.good
  exact ⟨h.reach, h.gen, hr.good, hr.its.trans h.its, by have := hr.pot; have := h.pot; simp only; omega, by have := hr.cp; have := h.cp; simp only; omega⟩
theorem OkS.room {n k : Nat} {s : Sto} {is : List Int} (h : OkS n k s is) (hk : k ≤ 1000000) (hr : s.a.id ≠ []) : Room s.a := ⟨hr, by have := h.reach.nx; omega⟩
/-- Alloc alone: the queue is as it was. -/
theorem OkS.take {n k : Nat} {s : Sto} {is : List Int} (h : OkS n k s is) (hk : k ≤ 1000000) (hr : s.a.id ≠ []) {t : Int} (ht : TimeOk t) :
    ReachA n (k + 1) (takeA s.a t) (is ++ [takeH s.a]) ∧ ∀ i, i < s.a.sl.length → (slAt (takeA s.a t).sl i).g ≤ k := by
  have hg := h.reach.good
  obtain ⟨hl, h0, hid⟩ := hg.last hr
  refine ⟨⟨hg.take ht (h.room hk hr), ?_, by have := h.reach.nx; simp only [takeA]; omega, by simpa [takeA] using h.reach.len, by have := h.reach.isl; simp only [List.length_append, List.length_singleton]; omega⟩, ?_⟩
  · intro x hx
    rcases List.mem_append.1 hx with hx | hx
    · obtain ⟨k1, k2, k3, k4⟩ := h.reach.iss x hx
      simp only [takeA, List.length_set]
      rw [slAt_set hl]
      by_cases hk : hS x = lastI s.a
      · rw [if_pos hk]
        exact ⟨k1, k2, by rw [hk] at k3; exact k3, by simp⟩
      · rw [if_neg hk]; exact ⟨k1, k2, k3, k4⟩
    · obtain rfl : x = takeH s.a := by simpa using hx
      obtain ⟨t1, t2, t3⟩ := takeH_hnd hg (h.room hk hr)
      simp only [takeA, List.length_set]
      rw [slAt_set hl, if_pos t2]
      exact ⟨t1, by rw [t2]; exact hl, by rw [t3]; exact Int.le_refl _, by simp⟩
  · intro i hi
    simp only [takeA]
    rw [slAt_set hl]
    by_cases hi2 : i = lastI s.a
    · rw [if_pos hi2]; exact h.gen _ hl
    · rw [if_neg hi2]; exact h.gen i hi
theorem itA_take {a : Ar} (hg : Good a) (hr : a.id ≠ []) (t : Int) : itA (takeA a t) (lastI a) = ⟨t, a.nx, (lastI a : Int)⟩ := by
  obtain ⟨hl, _, _⟩ := hg.last hr
  simp [itA, takeA, slAt_set hl]
/-- Alloc and Put. -/
theorem OkS.put {n k : Nat} {s : Sto} {is : List Int} (h : OkS n k s is) (hk : k ≤ 1000000) (hr : s.a.id ≠ []) {t : Int} (ht : TimeOk t) :
    OkS n (k + 1) ⟨takeA s.a t, insertL s.q (itA (takeA s.a t) (lastI s.a))⟩ (is ++ [takeH s.a]) := by
  have hg := h.reach.good
  obtain ⟨h1, h2⟩ := h.take hk hr ht
  have e := itA_take hg hr t
  have ht1 : 0 ≤ (itA (takeA s.a t) (lastI s.a)).t := by rw [e]; exact ht.1
  have ht2 : (itA (takeA s.a t) (lastI s.a)).t ≤ MaxT := by rw [e]; exact ht.2
  have hd : ∀ x ∈ itemsL s.q, ¬ eqK (itA (takeA s.a t) (lastI s.a)) x := fun x hx he => by
    obtain ⟨i, i1, i2, rfl⟩ := mem_itemsA.1 (h.its.mem_iff.1 hx)
    have h3 := ((hg.ok i i1).2.2 i2).2.2.2
    rw [e] at he
    have := he.2
    simp only [itA] at this
    omega
  have hp := insert_pot h.good (itA (takeA s.a t) (lastI s.a))
  refine ⟨h1, fun i hi => by have := h2 i (by simpa [takeA] using hi); simp only; omega, insert_good h.good ht1 ht2 hd, ?_, by have := hp.1; have := h.pot; simp only; omega, by have := hp.2.2.2; have := h.cp; simp only; omega⟩
  exact (insert_its h.good ht1 ht2).trans ((h.its.cons _).trans (take_itemsA hg hr t).symm)
/-- Peek, Drop and Free, where there is an item. -/
theorem OkS.pop {n k : Nat} {s : Sto} {is : List Int} (h : OkS n k s is) (hk : k ≤ 1000000) {l' : Ld} {x : It} (hp : popL s.q = (l', x, true)) :
    ∃ i : Nat, x = itA s.a i ∧ i < s.a.sl.length ∧ (slAt s.a.sl i).s ≠ 0 ∧ OkS n (k + 1) ⟨freeAt s.a i, l'⟩ is ∧ peekL s.q = (refillL s.q, x, true) ∧ popL (refillL s.q) = (l', x, true) ∧ sortI (itemsL s.q) = x :: sortI (itemsL l') := by
  have hg := h.reach.good
  cases pop_ok h.good with
  | no e p => rw [p] at hp; simp at hp
  | yes y m p kk good its least pt mv cp bot =>
    rw [p] at hp
    simp only [Prod.mk.injEq, and_true] at hp
    obtain ⟨rfl, rfl⟩ := hp
    obtain ⟨i, i1, i2, e⟩ := mem_itemsA.1 (h.its.mem_iff.1 (its.mem_iff.1 List.mem_cons_self))
    have hgn := h.gen i i1
    obtain ⟨f1, f2⟩ := freeAt_put hg i1 i2 (by omega)
    refine ⟨i, e, i1, i2, ?_, kk, by rw [(pop_refill h.good).1]; exact p, Popped.sort h.good its least⟩
    refine ⟨⟨by rw [← f2]; exact hg.put f1, by rw [← f2]; exact put_iss h.reach.iss f1, by have := h.reach.nx; simp only [freeAt]; omega, by simpa [freeAt] using h.reach.len, by have := h.reach.isl; omega⟩, ?_, good, ?_, by have := h.pot; simp only; omega, by have := h.cp; simp only; omega⟩
    · intro j hj
      simp only [freeAt, List.length_set] at hj
      simp only [freeAt]
      rw [slAt_set i1]
      by_cases hji : j = i
      · rw [if_pos hji]; simp only [freeS]; omega
      · rw [if_neg hji]; have := h.gen j hj; omega
    · have h3 := (its.trans h.its).trans (free_itemsA i1 i2).symm
      rw [e] at h3
      exact h3.cons_inv
/-- A mark. -/
theorem OkS.mark {n k : Nat} {s : Sto} {is : List Int} (h : OkS n k s is) {i : Nat} (hi : i < s.a.sl.length) (hs : (slAt s.a.sl i).s ≠ 0) : OkS n k ⟨markA s.a i, s.q⟩ is := by
  have hg := h.reach.good
  obtain ⟨m1, m2⟩ := markA_moves hg hi hs
  refine ⟨⟨by rw [← m2]; exact hg.move m1, ?_, h.reach.nx, by simpa [markA, setS] using h.reach.len, h.reach.isl⟩, ?_, h.good, h.its.trans (mark_itemsA hi hs).symm, h.pot, h.cp⟩
  · intro x hx
    obtain ⟨k1, k2, k3, k4⟩ := h.reach.iss x hx
    simp only [markA, setS, List.length_set]
    rw [slAt_set hi]
    by_cases hk : hS x = i
    · rw [if_pos hk]
      exact ⟨k1, k2, by simp only [moveS]; rw [← hk]; exact k3, by simp [moveS]⟩
    · rw [if_neg hk]; exact ⟨k1, k2, k3, k4⟩
  · intro j hj
    simp only [markA, setS, List.length_set] at hj
    simp only [markA, setS]
    rw [slAt_set hi]
    by_cases hji : j = i
    · rw [if_pos hji]; simp only [moveS]; exact h.gen i hi
    · rw [if_neg hji]; exact h.gen j hj
/-- An event put behind TopStart does not change the first item. -/
theorem peek_stay {l : Ld} (hg : GoodL l) {l1 : Ld} {x : It} (hp : peekL l = (l1, x, true)) {it : It} (ht : l1.ts ≤ it.t) : peekL (insertL l1 it) = (insertL l1 it, x, true) := by
  cases pop_ok hg with
  | no e p kk => rw [kk] at hp; simp at hp
  | yes y m p kk good its least pt mv cp bot =>
    rw [kk] at hp
    simp only [Prod.mk.injEq, and_true] at hp
    obtain ⟨rfl, rfl⟩ := hp
    have e : insertL (refillL l) it = { refillL l with top := (refillL l).top ++ [it], mv := (refillL l).mv + 1, cp := (refillL l).cp + 1 } := by
      unfold insertL
      rw [if_pos ht]
    have hb : (insertL (refillL l) it).bot = y :: m.bot := by rw [e]; exact bot
    have hr : refillL (insertL (refillL l) it) = insertL (refillL l) it := refill_stop (fun hm => by have := hm.1; rw [hb] at this; simp at this)
    have h2 := (peek_yes (l := insertL (refillL l) it) (x := y) (xs := m.bot) (by rw [hr]; exact hb)).1
    rw [hr] at h2
    exact h2
end Go.Proofs.YtmfnfinbkdemkaaGreat
namespace Go.Proofs.YtmfnfinbkdemkaaGreat
open A5

/-- An operation of a script. -/
structure Oq where
  k : Int
  t : Int
  near : Bool
  deriving Inhabited
def timeO (o : Oq) : Int := if o.near then o.t % 40 else o.t % 1152921504606846977
theorem timeO_ok (o : Oq) : TimeOk (timeO o) := by
  unfold timeO TimeOk
  split <;> omega
/-- A step and its number; n: the number of slots. -/
noncomputable def stepS (n : Nat) (s : Sto) (o : Oq) : Sto × Int :=
  if o.k % 5 < 2 then (if s.a.id = [] then (s, -1) else (⟨takeA s.a (timeO o), insertL s.q (itA (takeA s.a (timeO o)) (lastI s.a))⟩, takeH s.a))
  else if o.k % 5 = 2 then (if (popL s.q).2.2 = true then (⟨freeAt s.a (popL s.q).2.1.s.toNat, (popL s.q).1⟩, (popL s.q).2.1.t) else (⟨s.a, refillL s.q⟩, -1))
  else if o.k % 5 = 3 then (if (slAt s.a.sl (o.t % n).toNat).s = 1 then (⟨markA s.a (o.t % n).toNat, s.q⟩, 1) else (s, 0))
  else (⟨s.a, refillL s.q⟩, (peekL s.q).2.1.q)
/-- The handles issued by a step. -/
noncomputable def issS (s : Sto) (o : Oq) (is : List Int) : List Int := if o.k % 5 < 2 ∧ s.a.id ≠ [] then is ++ [takeH s.a] else is
theorem stepS_full {n : Nat} {s : Sto} {o : Oq} (h : o.k % 5 < 2) (hf : s.a.id = []) : stepS n s o = (s, -1) := by rw [stepS, if_pos h, if_pos hf]
theorem stepS_put {n : Nat} {s : Sto} {o : Oq} (h : o.k % 5 < 2) (hf : s.a.id ≠ []) : stepS n s o = (⟨takeA s.a (timeO o), insertL s.q (itA (takeA s.a (timeO o)) (lastI s.a))⟩, takeH s.a) := by rw [stepS, if_pos h, if_neg hf]
theorem stepS_none {n : Nat} {s : Sto} {o : Oq} (h : o.k % 5 = 2) (hp : (popL s.q).2.2 = false) : stepS n s o = (⟨s.a, refillL s.q⟩, -1) := by
  rw [stepS, if_neg (by omega), if_pos h, if_neg (by rw [hp]; simp)]
theorem stepS_pop {n : Nat} {s : Sto} {o : Oq} (h : o.k % 5 = 2) {l' : Ld} {x : It} (hp : popL s.q = (l', x, true)) : stepS n s o = (⟨freeAt s.a x.s.toNat, l'⟩, x.t) := by
  rw [stepS, if_neg (by omega), if_pos h, hp, if_pos rfl]
theorem stepS_mark {n : Nat} {s : Sto} {o : Oq} (h : o.k % 5 = 3) (hs : (slAt s.a.sl (o.t % n).toNat).s = 1) : stepS n s o = (⟨markA s.a (o.t % n).toNat, s.q⟩, 1) := by
  rw [stepS, if_neg (by omega), if_neg (by omega), if_pos h, if_pos hs]
theorem stepS_miss {n : Nat} {s : Sto} {o : Oq} (h : o.k % 5 = 3) (hs : (slAt s.a.sl (o.t % n).toNat).s ≠ 1) : stepS n s o = (s, 0) := by
  rw [stepS, if_neg (by omega), if_neg (by omega), if_pos h, if_neg hs]
theorem stepS_peek {n : Nat} {s : Sto} {o : Oq} (h : o.k % 5 = 4) : stepS n s o = (⟨s.a, refillL s.q⟩, (peekL s.q).2.1.q) := by
  rw [stepS, if_neg (by omega), if_neg (by omega), if_neg (by omega)]
theorem peek_none {l : Ld} (hg : GoodL l) (h : (popL l).2.2 = false) : peekL l = (refillL l, zeroI, false) ∧ itemsL l = [] := by
  cases pop_ok hg with
  | no e p kk => exact ⟨kk, e⟩
  | yes x m p => rw [p] at h; simp at h
theorem pop_some {l : Ld} (h : (popL l).2.2 = true) : popL l = ((popL l).1, (popL l).2.1, true) := by rw [← h]
/-- Drop of a queue whose Peek gave nothing. -/
theorem pop_none {l : Ld} (hg : GoodL l) (h : (popL l).2.2 = false) : popL l = (refillL l, zeroI, false) := by
  cases pop_ok hg with
  | no e p kk => exact p
  | yes x m p => rw [p] at h; simp at h
theorem step_okS {n k : Nat} {s : Sto} {is : List Int} (h : OkS n k s is) (hn : 1 ≤ n) (hk : k ≤ 1000000) (o : Oq) : OkS n (k + 1) (stepS n s o).1 (issS s o is) := by
  have hlen := h.reach.len
  have hm : (o.t % (n : Int)).toNat < n := by have h1 := Int.emod_lt_of_pos o.t (by omega : (0 : Int) < n); have h2 := Int.emod_nonneg o.t (by omega : (n : Int) ≠ 0); omega
  rcases (by omega : o.k % 5 < 2 ∨ o.k % 5 = 2 ∨ o.k % 5 = 3 ∨ o.k % 5 = 4) with h0 | h0 | h0 | h0
  · by_cases hf : s.a.id = []
    · rw [stepS_full h0 hf, issS, if_neg (fun e => e.2 hf)]
      exact h.more (by omega)
    · rw [stepS_put h0 hf, issS, if_pos ⟨h0, hf⟩]
      exact h.put hk hf (timeO_ok o)
  · rw [issS, if_neg (fun e => by omega)]
    cases hp : (popL s.q).2.2 with
    | false => rw [stepS_none h0 hp]; exact h.refill.more (by omega)
    | true =>
      obtain ⟨i, e, -, -, ho, -⟩ := h.pop hk (pop_some hp)
      rw [stepS_pop h0 (pop_some hp), e]
      simpa [itA] using ho
  · rw [issS, if_neg (fun e => by omega)]
    by_cases hs : (slAt s.a.sl (o.t % n).toNat).s = 1
    · rw [stepS_mark h0 hs]
      exact (h.mark (by rw [hlen]; exact hm) (by rw [hs]; omega)).more (by omega)
    · rw [stepS_miss h0 hs]; exact h.more (by omega)
  · rw [stepS_peek h0, issS, if_neg (fun e => by omega)]
    exact h.refill.more (by omega)
/-- A step's number, of an allocation: a new handle of a free slot's generation, or -1 where no slot is free. -/
theorem step_handle {n k : Nat} {s : Sto} {is : List Int} (h : OkS n k s is) (hk : k ≤ 1000000) {o : Oq} (h0 : o.k % 5 < 2) :
    ((stepS n s o).2 = -1 ↔ liveL s.a.sl = n) ∧ ((stepS n s o).2 ≠ -1 → (stepS n s o).2 ∉ is ∧ issS s o is = is ++ [(stepS n s o).2] ∧ hS (stepS n s o).2 < n ∧ (slAt (stepS n s o).1.a.sl (hS (stepS n s o).2)).s = 1 ∧ (slAt (stepS n s o).1.a.sl (hS (stepS n s o).2)).g = (stepS n s o).2 / 64 ∧ 0 ≤ (stepS n s o).2) := by
  have hg := h.reach.good
  have hc := hg.count
  have hlen := h.reach.len
  by_cases hf : s.a.id = []
  · rw [stepS_full h0 hf]
    rw [hf] at hc
    simp only [List.length_nil, Nat.zero_add] at hc
    exact ⟨⟨fun _ => hc.trans hlen, fun _ => rfl⟩, fun e => absurd rfl e⟩
  · obtain ⟨hl, h00, hid⟩ := hg.last hf
    obtain ⟨t1, t2, t3⟩ := takeH_hnd hg (h.room hk hf)
    have hpos : 0 < s.a.id.length := List.length_pos_iff.2 hf
    rw [stepS_put h0 hf, issS, if_pos ⟨h0, hf⟩]
    simp only
    refine ⟨⟨fun e => by have := t1.1; omega, fun e => by omega⟩, fun _ => ⟨take_fresh hg h.reach.iss (h.room hk hf), trivial, by rw [t2]; omega, ?_, ?_, t1.1⟩⟩
    · simp only [takeA]; rw [t2, slAt_set hl, if_pos rfl]
    · simp only [takeA]; rw [t2, slAt_set hl, if_pos rfl, t3]
/-- The script. -/
noncomputable def runS (n : Nat) (os : List Oq) : Sto := os.foldl (fun s o => (stepS n s o).1) ⟨newA n, newL⟩
noncomputable def issuedS (n : Nat) (os : List Oq) : List Int := (os.foldl (fun p o => ((stepS n p.1 o).1, issS p.1 o p.2)) ((⟨newA n, newL⟩ : Sto), ([] : List Int))).2
theorem fold_fst (n : Nat) : ∀ (os : List Oq) (s : Sto) (is : List Int), (os.foldl (fun p o => ((stepS n p.1 o).1, issS p.1 o p.2)) (s, is)).1 = os.foldl (fun s o => (stepS n s o).1) s
  | [], _, _ => rfl
  | o :: os, s, is => by
    rw [List.foldl_cons, List.foldl_cons]
    exact fold_fst n os _ _
theorem runS_snoc (n : Nat) (os : List Oq) (o : Oq) : runS n (os ++ [o]) = (stepS n (runS n os) o).1 := by simp [runS]
theorem issuedS_snoc (n : Nat) (os : List Oq) (o : Oq) : issuedS n (os ++ [o]) = issS (runS n os) o (issuedS n os) := by
  unfold issuedS runS
  rw [List.foldl_append, List.foldl_cons, List.foldl_nil, fold_fst]
theorem run_okS {n : Nat} (h1 : 1 ≤ n) (h2 : n ≤ 64) (os : List Oq) : ∀ k, k ≤ os.length → k ≤ 1000000 → OkS n k (runS n (os.take k)) (issuedS n (os.take k))
  | 0, _, _ => by rw [List.take_zero]; exact okS_new h1 h2
  | k + 1, h, hk => by
    rw [List.take_succ_eq_append_getElem (by omega), runS_snoc, issuedS_snoc]
    exact step_okS (run_okS h1 h2 os k (by omega) (by omega)) h1 (by omega) _
/-- The queued items, in order, are the live slots. -/
theorem OkS.items {n k : Nat} {s : Sto} {is : List Int} (h : OkS n k s is) : (sortI (itemsL s.q)).length = liveL s.a.sl ∧ StrictI (sortI (itemsL s.q)) ∧ (∀ x ∈ sortI (itemsL s.q), ∃ i : Nat, x = itA s.a i ∧ i < n ∧ (slAt s.a.sl i).s ≠ 0) ∧ ValidOk s.a := by
  refine ⟨by rw [sortI_length, h.its.length_eq, itemsA_length], sortI_strict h.good.dist, fun x hx => ?_, h.reach.good.valid⟩
  obtain ⟨i, h1, h2, e⟩ := mem_itemsA.1 (h.its.mem_iff.1 ((sortI_perm _).mem_iff.1 hx))
  exact ⟨i, e, by have := h.reach.len; omega, h2⟩
/-- Peek. -/
theorem OkS.first {n k : Nat} {s : Sto} {is : List Int} (h : OkS n k s is) : sortI (itemsL (refillL s.q)) = sortI (itemsL s.q) ∧ ((peekL s.q).2.2 = true ↔ 0 < (sortI (itemsL s.q)).length) := by
  refine ⟨sortI_of_perm (refill_ok h.good).good.dist (refill_ok h.good).its, ?_⟩
  cases pop_ok h.good with
  | no e p kk => rw [kk, e]; simp [sortI]
  | yes x m p kk good its least => rw [kk, Popped.sort h.good its least]; simp
end Go.Proofs.YtmfnfinbkdemkaaGreat
