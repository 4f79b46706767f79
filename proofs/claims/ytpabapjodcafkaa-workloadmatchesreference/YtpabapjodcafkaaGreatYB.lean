/- Plain maths: workloads of layer 9: Run over a ladder queue, Sorted over a list, a drain, a shift of all times. Nothing of the program. -/
/- Plain maths: the sorted list of layer 9 gives what Run gives; a drain gives every item once; a shift of all times. Nothing of the program. -/
import Derived.Test.YtpabapjodcafkaaGreatNE
namespace Go.Proofs.YtpabapjodcafkaaGreat

structure Wo where
  p : Bool
  t : Int
/-- The queue behind n insertions, the next number being i. -/
structure ReachW (n i : Nat) (l : Ld) : Prop where
  good : GoodL l
  q : ∀ x ∈ itemsL l, x.q < i
  len : lenD l ≤ n
  pot : pot l ≤ 6 * n
  cp : l.cp ≤ 5 * n
  mv0 : (n : Int) ≤ l.mv
  cp0 : (n : Int) ≤ l.cp
theorem reachW_new : ReachW 0 0 newL := ⟨newL_good, fun x hx => by simp [itemsL, newL, itsRs] at hx, by simp [lenD, newL], by simp [pot, newL, potRs], by simp [newL], by simp [newL], by simp [newL]⟩
theorem ReachW.fresh {n i : Nat} {l : Ld} (h : ReachW n i l) (it : It) (hq : it.q = (i : Int)) : ∀ x ∈ itemsL l, ¬ eqK it x := fun x hx he => by
  have := h.q x hx
  have := he.2
  omega
theorem ReachW.insert {n i : Nat} {l : Ld} (h : ReachW n i l) (it : It) (h0 : 0 ≤ it.t ∧ it.t ≤ MaxT) (hq : it.q = (i : Int)) : ReachW (n + 1) (i + 1) (insertL l it) ∧ lenD (insertL l it) = lenD l + 1 := by
  have hp := insert_its h.good h0.1 h0.2
  have hi := insert_pot h.good it
  have hl := hp.length_eq
  rw [← lenD_its, List.length_cons, ← lenD_its] at hl
  have e1 := h.len; have e2 := h.pot; have e3 := h.cp; have e4 := h.mv0; have e5 := h.cp0
  refine ⟨⟨insert_good h.good h0.1 h0.2 (h.fresh it hq), fun x hx => ?_, by omega, by omega, by omega, by omega, by omega⟩, hl⟩
  rcases List.mem_cons.1 (hp.subset hx) with rfl | hx
  · omega
  · have := h.q x hx; omega
theorem ReachW.mv {n i : Nat} {l : Ld} (h : ReachW n i l) : l.mv ≤ 6 * n := Int.le_trans (mv_pot l) h.pot
/-- A removal, by cases. -/
inductive PopsW (n i : Nat) (l : Ld) : Prop
  | no (e : itemsL l = []) (p2 : (popL l).2 = (zeroI, false)) (e2 : itemsL (popL l).1 = []) (reach : ReachW n (i + 1) (popL l).1) (len : lenD (popL l).1 = 0) (len0 : lenD l = 0)
  | yes (x : It) (p2 : (popL l).2 = (x, true)) (its : (x :: itemsL (popL l).1).Perm (itemsL l)) (least : ∀ y ∈ itemsL (popL l).1, ltI x y) (reach : ReachW n (i + 1) (popL l).1) (len : lenD (popL l).1 + 1 = lenD l)
theorem ReachW.pop {n i : Nat} {l : Ld} (h : ReachW n i l) : PopsW n i l := by
  have hr := refill_ok h.good
  have e1 := h.len; have e2 := h.pot; have e3 := h.cp; have e8 := h.mv0; have e9 := h.cp0
  cases pop_ok h.good with
  | no e p _ =>
    have hl := hr.its.length_eq
    rw [← lenD_its, ← lenD_its] at hl
    have e4 := hr.pot; have e5 := hr.cp; have e6 := mv_pot (refillL l); have e10 := hr.mv
    have h1 := hr.its
    rw [e] at h1
    have h2 : itemsL (refillL l) = [] := List.perm_nil.1 h1
    have h3 : lenD l = 0 := by rw [lenD_its, e]; rfl
    refine .no e (by rw [p]) (by rw [p]; exact h2) ?_ (by rw [p]; simp only; omega) h3
    rw [p]
    exact ⟨hr.good, fun x hx => by have := h.q x (hr.its.subset hx); omega, by simp only; omega, by simp only; omega, by simp only; omega, by simp only; omega, by simp only; omega⟩
  | yes x l' p _ good its least hpot mv cp bot =>
    have hl := its.length_eq
    rw [List.length_cons, ← lenD_its, ← lenD_its] at hl
    have e6 := mv_pot l'
    refine .yes x (by rw [p]) (by rw [p]; exact its) (by rw [p]; exact least) ?_ (by rw [p]; exact hl)
    rw [p]
    exact ⟨good, fun y hy => by have := h.q y (its.subset (List.mem_cons_of_mem _ hy)); omega, by simp only; omega, by simp only; omega, by simp only; omega, by simp only; omega, by simp only; omega⟩
/-- The state of Run. -/
structure Sw where
  l : Ld
  out : List It
  ins : Nat
  dep : Nat
  mx : Nat
noncomputable def nxtW (s : Sw) (k : Nat) (o : Wo) : Ld := if o.p = true then (popL s.l).1 else insertL s.l ⟨o.t, (k : Nat), 0⟩
noncomputable def stepW (s : Sw) (k : Nat) (o : Wo) : Sw :=
  ⟨nxtW s k o, if o.p = true then (if (popL s.l).2.2 = true then s.out ++ [(popL s.l).2.1] else s.out) else s.out, if o.p = true then s.ins else s.ins + 1, max s.dep (nxtW s k o).rs.length, max s.mx (lenD (nxtW s k o))⟩
noncomputable def runW (os : List Wo) : Nat → Sw
  | 0 => ⟨newL, [], 0, 0, 0⟩
  | k + 1 => if h : k < os.length then stepW (runW os k) k os[k] else runW os k
theorem runW_succ {os : List Wo} {k : Nat} (h : k < os.length) : runW os (k + 1) = stepW (runW os k) k os[k] := by simp only [runW]; rw [dif_pos h]
/-- What a script keeps. -/
structure OkW (k : Nat) (s : Sw) : Prop where
  reach : ReachW s.ins k s.l
  ik : s.ins ≤ k
  cnt : s.out.length + lenD s.l = s.ins
  dep : s.dep ≤ 4
  mx : s.mx ≤ s.ins
  mx0 : s.ins = 0 ∨ 0 < s.mx
theorem ReachW.mono {n i j : Nat} {l : Ld} (h : ReachW n i l) (hij : i ≤ j) : ReachW n j l := ⟨h.good, fun x hx => by have := h.q x hx; omega, h.len, h.pot, h.cp, h.mv0, h.cp0⟩
theorem OkW.step {k : Nat} {s : Sw} (h : OkW k s) {o : Wo} (hb : 0 ≤ o.t ∧ o.t ≤ MaxT) : OkW (k + 1) (stepW s k o) := by
  have e1 := h.ik; have e2 := h.cnt; have e3 := h.dep; have e4 := h.mx; have e5 := h.mx0
  obtain ⟨p, t⟩ := o
  cases p with
  | false =>
    have hi := h.reach.insert ⟨t, (k : Nat), 0⟩ hb rfl
    have hg := hi.1.good.len
    have hl := hi.2
    have hm := hi.1.len
    simp only [stepW, nxtW, Bool.false_eq_true, if_false]
    exact ⟨hi.1, by simp only; omega, by simp only; omega, by simp only; omega, by simp only; omega, by simp only; omega⟩
  | true =>
    simp only [stepW, nxtW, if_true]
    cases h.reach.pop with
    | no e p2 its2 reach len len0 =>
      have hg := reach.good.len
      rw [p2]
      exact ⟨reach, by simp only; omega, by simp; omega, by simp only; omega, by simp only; omega, by simp only; omega⟩
    | yes x p2 its least reach len =>
      have hg := reach.good.len
      have hm := h.reach.len
      rw [p2]
      exact ⟨reach, by simp only; omega, by simp; omega, by simp only; omega, by simp only; omega, by simp only; omega⟩
theorem okW (os : List Wo) (hb : ∀ o ∈ os, 0 ≤ o.t ∧ o.t ≤ MaxT) : ∀ k, OkW k (runW os k)
  | 0 => ⟨reachW_new, Nat.le_refl _, rfl, Nat.zero_le _, Nat.le_refl _, .inl rfl⟩
  | k + 1 => by
    have h := okW os hb k
    simp only [runW]
    split
    · rename_i hk
      exact h.step (hb _ (List.getElem_mem hk))
    · exact ⟨h.reach.mono (Nat.le_succ k), Nat.le_succ_of_le h.ik, h.cnt, h.dep, h.mx, h.mx0⟩
/-- The insertions among the first k. -/
def insW (os : List Wo) : Nat → List It
  | 0 => []
  | k + 1 => if h : k < os.length then (if os[k].p = true then insW os k else insW os k ++ [⟨os[k].t, (k : Nat), 0⟩]) else insW os k
theorem mem_insW {os : List Wo} {x : It} : ∀ {k : Nat}, x ∈ insW os k → ∃ j, ∃ h : j < os.length, j < k ∧ os[j].p = false ∧ x = ⟨os[j].t, (j : Nat), 0⟩
  | 0, hx => by simp [insW] at hx
  | k + 1, hx => by
    simp only [insW] at hx
    split at hx
    · rename_i hk
      split at hx
      · obtain ⟨j, hj, h1, h2⟩ := mem_insW hx
        exact ⟨j, hj, by omega, h2⟩
      · rename_i hp
        rcases List.mem_append.1 hx with hx | hx
        · obtain ⟨j, hj, h1, h2⟩ := mem_insW hx
          exact ⟨j, hj, by omega, h2⟩
        · exact ⟨k, hk, by omega, by simpa using hp, by simpa using hx⟩
    · obtain ⟨j, hj, h1, h2⟩ := mem_insW hx
      exact ⟨j, hj, by omega, h2⟩
theorem insW_seq {os : List Wo} : ∀ {k : Nat}, (insW os k).Pairwise (fun x y => x.q < y.q)
  | 0 => List.Pairwise.nil
  | k + 1 => by
    have ih := insW_seq (os := os) (k := k)
    simp only [insW]
    split
    · split
      · exact ih
      · refine List.pairwise_append.2 ⟨ih, List.pairwise_singleton _ _, fun x hx y hy => ?_⟩
        obtain ⟨j, _, h1, _, rfl⟩ := mem_insW hx
        obtain rfl : y = _ := by simpa using hy
        simp only; omega
    · exact ih
theorem insW_len {os : List Wo} (hb : ∀ o ∈ os, 0 ≤ o.t ∧ o.t ≤ MaxT) : ∀ k, (insW os k).length = (runW os k).ins
  | 0 => rfl
  | k + 1 => by
    have ih := insW_len hb k
    simp only [insW, runW]
    split
    · simp only [stepW]
      split <;> simp [ih]
    · exact ih
/-- What was inserted is out or in the queue. -/
theorem permW {os : List Wo} (hb : ∀ o ∈ os, 0 ≤ o.t ∧ o.t ≤ MaxT) : ∀ k, ((runW os k).out ++ itemsL (runW os k).l).Perm (insW os k)
  | 0 => by simp [runW, insW, itemsL, newL, itsRs]
  | k + 1 => by
    have ih := permW hb k
    have hok := okW os hb k
    simp only [insW, runW]
    split
    · rename_i hk
      simp only [stepW, nxtW]
      split
      · cases hok.reach.pop with
        | no e p2 its2 reach len len0 =>
          rw [p2]
          simp only [Bool.false_eq_true, if_false, its2]
          rw [e] at ih
          exact ih
        | yes x p2 its least reach len =>
          rw [p2]
          simp only [if_true, List.append_assoc]
          exact (its.append_left _).trans ih
      · have hp := insert_its hok.reach.good (it := ⟨os[k].t, (k : Nat), 0⟩) (hb _ (List.getElem_mem hk)).1 (hb _ (List.getElem_mem hk)).2
        refine (hp.append_left _).trans ?_
        refine List.perm_middle.trans ?_
        refine (List.Perm.cons _ ih).trans ?_
        exact List.perm_append_comm (l₁ := [_])
    · exact ih
/-- The least of a list is one. -/
theorem least_one {x y : It} {a b : List It} (hx : ∀ z ∈ a, ltI x z) (hy : ∀ z ∈ b, ltI y z) (p : (x :: a).Perm (y :: b)) : x = y ∧ a.Perm b := by
  have h1 := p.symm.subset (List.mem_cons_self)
  have h2 := p.subset (List.mem_cons_self)
  have e : x = y := by
    rcases List.mem_cons.1 h1 with e | h1
    · exact e.symm
    rcases List.mem_cons.1 h2 with e | h2
    · exact e
    exact absurd (hy _ h2) (ltI_asymm (hx _ h1))
  subst e
  exact ⟨rfl, p.cons_inv⟩
end Go.Proofs.YtpabapjodcafkaaGreat
namespace Go.Proofs.YtpabapjodcafkaaGreat

def tAt (q : List It) (i : Nat) : Int := (q.getD i zeroI).t
theorem tAt_get {q : List It} {i : Nat} (h : i < q.length) : tAt q i = q[i].t := by simp [tAt, List.getD, List.getElem?_eq_getElem h]
/-- The first of the least times among the first n. -/
def lstN (q : List It) : Nat → Nat
  | 0 => 0
  | n + 1 => if tAt q n < tAt q (lstN q n) then n else lstN q n
theorem lstN_lt {q : List It} (h : 0 < q.length) : ∀ {n : Nat}, n ≤ q.length → lstN q n < q.length
  | 0, _ => h
  | n + 1, hn => by
    simp only [lstN]
    split
    · omega
    · exact lstN_lt h (by omega)
theorem lstN_le {q : List It} : ∀ {n : Nat}, (∀ m, m < n → tAt q (lstN q n) ≤ tAt q m) ∧ (∀ m, m < lstN q n → tAt q (lstN q n) < tAt q m) ∧ (0 < n → lstN q n < n)
  | 0 => ⟨fun m hm => by omega, fun m hm => by simp [lstN] at hm, fun h => by omega⟩
  | n + 1 => by
    have ih := lstN_le (q := q) (n := n)
    simp only [lstN]
    split
    · rename_i h
      refine ⟨fun m hm => ?_, fun m hm => ?_, fun _ => Nat.lt_succ_self n⟩
      · rcases Nat.lt_succ_iff_lt_or_eq.1 hm with hm | rfl
        · have := ih.1 m hm; omega
        · exact Int.le_refl _
      · have := ih.1 m hm; omega
    · rename_i h
      refine ⟨fun m hm => ?_, ih.2.1, fun _ => ?_⟩
      · rcases Nat.lt_succ_iff_lt_or_eq.1 hm with hm | rfl
        · exact ih.1 m hm
        · omega
      · rcases Nat.eq_zero_or_pos n with rfl | hn
        · simp [lstN]
        · have := ih.2.2 hn; omega
def SeqQ (q : List It) : Prop := q.Pairwise (fun x y => x.q < y.q)
theorem erase_perm : ∀ {q : List It} {j : Nat} (h : j < q.length), (q[j] :: q.eraseIdx j).Perm q
  | x :: q, 0, _ => List.Perm.refl _
  | x :: q, j + 1, h => by
    have ih := erase_perm (q := q) (j := j) (by simpa using h)
    simp only [List.getElem_cons_succ, List.eraseIdx_cons_succ]
    exact (List.Perm.swap _ _ _).trans (ih.cons x)
theorem mem_erase {q : List It} {j : Nat} {y : It} (hy : y ∈ q.eraseIdx j) : ∃ i, ∃ h : i < q.length, i ≠ j ∧ y = q[i] := by
  obtain ⟨i, h1, h2, h3⟩ := List.mem_eraseIdx_iff_getElem.1 hy
  exact ⟨i, h1, h2, h3.symm⟩
/-- The first of the least times is the least item. -/
theorem least_at {q : List It} (hs : SeqQ q) (h : 0 < q.length) : ∀ y ∈ q.eraseIdx (lstN q q.length), ltI (q[lstN q q.length]'(lstN_lt h (Nat.le_refl _))) y := by
  intro y hy
  obtain ⟨i, hi, hij, rfl⟩ := mem_erase hy
  have hl := lstN_lt h (Nat.le_refl q.length)
  have h1 := (lstN_le (q := q) (n := q.length)).1 i hi
  have h2 := (lstN_le (q := q) (n := q.length)).2.1 i
  rw [tAt_get hl, tAt_get hi] at h1 h2
  rcases Nat.lt_or_gt_of_ne hij with h3 | h3
  · exact .inl (h2 h3)
  · have := List.pairwise_iff_getElem.1 hs _ _ hl hi h3
    unfold ltI
    omega
/-- The state of Sorted. -/
structure Qw where
  q : List It
  out : List It
def stepQ (s : Qw) (k : Nat) (o : Wo) : Qw :=
  if o.p = true then (if h : 0 < s.q.length then ⟨s.q.eraseIdx (lstN s.q s.q.length), s.out ++ [s.q[lstN s.q s.q.length]'(lstN_lt h (Nat.le_refl _))]⟩ else s) else ⟨s.q ++ [⟨o.t, (k : Nat), 0⟩], s.out⟩
def runQ (os : List Wo) : Nat → Qw
  | 0 => ⟨[], []⟩
  | k + 1 => if h : k < os.length then stepQ (runQ os k) k os[k] else runQ os k
theorem runQ_succ {os : List Wo} {k : Nat} (h : k < os.length) : runQ os (k + 1) = stepQ (runQ os k) k os[k] := by simp only [runQ]; rw [dif_pos h]
structure RelQ (k : Nat) (s : Qw) (r : Sw) : Prop where
  out : s.out = r.out
  q : s.q.Perm (itemsL r.l)
  seq : SeqQ s.q
  lt : ∀ x ∈ s.q, x.q < k
theorem relQ {os : List Wo} (hb : ∀ o ∈ os, 0 ≤ o.t ∧ o.t ≤ MaxT) : ∀ k, RelQ k (runQ os k) (runW os k)
  | 0 => ⟨rfl, by simp [runQ, runW, itemsL, newL, itsRs], List.Pairwise.nil, fun x hx => by simp [runQ] at hx⟩
  | k + 1 => by
    have ih := relQ hb k
    have hok := okW os hb k
    simp only [runQ, runW]
    split
    · rename_i hk
      simp only [stepQ, stepW, nxtW]
      split
      · cases hok.reach.pop with
        | no e p2 its2 reach len len0 =>
          have hq : (runQ os k).q = [] := List.perm_nil.1 (by have := ih.q; rw [e] at this; exact this)
          rw [dif_neg (by rw [hq]; simp), p2]
          simp only [Bool.false_eq_true, if_false]
          exact ⟨ih.out, by rw [hq]; simp only [its2]; exact List.Perm.refl _, ih.seq, fun x hx => by have := ih.lt x hx; omega⟩
        | yes x p2 its least reach len =>
          have hq : 0 < (runQ os k).q.length := by have := ih.q.length_eq; rw [← lenD_its] at this; omega
          have hl := lstN_lt hq (Nat.le_refl _)
          rw [dif_pos hq, p2]
          simp only [if_true]
          obtain ⟨e1, e2⟩ := least_one (least_at ih.seq hq) least ((erase_perm hl).trans (ih.q.trans its.symm))
          exact ⟨by rw [ih.out]; simp only [e1], e2, ih.seq.sublist (List.eraseIdx_sublist ..), fun y hy => by have := ih.lt y (List.mem_of_mem_eraseIdx hy); omega⟩
      · have hp := insert_its hok.reach.good (it := ⟨os[k].t, (k : Nat), 0⟩) (hb _ (List.getElem_mem hk)).1 (hb _ (List.getElem_mem hk)).2
        refine ⟨ih.out, ?_, ?_, fun x hx => ?_⟩
        · exact (List.perm_append_comm.trans (ih.q.cons _)).trans hp.symm
        · refine List.pairwise_append.2 ⟨ih.seq, List.pairwise_singleton _ _, fun x hx y hy => ?_⟩
          obtain rfl : y = _ := by simpa using hy
          exact ih.lt x hx
        · rcases List.mem_append.1 hx with hx | hx
          · have := ih.lt x hx; omega
          · obtain rfl : x = _ := by simpa using hx
            simp only; omega
    · exact ⟨ih.out, ih.q, ih.seq, fun x hx => by have := ih.lt x hx; omega⟩
/-- Equal prefixes run alike. -/
theorem runW_pre {os xs : List Wo} : ∀ {k : Nat}, k ≤ os.length → runW (os ++ xs) k = runW os k
  | 0, _ => rfl
  | k + 1, h => by
    rw [runW_succ (os := os ++ xs) (by simp; omega), runW_succ (os := os) (by omega), runW_pre (by omega), List.getElem_append_left (by omega)]
def popO : Wo := ⟨true, 0⟩
theorem pops_bd {os : List Wo} (hb : ∀ o ∈ os, 0 ≤ o.t ∧ o.t ≤ MaxT) (m : Nat) : ∀ o ∈ os ++ List.replicate m popO, 0 ≤ o.t ∧ o.t ≤ MaxT := fun o ho => by
  rcases List.mem_append.1 ho with ho | ho
  · exact hb o ho
  · rw [(List.mem_replicate.1 ho).2]; exact ⟨Int.le_refl (0 : Int), (by decide : (0 : Int) ≤ MaxT)⟩
/-- Removals behind a script give the items in order. -/
theorem drainW {os : List Wo} (hb : ∀ o ∈ os, 0 ≤ o.t ∧ o.t ≤ MaxT) (m : Nat) : ∀ n, n ≤ m →
    (runW (os ++ List.replicate m popO) (os.length + n)).out = (runW os os.length).out ++ (sortI (itemsL (runW os os.length).l)).take n ∧
    sortI (itemsL (runW (os ++ List.replicate m popO) (os.length + n)).l) = (sortI (itemsL (runW os os.length).l)).drop n
  | 0, _ => by rw [Nat.add_zero, runW_pre (Nat.le_refl _)]; simp
  | n + 1, hn => by
    have ih := drainW hb m n (by omega)
    have hok := okW (os ++ List.replicate m popO) (pops_bd hb m) (os.length + n)
    have hk : os.length + n < (os ++ List.replicate m popO).length := by simp; omega
    rw [← Nat.add_assoc, runW_succ hk]
    have hg : (os ++ List.replicate m popO)[os.length + n] = popO := by rw [List.getElem_append_right (by omega)]; simp
    rw [hg]
    generalize runW (os ++ List.replicate m popO) (os.length + n) = s at *
    generalize sortI (itemsL (runW os os.length).l) = S at *
    simp only [stepW, nxtW, popO, if_true]
    cases hok.reach.pop with
    | no e p2 its2 reach len len0 =>
      rw [p2]
      have h2 := ih.2
      rw [e] at h2
      have h3 : S.length ≤ n := List.drop_eq_nil_iff.1 h2.symm
      simp only [Bool.false_eq_true, if_false, its2]
      refine ⟨?_, ?_⟩
      · rw [ih.1, List.take_of_length_le h3, List.take_of_length_le (by omega)]
      · rw [List.drop_of_length_le (by omega)]; rfl
    | yes x p2 its least reach len =>
      rw [p2]
      have h2 := ih.2
      rw [Popped.sort hok.reach.good its least] at h2
      have h3 : n < S.length := by
        rcases Nat.lt_or_ge n S.length with h | h
        · exact h
        · rw [List.drop_of_length_le h] at h2; simp at h2
      rw [List.drop_eq_getElem_cons h3] at h2
      injection h2 with h4 h5
      simp only [if_true]
      refine ⟨?_, h5⟩
      rw [ih.1, List.append_assoc, h4, List.take_append_getElem h3]
/-- What a drain gives. -/
structure Drained (os : List Wo) (O : List It) : Prop where
  len : O.length = (runW os os.length).ins
  pre : O.take (runW os os.length).out.length = (runW os os.length).out
  ple : (runW os os.length).out.length ≤ O.length
  mem : ∀ i (h : i < O.length), ∃ j, ∃ hj : j < os.length, os[j].p = false ∧ O[i] = ⟨os[j].t, (j : Nat), 0⟩
  one : ∀ i j (hi : i < O.length) (hj : j < O.length), i < j → O[i].q ≠ O[j].q
  ord : ∀ i (h : i + 1 < O.length), (runW os os.length).out.length ≤ i → ltI O[i] O[i + 1]
theorem drained {os : List Wo} (hb : ∀ o ∈ os, 0 ≤ o.t ∧ o.t ≤ MaxT) {m : Nat} (hm : m = (runW os os.length).ins) :
    Drained os (runW (os ++ List.replicate m popO) (os ++ List.replicate m popO).length).out := by
  have hok := okW os hb os.length
  have hd := drainW hb m m (Nat.le_refl _)
  have hlen : (sortI (itemsL (runW os os.length).l)).length = lenD (runW os os.length).l := by rw [sortI_length, lenD_its]
  have hc := hok.cnt
  have e0 : (os ++ List.replicate m popO).length = os.length + m := by simp
  rw [e0, hd.1, List.take_of_length_le (by omega)]
  have hp : ((runW os os.length).out ++ sortI (itemsL (runW os os.length).l)).Perm (insW os os.length) := ((sortI_perm _).append_left _).trans (permW hb os.length)
  have hs := sortI_strict hok.reach.good.dist
  generalize sortI (itemsL (runW os os.length).l) = S at *
  generalize hBe : (runW os os.length).out = B at *
  refine ⟨by simp; omega, by rw [hBe]; simp, by rw [hBe]; simp, fun i h => ?_, ?_, fun i h hB => ?_⟩
  · obtain ⟨j, hj, _, h1, h2⟩ := mem_insW (hp.subset (List.getElem_mem h))
    exact ⟨j, hj, h1, h2⟩
  · have h1 : (insW os os.length).Pairwise (fun x y => x.q ≠ y.q) := insW_seq.imp (fun h => by omega)
    have h2 : (B ++ S).Pairwise (fun x y => x.q ≠ y.q) := List.Pairwise.perm h1 hp.symm (fun {_ _} h => fun e => h e.symm)
    exact fun i j hi hj hij => List.pairwise_iff_getElem.1 h2 i j hi hj hij
  · rw [hBe] at hB
    rw [List.getElem_append_right (by omega), List.getElem_append_right (by omega)]
    exact List.pairwise_iff_getElem.1 hs _ _ _ _ (by omega)
/-- All times shifted. -/
def shI (b : Int) (x : It) : It := ⟨x.t + b, x.q, x.s⟩
def shO (b : Int) (o : Wo) : Wo := ⟨o.p, o.t + b⟩
theorem shI_lt {b : Int} {x y : It} : ltI (shI b x) (shI b y) ↔ ltI x y := by unfold ltI shI; simp only; omega
structure RelS (b : Int) (r s : Sw) : Prop where
  out : s.out = r.out.map (shI b)
  its : (itemsL s.l).Perm ((itemsL r.l).map (shI b))
  ins : s.ins = r.ins
  mx : s.mx = r.mx
theorem relS {os : List Wo} {b : Int} (hb : ∀ o ∈ os, 0 ≤ o.t ∧ o.t ≤ MaxT) (hs : ∀ o ∈ os, 0 ≤ o.t + b ∧ o.t + b ≤ MaxT) : ∀ k, RelS b (runW os k) (runW (os.map (shO b)) k)
  | 0 => ⟨rfl, by simp [runW, itemsL, newL, itsRs], rfl, rfl⟩
  | k + 1 => by
    have ih := relS hb hs k
    have ha := okW os hb k
    have hb2 : ∀ o ∈ os.map (shO b), 0 ≤ o.t ∧ o.t ≤ MaxT := fun o ho => by
      obtain ⟨x, hx, rfl⟩ := List.mem_map.1 ho
      exact hs x hx
    have hc := okW (os.map (shO b)) hb2 k
    simp only [runW, List.length_map]
    split
    · rename_i hk
      have ho : (os.map (shO b))[k]'(by simpa using hk) = shO b os[k] := by simp
      rw [ho]
      have h1 := hb _ (List.getElem_mem hk)
      have h2 := hs _ (List.getElem_mem hk)
      generalize os[k] = o at *
      obtain ⟨p, t⟩ := o
      generalize runW os k = r at *
      generalize runW (os.map (shO b)) k = s at *
      cases p with
      | false =>
        have p1 := insert_its ha.reach.good (it := ⟨t, (k : Nat), 0⟩) h1.1 h1.2
        have p2 := insert_its hc.reach.good (it := ⟨t + b, (k : Nat), 0⟩) h2.1 h2.2
        have hp : (itemsL (insertL s.l ⟨t + b, (k : Nat), 0⟩)).Perm ((itemsL (insertL r.l ⟨t, (k : Nat), 0⟩)).map (shI b)) := by
          refine p2.trans ((ih.its.cons _).trans ?_)
          exact (p1.map (shI b)).symm
        have hl : lenD (insertL s.l ⟨t + b, (k : Nat), 0⟩) = lenD (insertL r.l ⟨t, (k : Nat), 0⟩) := by have := hp.length_eq; rw [lenD_its, lenD_its]; simpa using this
        simp only [shO, stepW, nxtW, Bool.false_eq_true, if_false]
        exact ⟨ih.out, hp, by simp only [ih.ins], by simp only [ih.mx, hl]⟩
      | true =>
        simp only [shO, stepW, nxtW, if_true]
        have e0 := ih.its.length_eq
        rw [List.length_map, ← lenD_its, ← lenD_its] at e0
        cases ha.reach.pop with
        | no e q2 its2 reach len len0 =>
          cases hc.reach.pop with
          | yes x' q2' its' least' reach' len' => omega
          | no e' q2' its2' reach' len' len0' =>
            rw [q2, q2']
            simp only [Bool.false_eq_true, if_false, len, len']
            exact ⟨ih.out, by simp only [its2, its2']; exact List.Perm.refl _, ih.ins, by simp only [ih.mx]⟩
        | yes x q2 its least reach len =>
          cases hc.reach.pop with
          | no e' q2' its2' reach' len' len0' => omega
          | yes x' q2' its' least' reach' len' =>
            rw [q2, q2']
            simp only [if_true]
            obtain ⟨e1, e2⟩ := least_one (x := x') (y := shI b x) (b := (itemsL (popL r.l).1).map (shI b)) least' (fun z hz => by
              obtain ⟨y, hy, rfl⟩ := List.mem_map.1 hz
              exact shI_lt.2 (least y hy)) (its'.trans (ih.its.trans (its.map (shI b)).symm))
            have hl : lenD (popL s.l).1 = lenD (popL r.l).1 := by omega
            exact ⟨by simp only [ih.out, e1, List.map_append, List.map_cons, List.map_nil], e2, ih.ins, by simp only [ih.mx, hl]⟩
    · exact ih
end Go.Proofs.YtpabapjodcafkaaGreat
