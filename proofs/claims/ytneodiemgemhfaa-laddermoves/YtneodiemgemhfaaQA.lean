/- Plain maths: what LadderMoves and LadderModel carry. -/
import Derived.Test.YtneodiemgemhfaaLP
namespace Go.Proofs.Ytneodiemgemhfaa

/-- The queue behind n insertions, the next number being i. -/
structure ReachM (n i : Nat) (l : Ld) : Prop where
  good : GoodL l
  q : ∀ x ∈ itemsL l, x.q < i
  len : lenD l ≤ n
  pot : pot l ≤ 6 * n
  cp : l.cp ≤ 5 * n
  mv0 : (n : Int) ≤ l.mv
  cp0 : (n : Int) ≤ l.cp
theorem reachM_new : ReachM 0 0 newL := ⟨newL_good, fun x hx => by simp [itemsL, newL, itsRs] at hx, by simp [lenD, newL], by simp [pot, newL, potRs], by simp [newL], by simp [newL], by simp [newL]⟩
theorem ReachM.fresh {n i : Nat} {l : Ld} (h : ReachM n i l) (it : It) (hq : it.q = (i : Int)) : ∀ x ∈ itemsL l, ¬ eqK it x := fun x hx he => by
  have := h.q x hx
  have := he.2
  omega
theorem ReachM.insert {n i : Nat} {l : Ld} (h : ReachM n i l) (it : It) (h0 : 0 ≤ it.t ∧ it.t ≤ MaxT) (hq : it.q = (i : Int)) : ReachM (n + 1) (i + 1) (insertL l it) := by
  have hp := insert_its h.good h0.1 h0.2
  have hi := insert_pot h.good it
  have hl := hp.length_eq
  rw [← lenD_its, List.length_cons, ← lenD_its] at hl
  have e1 := h.len; have e2 := h.pot; have e3 := h.cp; have e4 := h.mv0; have e5 := h.cp0
  refine ⟨insert_good h.good h0.1 h0.2 (h.fresh it hq), fun x hx => ?_, by omega, by omega, by omega, by omega, by omega⟩
  rcases List.mem_cons.1 (hp.subset hx) with rfl | hx
  · omega
  · have := h.q x hx; omega
/-- What a removal brings. -/
structure PopsM (n i : Nat) (l : Ld) (p : Ld × It × Bool) : Prop where
  reach : ReachM n (i + 1) p.1
  mv1 : l.mv ≤ p.1.mv
  mv2 : p.1.mv - l.mv ≤ 5 * (lenD l : Int)
  cp : p.1.cp = l.cp
  time : 0 ≤ p.2.1.t ∧ p.2.1.t ≤ MaxT
theorem ReachM.pop {n i : Nat} {l : Ld} (h : ReachM n i l) : PopsM n i l (popL l) := by
  have hr := refill_ok h.good
  have e1 := h.len; have e2 := h.pot; have e3 := h.cp; have e8 := h.mv0; have e9 := h.cp0
  have e7 := pot_len l
  cases pop_ok h.good with
  | no e p _ =>
    rw [p]
    have hl := hr.its.length_eq
    rw [← lenD_its, ← lenD_its] at hl
    have e4 := hr.pot; have e5 := hr.cp; have e6 := mv_pot (refillL l); have e10 := hr.mv
    exact ⟨⟨hr.good, fun x hx => by have := h.q x (hr.its.subset hx); omega, by simp only; omega, by simp only; omega, by simp only; omega, by simp only; omega, by simp only; omega⟩, hr.mv, by simp only; omega, hr.cp, Int.le_refl (0 : Int), (by decide : (0 : Int) ≤ MaxT)⟩
  | yes x l' p _ good its least hpot mv cp bot =>
    rw [p]
    have hl := its.length_eq
    rw [List.length_cons, ← lenD_its, ← lenD_its] at hl
    have e6 := mv_pot l'
    exact ⟨⟨good, fun y hy => by have := h.q y (its.subset (List.mem_cons_of_mem _ hy)); omega, by simp only; omega, by simp only; omega, by simp only; omega, by simp only; omega, by simp only; omega⟩, mv, by simp only; omega, cp, h.good.times (its.subset List.mem_cons_self)⟩
theorem ReachM.fit {n i : Nat} {l : LdR} (h : ReachM n i l.ld) (hk : n ≤ 10000) : Fit l ∧ l.cp ≤ 100000000000 := by
  have h1 := h.len; have h2 := h.pot; have h3 := mv_pot l.ld; have h4 := h.cp
  simp only [LdR.ld] at h2 h3 h4
  refine ⟨⟨h.good, by omega, ?_⟩, by omega⟩
  simp only [LdR.ld] at *
  omega
end Go.Proofs.Ytneodiemgemhfaa
