/- Plain maths: queues that scripts reach; the queues of head. -/
import Derived.Test.YtneodiemgemhfaaLK
namespace Go.Proofs.Ytneodiemgemhfaa

/-- What k insertions may have made. -/
structure ReachL (k : Nat) (l : Ld) : Prop where
  good : GoodL l
  q : ∀ x ∈ itemsL l, x.q < k
  len : lenD l ≤ k
  pot : pot l ≤ 6 * k
  cp : l.cp ≤ 5 * k
theorem reachL_new : ReachL 0 newL := ⟨newL_good, fun x hx => by simp [itemsL, newL, itsRs] at hx, by simp [lenD, newL], by simp [pot, newL, potRs], by simp [newL]⟩
theorem ReachL.mono {k m : Nat} {l : Ld} (h : ReachL k l) (hm : k ≤ m) : ReachL m l := ⟨h.good, fun x hx => by have := h.q x hx; omega, by have := h.len; omega, by have := h.pot; omega, by have := h.cp; omega⟩
theorem ReachL.fresh {k : Nat} {l : Ld} (h : ReachL k l) {it : It} (hq : (k : Int) ≤ it.q) : ∀ x ∈ itemsL l, ¬ eqK it x := fun x hx he => by
  have := h.q x hx
  have := he.2
  omega
theorem ReachL.insert {k : Nat} {l : Ld} (h : ReachL k l) {it : It} (h0 : 0 ≤ it.t) (h1 : it.t ≤ MaxT) (hq : (k : Int) ≤ it.q) {m : Nat} (hm : it.q < (m : Int)) (hkm : k + 1 ≤ m) : ReachL m (insertL l it) := by
  have hp := insert_its h.good h0 h1
  have hi := insert_pot h.good it
  have hl := hp.length_eq
  rw [← lenD_its, List.length_cons, ← lenD_its] at hl
  have e1 := h.len; have e2 := h.pot; have e3 := h.cp
  refine ⟨insert_good h.good h0 h1 (h.fresh hq), fun x hx => ?_, by omega, by omega, by omega⟩
  rcases List.mem_cons.1 (hp.subset hx) with rfl | hx
  · exact hm
  · have := h.q x hx; omega
theorem ReachL.pop {k : Nat} {l : Ld} (h : ReachL k l) : ReachL k (popL l).1 := by
  have hr := refill_ok h.good
  cases pop_ok h.good with
  | no e p _ =>
    rw [p]
    have hl := hr.its.length_eq
    rw [← lenD_its, ← lenD_its] at hl
    have e1 := h.len; have e2 := h.pot; have e3 := h.cp; have e4 := hr.pot; have e5 := hr.cp
    exact ⟨hr.good, fun x hx => h.q x (hr.its.subset hx), by simp only; omega, by simp only; omega, by simp only; omega⟩
  | yes x l' p _ good its least hpot mv cp bot =>
    rw [p]
    have hl := its.length_eq
    rw [List.length_cons, ← lenD_its, ← lenD_its] at hl
    have e1 := h.len; have e2 := h.pot; have e3 := h.cp
    exact ⟨good, fun y hy => h.q y (its.subset (List.mem_cons_of_mem _ hy)), by simp only; omega, by simp only; omega, by simp only; omega⟩
theorem ReachL.fit {k : Nat} {g : Ld} (h : ReachL k g) (hk : k ≤ 10000) {l : LdR} (hl : l.ld = g) : Fit l ∧ l.cp ≤ 100000000000 := by
  subst hl
  have h1 := h.len; have h2 := h.pot; have h3 := mv_pot l.ld; have h4 := h.cp
  simp only [LdR.ld] at h2 h3 h4
  refine ⟨⟨h.good, by omega, ?_⟩, by omega⟩
  simp only [LdR.ld] at *
  omega
def hIt (i : Nat) : It := ⟨100 - 10 * i, i, 0⟩
def hL : Nat → Ld
  | 0 => newL
  | i + 1 => insertL (hL i) (hIt i)
theorem hL_reach : ∀ i, i ≤ 6 → ReachL i (hL i)
  | 0, _ => reachL_new
  | i + 1, hi => (hL_reach i (by omega)).insert (by simp only [hIt]; omega) (by simp only [hIt]; unfold MaxT; omega) (Int.le_refl _) (by simp only [hIt]; omega) (Nat.le_refl _)
def hR : Rg := ⟨50, 7, 0, [[⟨50, 5, 0⟩], [⟨60, 4, 0⟩], [⟨70, 3, 0⟩], [], [⟨80, 2, 0⟩], [⟨90, 1, 0⟩], [], [⟨100, 0, 0⟩]]⟩
def hR1 : Rg := ⟨50, 7, 1, [[], [⟨60, 4, 0⟩], [⟨70, 3, 0⟩], [], [⟨80, 2, 0⟩], [⟨90, 1, 0⟩], [], [⟨100, 0, 0⟩]]⟩
theorem h_six : hL 6 = ⟨0, [⟨100, 0, 0⟩, ⟨90, 1, 0⟩, ⟨80, 2, 0⟩, ⟨70, 3, 0⟩, ⟨60, 4, 0⟩, ⟨50, 5, 0⟩], [], [], 6, 6⟩ := by kernel_rfl
def hA : Ld := ⟨101, [], [hR], [], 12, 6⟩
def hB : Ld := ⟨101, [], [hR1], [⟨50, 5, 0⟩], 13, 6⟩
def hC : Ld := ⟨101, [], [hR1], [], 13, 6⟩
def hD : Ld := ⟨101, [], [hR1], [⟨55, 9, 0⟩], 14, 8⟩
def hE : Ld := ⟨101, [], [hR1], [], 14, 8⟩
theorem h_A : stepL (hL 6) = hA := by rw [h_six]; kernel_rfl
theorem h_B : stepL hA = hB := by kernel_rfl
theorem h_pop : popL (hL 6) = (hC, ⟨50, 5, 0⟩, true) := by
  have g6 := (hL_reach 6 (by decide)).good
  have m6 : More (hL 6) := by rw [h_six]; exact ⟨rfl, .inr (by simp)⟩
  have gA : GoodL hA := by rw [← h_A]; exact (step_ok g6 m6.1 m6.2).good
  have mA : More hA := ⟨rfl, .inl (by simp [hA])⟩
  have e : refillL (hL 6) = hB := by
    rw [refill_step g6 m6, h_A, refill_step gA mA, h_B, refill_stop (fun h => by have := h.1; simp [hB] at this)]
  have hb : (refillL (hL 6)).bot = ⟨50, 5, 0⟩ :: [] := by rw [e]; rfl
  rw [(peek_yes hb).2, e]
  rfl
theorem h_ins : insertL hC ⟨55, 9, 0⟩ = hD := by kernel_rfl
theorem h_pop2 : popL hD = (hE, ⟨55, 9, 0⟩, true) := by
  have e : refillL hD = hD := refill_stop (fun h => by have := h.1; simp [hD] at this)
  have hb : (refillL hD).bot = ⟨55, 9, 0⟩ :: [] := by rw [e]; rfl
  rw [(peek_yes hb).2, e]
  rfl
theorem h_none : popL newL = (newL, zeroI, false) := by
  have hn : ¬ More newL := fun h => by rcases h.2 with h | h <;> simp [newL] at h
  have e : refillL newL = newL := refill_stop hn
  rw [(peek_no (by rw [e]; rfl)).2, e]
theorem hC_reach : ReachL 6 hC := by have := (hL_reach 6 (by decide)).pop; rw [h_pop] at this; exact this
theorem hD_reach : ReachL 10 hD := by
  have := hC_reach.insert (it := ⟨55, 9, 0⟩) (by decide) (by decide) (by decide) (m := 10) (by decide) (by decide)
  rw [h_ins] at this
  exact this
theorem hE_reach : ReachL 10 hE := by have := hD_reach.pop; rw [h_pop2] at this; exact this
theorem hE_len : lenD hE = 5 := by kernel_rfl
/-- The queue that head holds to be not valid. -/
def badD : LdR := ⟨-1, nilS, ⟨[], none, 0⟩, nilS, 0, 0⟩
theorem bad_not : validD badD.ld = false := by
  cases h : validD badD.ld with
  | false => rfl
  | true => have := (validD_yes.1 h).ts0; simp [badD, LdR.ld] at this
theorem bad_has (w : World) : HasD w badD := ⟨hasS_nil _ _, hasS_nil _ _, fun r hr => by simp [badD] at hr, hasS_nil _ _⟩
theorem bad_sz : Sz badD := ⟨by decide, by decide, by decide, fun r hr => by simp [badD] at hr, fun r hr => by simp [badD] at hr, fun r hr => by simp [badD] at hr, by simp [badD, LdR.ld, itemsL, itsRs, nilS]⟩
end Go.Proofs.Ytneodiemgemhfaa
