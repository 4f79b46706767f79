/- The law's operations and times. -/
/- Plain maths: what LadderMoves and LadderModel carry. -/
import Derived.Test.YtneodiemgemhfaaGreatLN
namespace Go.Proofs.YtneodiemgemhfaaGreat
open Go.RowKit Go.Lib

/-- One operation of a script. -/
structure Ox where
  p : Bool
  a : Int
  n : Bool
def LX : Lay Ox := ⟨3, fun x => [.bool x.p, .int .u64 x.a, .bool x.n], fun _ => rfl, fun x v hv => by
  simp only [List.mem_cons, List.not_mem_nil, or_false] at hv
  rcases hv with rfl | rfl | rfl <;> rfl, by decide⟩
theorem Row.op8 {w : World} {ad : Option Addr} {l : List Ox} (h : Row LX w ad l) (j : Nat) (hj : j < l.length) : ∃ b off, ad = some ⟨b, off, none⟩ ∧ w.cell? ⟨b, off + j * 3, none⟩ = some (.bool l[j].p) ∧ w.cell? ⟨b, off + j * 3 + 1, none⟩ = some (.int .u64 l[j].a) ∧ w.cell? ⟨b, off + j * 3 + 2, none⟩ = some (.bool l[j].n) := by
  obtain ⟨b, off, e, c⟩ := h j hj
  exact ⟨b, off, e, c 0 _ rfl, c 1 _ rfl, c 2 _ rfl⟩
def timeX (o : Ox) (last : Int) : Int := if o.n = true then min (last + o.a % 50) 1152921504606846976 else o.a % 1152921504606846977
theorem timeX_bd {o : Ox} {last : Int} (h : 0 ≤ last ∧ last ≤ MaxT) : 0 ≤ timeX o last ∧ timeX o last ≤ MaxT := by
  unfold MaxT at *
  have h1 := Int.emod_nonneg o.a (show (50 : Int) ≠ 0 by decide)
  have h2 := Int.emod_nonneg o.a (show (1152921504606846977 : Int) ≠ 0 by decide)
  have h3 := Int.emod_lt_of_pos o.a (show (0 : Int) < 1152921504606846977 by decide)
  unfold timeX
  split <;> omega
set_option maxRecDepth 100000 in
set_option maxHeartbeats 2000000 in
theorem time_has (o : Ox) (last : Int) (w : World) (ho : U64 o.a) (hl : 0 ≤ last ∧ last ≤ MaxT) :
    Calls Tryz.prog 11 #[.agg #[.bool o.p, .int .u64 o.a, .bool o.n], .int .i64 last] w fun e w' => e = .returned (.int .i64 (timeX o last)) ∧ Upd [] w w' := by
  obtain ⟨p, a, n⟩ := o
  obtain ⟨a0, a1⟩ := ho
  simp only at a0 a1 ⊢
  unfold MaxT at hl
  have hm1 : a.tmod 50 = a % 50 := Int.tmod_eq_emod_of_nonneg a0
  have hm2 : a.tmod 1152921504606846977 = a % 1152921504606846977 := Int.tmod_eq_emod_of_nonneg a0
  have g1 := Int.emod_nonneg a (show (50 : Int) ≠ 0 by decide)
  have g2 := Int.emod_lt_of_pos a (show (0 : Int) < 50 by decide)
  have g3 := Int.emod_nonneg a (show (1152921504606846977 : Int) ≠ 0 by decide)
  have g4 := Int.emod_lt_of_pos a (show (0 : Int) < 1152921504606846977 by decide)
  have HT : Hid (timeX ⟨p, a, n⟩ last = if n = true then min (last + a % 50) 1152921504606846976 else a % 1152921504606846977) := rfl
  rw [HT.out]
  generalize a % 50 = x at *
  generalize a % 1152921504606846977 = y at *
  cases n with
  | true =>
    go_enter Tryz.func11, Tryz.ntmps11
    go_upto_region 1 with (fail)
    have hu := (Upd.refl [] w).alloc (.cells #[.bool p, .int .u64 a, .bool true] 29)
    have b0 := heap_alloc1 w (.cells #[.bool p, .int .u64 a, .bool true] 29)
    generalize w.alloc (.cells #[.bool p, .int .u64 a, .bool true] 29) = W at *
    generalize w.heap.size = P at *
    obtain ⟨c0, c1, c2⟩ := cells3 b0
    have HU := Lib.hid hu
    clear hu b0
    have hw1 : IntKind.u64.wrap x = x := by simp [IntKind.wrap, IntKind.bits, IntKind.signed]; omega
    have hw2 : IntKind.i64.wrap x = x := by rw [IntKind.wrap_i64]; omega
    have hw3 : IntKind.i64.wrap (last + x) = last + x := by rw [IntKind.wrap_i64]; omega
    go_wp2_with fail
    go_ret
    exact ⟨by first | rfl | simp, HU.out⟩
  | false =>
    go_enter Tryz.func11, Tryz.ntmps11
    go_upto_region 1 with (fail)
    have hu := (Upd.refl [] w).alloc (.cells #[.bool p, .int .u64 a, .bool false] 29)
    have b0 := heap_alloc1 w (.cells #[.bool p, .int .u64 a, .bool false] 29)
    generalize w.alloc (.cells #[.bool p, .int .u64 a, .bool false] 29) = W at *
    generalize w.heap.size = P at *
    obtain ⟨c0, c1, c2⟩ := cells3 b0
    have HU := Lib.hid hu
    clear hu b0
    have hw1 : IntKind.u64.wrap y = y := by simp [IntKind.wrap, IntKind.bits, IntKind.signed]; omega
    have hw2 : IntKind.i64.wrap y = y := by rw [IntKind.wrap_i64]; omega
    go_wp2_with fail
    go_ret
    exact ⟨by first | rfl | simp, HU.out⟩
end Go.Proofs.YtneodiemgemhfaaGreat
namespace Go.Proofs.YtneodiemgemhfaaGreat

/-- The queue behind n insertions, the next number being i. -/
structure ReachM (n i : Nat) (l : Ld) : Prop where
  good : GoodL l
  q : ∀ x ∈ itemsL l, x.q < i
  len : lenD l ≤ n
  pot : pot l ≤ 6 * n
  cp : l.cp ≤ 5 * n
  mv0 : (n : Int) ≤ l.mv
  cp0 : (n : Int) ≤ l.cp
theorem reachM_new : ReachM 0 0 newL := ⟨newL_good, fun x hx => by simp [itemsL, newL, itsRs] at hx, by simp [lenD, newL], by simp [pot, newL, potRs], by simp [newL], by simp [newL], by simp [newL]⟩
theorem ReachM.fresh {n i : Nat} {l : Ld} (h : ReachM n i l) (it : It) (hq : it.q = (i : Int)) : ∀ x ∈ itemsL l, ¬ eqK it x := fun x hx he => by
  have := h.q x hx
  have := he.2
  omega
theorem ReachM.insert {n i : Nat} {l : Ld} (h : ReachM n i l) (it : It) (h0 : 0 ≤ it.t ∧ it.t ≤ MaxT) (hq : it.q = (i : Int)) : ReachM (n + 1) (i + 1) (insertL l it) := by
  have hp := insert_its h.good h0.1 h0.2
  have hi := insert_pot h.good it
  have hl := hp.length_eq
  rw [← lenD_its, List.length_cons, ← lenD_its] at hl
  have e1 := h.len; have e2 := h.pot; have e3 := h.cp; have e4 := h.mv0; have e5 := h.cp0
  refine ⟨insert_good h.good h0.1 h0.2 (h.fresh it hq), fun x hx => ?_, by omega, by omega, by omega, by omega, by omega⟩
  rcases List.mem_cons.1 (hp.subset hx) with rfl | hx
  · omega
  · have := h.q x hx; omega
/-- What a removal brings. -/
structure PopsM (n i : Nat) (l : Ld) (p : Ld × It × Bool) : Prop where
  reach : ReachM n (i + 1) p.1
  mv1 : l.mv ≤ p.1.mv
  mv2 : p.1.mv - l.mv ≤ 5 * (lenD l : Int)
  cp : p.1.cp = l.cp
  time : 0 ≤ p.2.1.t ∧ p.2.1.t ≤ MaxT
theorem ReachM.pop {n i : Nat} {l : Ld} (h : ReachM n i l) : PopsM n i l (popL l) := by
  have hr := refill_ok h.good
  have e1 := h.len; have e2 := h.pot; have e3 := h.cp; have e8 := h.mv0; have e9 := h.cp0
  have e7 := pot_len l
  cases pop_ok h.good with
  | no e p _ =>
    rw [p]
    have hl := hr.its.length_eq
    rw [← lenD_its, ← lenD_its] at hl
    have e4 := hr.pot; have e5 := hr.cp; have e6 := mv_pot (refillL l); have e10 := hr.mv
    exact ⟨⟨hr.good, fun x hx => by have := h.q x (hr.its.subset hx); omega, by simp only; omega, by simp only; omega, by simp only; omega, by simp only; omega, by simp only; omega⟩, hr.mv, by simp only; omega, hr.cp, Int.le_refl (0 : Int), (by decide : (0 : Int) ≤ MaxT)⟩
  | yes x l' p _ good its least hpot mv cp bot =>
    rw [p]
    have hl := its.length_eq
    rw [List.length_cons, ← lenD_its, ← lenD_its] at hl
    have e6 := mv_pot l'
    exact ⟨⟨good, fun y hy => by have := h.q y (its.subset (List.mem_cons_of_mem _ hy)); omega, by simp only; omega, by simp only; omega, by simp only; omega, by simp only; omega, by simp only; omega⟩, mv, by simp only; omega, cp, h.good.times (its.subset List.mem_cons_self)⟩
theorem ReachM.fit {n i : Nat} {l : LdR} (h : ReachM n i l.ld) (hk : n ≤ 10000) : Fit l ∧ l.cp ≤ 100000000000 := by
  have h1 := h.len; have h2 := h.pot; have h3 := mv_pot l.ld; have h4 := h.cp
  simp only [LdR.ld] at h2 h3 h4
  refine ⟨⟨h.good, by omega, ?_⟩, by omega⟩
  simp only [LdR.ld] at *
  omega
end Go.Proofs.YtneodiemgemhfaaGreat
