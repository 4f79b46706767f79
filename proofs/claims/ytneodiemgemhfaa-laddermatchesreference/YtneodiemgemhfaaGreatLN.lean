/- Plain maths: queues that scripts reach; the queues of head. -/
/- The law's head. -/
import Derived.Test.YtneodiemgemhfaaGreatLK
namespace Go.Proofs.YtneodiemgemhfaaGreat

/-- What k insertions may have made. -/
structure ReachL (k : Nat) (l : Ld) : Prop where
  good : GoodL l
  q : ∀ x ∈ itemsL l, x.q < k
  len : lenD l ≤ k
  pot : pot l ≤ 6 * k
  cp : l.cp ≤ 5 * k
theorem reachL_new : ReachL 0 newL := ⟨newL_good, fun x hx => by simp [itemsL, newL, itsRs] at hx, by simp [lenD, newL], by simp [pot, newL, potRs], by simp [newL]⟩
theorem ReachL.mono {k m : Nat} {l : Ld} (h : ReachL k l) (hm : k ≤ m) : ReachL m l := ⟨h.good, fun x hx => by have := h.q x hx; omega, by have := h.len; omega, by have := h.pot; omega, by have := h.cp; omega⟩
theorem ReachL.fresh {k : Nat} {l : Ld} (h : ReachL k l) {it : It} (hq : (k : Int) ≤ it.q) : ∀ x ∈ itemsL l, ¬ eqK it x := fun x hx he => by
  have := h.q x hx
  have := he.2
  omega
theorem ReachL.insert {k : Nat} {l : Ld} (h : ReachL k l) {it : It} (h0 : 0 ≤ it.t) (h1 : it.t ≤ MaxT) (hq : (k : Int) ≤ it.q) {m : Nat} (hm : it.q < (m : Int)) (hkm : k + 1 ≤ m) : ReachL m (insertL l it) := by
  have hp := insert_its h.good h0 h1
  have hi := insert_pot h.good it
  have hl := hp.length_eq
  rw [← lenD_its, List.length_cons, ← lenD_its] at hl
  have e1 := h.len; have e2 := h.pot; have e3 := h.cp
  refine ⟨insert_good h.good h0 h1 (h.fresh hq), fun x hx => ?_, by omega, by omega, by omega⟩
  rcases List.mem_cons.1 (hp.subset hx) with rfl | hx
  · exact hm
  · have := h.q x hx; omega
theorem ReachL.pop {k : Nat} {l : Ld} (h : ReachL k l) : ReachL k (popL l).1 := by
  have hr := refill_ok h.good
  cases pop_ok h.good with
  | no e p _ =>
    rw [p]
    have hl := hr.its.length_eq
    rw [← lenD_its, ← lenD_its] at hl
    have e1 := h.len; have e2 := h.pot; have e3 := h.cp; have e4 := hr.pot; have e5 := hr.cp
    exact ⟨hr.good, fun x hx => h.q x (hr.its.subset hx), by simp only; omega, by simp only; omega, by simp only; omega⟩
  | yes x l' p _ good its least hpot mv cp bot =>
    rw [p]
    have hl := its.length_eq
    rw [List.length_cons, ← lenD_its, ← lenD_its] at hl
    have e1 := h.len; have e2 := h.pot; have e3 := h.cp
    exact ⟨good, fun y hy => h.q y (its.subset (List.mem_cons_of_mem _ hy)), by simp only; omega, by simp only; omega, by simp only; omega⟩
theorem ReachL.fit {k : Nat} {g : Ld} (h : ReachL k g) (hk : k ≤ 10000) {l : LdR} (hl : l.ld = g) : Fit l ∧ l.cp ≤ 100000000000 := by
  subst hl
  have h1 := h.len; have h2 := h.pot; have h3 := mv_pot l.ld; have h4 := h.cp
  simp only [LdR.ld] at h2 h3 h4
  refine ⟨⟨h.good, by omega, ?_⟩, by omega⟩
  simp only [LdR.ld] at *
  omega
def hIt (i : Nat) : It := ⟨100 - 10 * i, i, 0⟩
def hL : Nat → Ld
  | 0 => newL
  | i + 1 => insertL (hL i) (hIt i)
theorem hL_reach : ∀ i, i ≤ 6 → ReachL i (hL i)
  | 0, _ => reachL_new
  | i + 1, hi => (hL_reach i (by omega)).insert (by simp only [hIt]; omega) (by simp only [hIt]; unfold MaxT; omega) (Int.le_refl _) (by simp only [hIt]; omega) (Nat.le_refl _)
def hR : Rg := ⟨50, 7, 0, [[⟨50, 5, 0⟩], [⟨60, 4, 0⟩], [⟨70, 3, 0⟩], [], [⟨80, 2, 0⟩], [⟨90, 1, 0⟩], [], [⟨100, 0, 0⟩]]⟩
def hR1 : Rg := ⟨50, 7, 1, [[], [⟨60, 4, 0⟩], [⟨70, 3, 0⟩], [], [⟨80, 2, 0⟩], [⟨90, 1, 0⟩], [], [⟨100, 0, 0⟩]]⟩
theorem h_six : hL 6 = ⟨0, [⟨100, 0, 0⟩, ⟨90, 1, 0⟩, ⟨80, 2, 0⟩, ⟨70, 3, 0⟩, ⟨60, 4, 0⟩, ⟨50, 5, 0⟩], [], [], 6, 6⟩ := by kernel_rfl
def hA : Ld := ⟨101, [], [hR], [], 12, 6⟩
def hB : Ld := ⟨101, [], [hR1], [⟨50, 5, 0⟩], 13, 6⟩
def hC : Ld := ⟨101, [], [hR1], [], 13, 6⟩
def hD : Ld := ⟨101, [], [hR1], [⟨55, 9, 0⟩], 14, 8⟩
def hE : Ld := ⟨101, [], [hR1], [], 14, 8⟩
theorem h_A : stepL (hL 6) = hA := by rw [h_six]; kernel_rfl
theorem h_B : stepL hA = hB := by kernel_rfl
theorem h_pop : popL (hL 6) = (hC, ⟨50, 5, 0⟩, true) := by
  have g6 := (hL_reach 6 (by decide)).good
  have m6 : More (hL 6) := by rw [h_six]; exact ⟨rfl, .inr (by simp)⟩
  have gA : GoodL hA := by rw [← h_A]; exact (step_ok g6 m6.1 m6.2).good
  have mA : More hA := ⟨rfl, .inl (by simp [hA])⟩
  have e : refillL (hL 6) = hB := by
    rw [refill_step g6 m6, h_A, refill_step gA mA, h_B, refill_stop (fun h => by have := h.1; simp [hB] at this)]
  have hb : (refillL (hL 6)).bot = ⟨50, 5, 0⟩ :: [] := by rw [e]; rfl
  rw [(peek_yes hb).2, e]
  rfl
theorem h_ins : insertL hC ⟨55, 9, 0⟩ = hD := by kernel_rfl
theorem h_pop2 : popL hD = (hE, ⟨55, 9, 0⟩, true) := by
  have e : refillL hD = hD := refill_stop (fun h => by have := h.1; simp [hD] at this)
  have hb : (refillL hD).bot = ⟨55, 9, 0⟩ :: [] := by rw [e]; rfl
  rw [(peek_yes hb).2, e]
  rfl
theorem h_none : popL newL = (newL, zeroI, false) := by
  have hn : ¬ More newL := fun h => by rcases h.2 with h | h <;> simp [newL] at h
  have e : refillL newL = newL := refill_stop hn
  rw [(peek_no (by rw [e]; rfl)).2, e]
theorem hC_reach : ReachL 6 hC := by have := (hL_reach 6 (by decide)).pop; rw [h_pop] at this; exact this
theorem hD_reach : ReachL 10 hD := by
  have := hC_reach.insert (it := ⟨55, 9, 0⟩) (by decide) (by decide) (by decide) (m := 10) (by decide) (by decide)
  rw [h_ins] at this
  exact this
theorem hE_reach : ReachL 10 hE := by have := hD_reach.pop; rw [h_pop2] at this; exact this
theorem hE_len : lenD hE = 5 := by kernel_rfl
/-- The queue that head holds to be not valid. -/
def badD : LdR := ⟨-1, nilS, ⟨[], none, 0⟩, nilS, 0, 0⟩
theorem bad_not : validD badD.ld = false := by
  cases h : validD badD.ld with
  | false => rfl
  | true => have := (validD_yes.1 h).ts0; simp [badD, LdR.ld] at this
theorem bad_has (w : World) : HasD w badD := ⟨hasS_nil _ _, hasS_nil _ _, fun r hr => by simp [badD] at hr, hasS_nil _ _⟩
theorem bad_sz : Sz badD := ⟨by decide, by decide, by decide, fun r hr => by simp [badD] at hr, fun r hr => by simp [badD] at hr, fun r hr => by simp [badD] at hr, by simp [badD, LdR.ld, itemsL, itsRs, nilS]⟩
end Go.Proofs.YtneodiemgemhfaaGreat
namespace Go.Proofs.YtneodiemgemhfaaGreat
open Go.RowKit Go.Lib

/-- The box P holds the queue l. -/
def InBoxD (P : Nat) (l : LdR) (w : World) : Prop := w.heap[P]? = some (.cells (cellsD l) 25 (0, 0)) ∧ HasD w l
theorem InBoxD.stay {P : Nat} {l : LdR} {w w' : World} (h : InBoxD P l w) (hu : Upd [] w w') : InBoxD P l w' := ⟨hu.at h.1 (by simp), h.2.stay hu⟩
theorem InBoxD.put {P : Nat} {l l2 : LdR} {g : Ld} {w w2 w3 : World} (h : InBoxD P l w) (hB : BornD w g w2 l2) (hu : Upd [P] w2 w3) (hb : w3.heap[P]? = some (.cells (cellsD l2) 25 (0, 0))) : InBoxD P l2 w3 :=
  ⟨hb, hB.has.keep1 hu (hB.av P (lt_block h.1))⟩
theorem two_boxed (w : World) (A B : Obj) : ((w.alloc A).alloc B).heap[w.heap.size]? = some A ∧ ((w.alloc A).alloc B).heap[w.heap.size + 1]? = some B := ⟨(two_boxes w A B).2.1, (two_boxes w A B).2.2.1⟩
set_option maxRecDepth 100000 in
set_option maxHeartbeats 16000000 in
theorem head_true (w : World) : Calls Tryz.prog 8 #[] w fun e w' => e = .returned (.bool true) ∧ Upd [] w w' := by
  go_enter Tryz.func8, Tryz.ntmps8
  go_upto_region 2 with (go_at_call 23; (with_reducible refine (LNew_has _).mono ?_); rintro e w1 ⟨l1, rfl, hB⟩; have HN1 := Lib.hid hB; clear hB; unfold encD cellsD)
  have hal := (Upd.refl [] w1).alloc (.cells #[.int .i64 l1.ts, .slice l1.top.ad l1.top.l.length l1.top.cap, .slice l1.rs.ad l1.rs.l.length l1.rs.cap, .slice l1.bot.ad l1.bot.l.length l1.bot.cap, .int .i64 l1.mv, .int .i64 l1.cp] 25)
  have hb : InBoxD w1.heap.size l1 (w1.alloc (.cells #[.int .i64 l1.ts, .slice l1.top.ad l1.top.l.length l1.top.cap, .slice l1.rs.ad l1.rs.l.length l1.rs.cap, .slice l1.bot.ad l1.bot.l.length l1.bot.cap, .int .i64 l1.mv, .int .i64 l1.cp] 25)) := ⟨heap_alloc1 _ _, HN1.out.has.stay hal⟩
  have hge : w.heap.size ≤ w1.heap.size := HN1.out.upd.size
  have HUW := Lib.hid (HN1.out.upd.thn hal)
  have HE1 : Hid (l1.ld = hL 0) := HN1.out.eq
  generalize w1.alloc (.cells #[.int .i64 l1.ts, .slice l1.top.ad l1.top.l.length l1.top.cap, .slice l1.rs.ad l1.rs.l.length l1.rs.cap, .slice l1.bot.ad l1.bot.l.length l1.bot.cap, .int .i64 l1.mv, .int .i64 l1.cp] 25) = W at *
  generalize w1.heap.size = P at *
  have HB1 := Lib.hid hb
  have HGE := Lib.hid hge
  clear hal hb hge HN1
  go_wp2_with fail
  go_loopg [2] 6 (fun gk vi wr => ∃ (k : Nat) (l : LdR), vi = .int .i64 k ∧ k + gk = 6 ∧ Hid (InBoxD P l wr) ∧ Hid (l.ld = hL k) ∧ Hid (Upd [] w wr))
  case atStart => exact ⟨0, l1, rfl, by omega, HB1, HE1, HUW⟩
  case round =>
    obtain ⟨k, l, rfl, hkg, HB, HE, HU⟩ := hrel
    obtain ⟨b0, b1, b2, b3, b4, b5⟩ := cells6 (show wr.heap[P]? = some (.cells #[.int .i64 l.ts, .slice l.top.ad l.top.l.length l.top.cap, .slice l.rs.ad l.rs.l.length l.rs.cap, .slice l.bot.ad l.bot.l.length l.bot.cap, .int .i64 l.mv, .int .i64 l.cp] 25 (0, 0)) from HB.out.1)
    by_cases hlt : k < 6
    · have hltz : (k : Int) < 6 := by omega
      have hw1 : IntKind.i64.wrap (10 * (k : Int)) = 10 * (k : Int) := by rw [IntKind.wrap_i64]; omega
      have hw2 : IntKind.i64.wrap (100 - 10 * (k : Int)) = 100 - 10 * (k : Int) := by rw [IntKind.wrap_i64]; omega
      have hre := hL_reach k (by omega)
      have hfit := hre.fit (by omega) HE.out
      have HIN : Hid (Calls Tryz.prog 19 #[encD l, aggI (hIt k)] wr (GaveD wr (hL (k + 1)))) := by
        have := Insert_has l (hIt k) wr HB.out.2 hfit.1 hfit.2 (by rw [HE.out]; exact hre.fresh (Int.le_refl _))
        rw [HE.out] at this
        exact this
      unfold encD cellsD aggI hIt at HIN
      simp only at HIN
      clear hre hfit
      go_upto_region 4 with (go_at_call 19; (with_reducible refine HIN.out.mono ?_); rintro e w2 ⟨l2, rfl, hB⟩; have hq := hB.upd.at HB.out.1 (by simp); obtain ⟨z0, z1, z2, z3, z4, z5⟩ := free6 hq; unfold cellsD at hq; obtain ⟨y0, y1, y2, y3, y4, y5⟩ := cells6 hq; have HBN := Lib.hid hB; have HQF := Lib.hid hq; clear hB hq; unfold encD cellsD)
      have p2 := stored6 HQF.out (.int .i64 l2.ts) (.slice l2.top.ad l2.top.l.length l2.top.cap) (.slice l2.rs.ad l2.rs.l.length l2.rs.cap) (.slice l2.bot.ad l2.bot.l.length l2.bot.cap) (.int .i64 l2.mv) (.int .i64 l2.cp)
      have hU5 := upd_set6 w2 P (.int .i64 l2.ts) (.slice l2.top.ad l2.top.l.length l2.top.cap) (.slice l2.rs.ad l2.rs.l.length l2.rs.cap) (.slice l2.bot.ad l2.bot.l.length l2.bot.cap) (.int .i64 l2.mv) (.int .i64 l2.cp)
      with_reducible generalize (((((w2.setCell ⟨P, 0, none⟩ (.int .i64 l2.ts)).setCell ⟨P, 1, none⟩ (.slice l2.top.ad l2.top.l.length l2.top.cap)).setCell ⟨P, 2, none⟩ (.slice l2.rs.ad l2.rs.l.length l2.rs.cap)).setCell ⟨P, 3, none⟩ (.slice l2.bot.ad l2.bot.l.length l2.bot.cap)).setCell ⟨P, 4, none⟩ (.int .i64 l2.mv)).setCell ⟨P, 5, none⟩ (.int .i64 l2.cp) = w3 at p2 hU5 ⊢
      have HB3 := Lib.hid (HB.out.put HBN.out hU5 p2)
      have HU3 := Lib.hid ((HU.out.thn HBN.out.upd).new hU5 HGE.out)
      clear p2 hU5 b0 b1 b2 b3 b4 b5 z0 z1 z2 z3 z4 z5 y0 y1 y2 y3 y4 y5
      go_wp2_with fail
      go_roundg (gk - 1)
      case measure => omega
      case rel => exact ⟨k + 1, l2, by go_num, by omega, HB3, HBN.out.eq, HU3⟩
    · have hltz : ¬ (k : Int) < 6 := by omega
      obtain rfl : k = 6 := by omega
      have hfit := (hL_reach 6 (by decide)).fit (by decide) HE.out
      have HPO : Hid (Calls Tryz.prog 14 #[encD l] wr (Peeked wr (hC, ⟨50, 5, 0⟩, true))) := by
        have := Pop_has l wr HB.out.2 hfit.1
        rw [HE.out, h_pop] at this
        exact this
      unfold encD cellsD at HPO
      clear hfit
      go_upto_region 7 with (go_at_call 14; (with_reducible refine HPO.out.mono ?_); rintro e w2 ⟨l3, rfl, hB⟩; have HBN := Lib.hid hB; clear hB; unfold encD cellsD aggI; simp only)
      have HBN3 := HBN
      have HBU3 : Hid (Upd [] wr w2) := HBN.out.upd
      have HE3 : Hid (l3.ld = hC) := HBN.out.eq
      have HEL := HE
      replace HB1 := HB
      replace HUW := HU
      clear HB HU b0 b1 b2 b3 b4 b5 HE1
      generalize hPP : P = P1 at *
      clear hPP
      have hal := ((Upd.refl [] w2).alloc (.cells #[.int .i64 l3.ts, .slice l3.top.ad l3.top.l.length l3.top.cap, .slice l3.rs.ad l3.rs.l.length l3.rs.cap, .slice l3.bot.ad l3.bot.l.length l3.bot.cap, .int .i64 l3.mv, .int .i64 l3.cp] 25)).alloc (.cells #[.int .i64 50, .int .i64 5, .int .i64 0] 36)
      obtain ⟨hb3, hi3⟩ := two_boxed w2 (.cells #[.int .i64 l3.ts, .slice l3.top.ad l3.top.l.length l3.top.cap, .slice l3.rs.ad l3.rs.l.length l3.rs.cap, .slice l3.bot.ad l3.bot.l.length l3.bot.cap, .int .i64 l3.mv, .int .i64 l3.cp] 25) (.cells #[.int .i64 50, .int .i64 5, .int .i64 0] 36)
      have hIB : InBoxD w2.heap.size l3 ((w2.alloc (.cells #[.int .i64 l3.ts, .slice l3.top.ad l3.top.l.length l3.top.cap, .slice l3.rs.ad l3.rs.l.length l3.rs.cap, .slice l3.bot.ad l3.bot.l.length l3.bot.cap, .int .i64 l3.mv, .int .i64 l3.cp] 25)).alloc (.cells #[.int .i64 50, .int .i64 5, .int .i64 0] 36)) := ⟨hb3, HBN3.out.has.stay hal⟩
      have hu3 := HBU3.out.thn hal
      have HB3 := Lib.hid hIB
      have HI3 := Lib.hid hi3
      generalize (w2.alloc (.cells #[.int .i64 l3.ts, .slice l3.top.ad l3.top.l.length l3.top.cap, .slice l3.rs.ad l3.rs.l.length l3.rs.cap, .slice l3.bot.ad l3.bot.l.length l3.bot.cap, .int .i64 l3.mv, .int .i64 l3.cp] 25)).alloc (.cells #[.int .i64 50, .int .i64 5, .int .i64 0] 36) = W3 at *
      generalize w2.heap.size = P3 at *
      replace HB1 := Lib.hid (HB1.out.stay hu3)
      replace HUW := Lib.hid (HUW.out.thn hu3)
      clear hal hb3 hi3 hIB hu3 HBU3
      clear HBN3 HBN
      obtain ⟨b30, b31, b32, b33, b34, b35⟩ := cells6 (show W3.heap[P3]? = some (.cells #[.int .i64 l3.ts, .slice l3.top.ad l3.top.l.length l3.top.cap, .slice l3.rs.ad l3.rs.l.length l3.rs.cap, .slice l3.bot.ad l3.bot.l.length l3.bot.cap, .int .i64 l3.mv, .int .i64 l3.cp] 25 (0, 0)) from HB3.out.1)
      have hfC := hC_reach.fit (by decide) HE3.out
      have HIN7 : Hid (Calls Tryz.prog 19 #[encD l3, aggI ⟨55, 9, 0⟩] W3 (GaveD W3 hD)) := by
        have := Insert_has l3 ⟨55, 9, 0⟩ W3 HB3.out.2 hfC.1 hfC.2 (by rw [HE3.out]; exact hC_reach.fresh (by decide))
        rw [HE3.out, h_ins] at this
        exact this
      have HPO7 : Hid (∀ w5 l5, BornD W3 hD w5 l5 → Calls Tryz.prog 14 #[encD l5] w5 (Peeked w5 (hE, ⟨55, 9, 0⟩, true))) := fun w5 l5 hB => by
        have := Pop_has l5 w5 hB.has (hD_reach.fit (by decide) hB.eq).1
        rw [hB.eq, h_pop2] at this
        exact this
      unfold encD cellsD at HIN7 HPO7
      unfold aggI at HIN7
      simp only at HIN7
      clear hfC
      go_upto_region 8 with (first
        | (go_at_call 19; (with_reducible refine HIN7.out.mono ?_); rintro e w5 ⟨l5, rfl, hB⟩; have HBN5 := Lib.hid hB; have HPO8 := Lib.hid (HPO7.out w5 l5 hB); clear hB; unfold encD cellsD)
        | (go_at_call 14; (with_reducible refine HPO8.out.mono ?_); rintro e w6 ⟨l6, rfl, hB⟩; have HBN6 := Lib.hid hB; clear hB; unfold encD cellsD aggI; simp only))
      clear b30 b31 b32 b33 b34 b35
      have HBU6 : Hid (Upd [] W3 w6) := HBN5.out.upd.thn HBN6.out.upd
      have HE6 : Hid (l6.ld = hE) := HBN6.out.eq
      have hal := ((Upd.refl [] w6).alloc (.cells #[.int .i64 l6.ts, .slice l6.top.ad l6.top.l.length l6.top.cap, .slice l6.rs.ad l6.rs.l.length l6.rs.cap, .slice l6.bot.ad l6.bot.l.length l6.bot.cap, .int .i64 l6.mv, .int .i64 l6.cp] 25)).alloc (.cells #[.int .i64 55, .int .i64 9, .int .i64 0] 36)
      obtain ⟨hb6, hi6⟩ := two_boxed w6 (.cells #[.int .i64 l6.ts, .slice l6.top.ad l6.top.l.length l6.top.cap, .slice l6.rs.ad l6.rs.l.length l6.rs.cap, .slice l6.bot.ad l6.bot.l.length l6.bot.cap, .int .i64 l6.mv, .int .i64 l6.cp] 25) (.cells #[.int .i64 55, .int .i64 9, .int .i64 0] 36)
      have hIB : InBoxD w6.heap.size l6 ((w6.alloc (.cells #[.int .i64 l6.ts, .slice l6.top.ad l6.top.l.length l6.top.cap, .slice l6.rs.ad l6.rs.l.length l6.rs.cap, .slice l6.bot.ad l6.bot.l.length l6.bot.cap, .int .i64 l6.mv, .int .i64 l6.cp] 25)).alloc (.cells #[.int .i64 55, .int .i64 9, .int .i64 0] 36)) := ⟨hb6, HBN6.out.has.stay hal⟩
      have hu6 := HBU6.out.thn hal
      have HB6 := Lib.hid hIB
      have HI6 := Lib.hid hi6
      generalize (w6.alloc (.cells #[.int .i64 l6.ts, .slice l6.top.ad l6.top.l.length l6.top.cap, .slice l6.rs.ad l6.rs.l.length l6.rs.cap, .slice l6.bot.ad l6.bot.l.length l6.bot.cap, .int .i64 l6.mv, .int .i64 l6.cp] 25)).alloc (.cells #[.int .i64 55, .int .i64 9, .int .i64 0] 36) = W6 at *
      generalize w6.heap.size = P6 at *
      replace HB1 := Lib.hid (HB1.out.stay hu6)
      replace HB3 := Lib.hid (HB3.out.stay hu6)
      replace HI3 := Lib.hid (hu6.at HI3.out (by simp))
      replace HUW := Lib.hid (HUW.out.thn hu6)
      clear hal hb6 hi6 hIB hu6 HBU6
      clear HBN5 HBN6 HPO7 HPO8 HIN7
      have HPO9 : Hid (∀ w5 l5, BornD W6 newL w5 l5 → Calls Tryz.prog 14 #[encD l5] w5 (Peeked w5 (newL, zeroI, false))) := fun w5 l5 hB => by
        have := Pop_has l5 w5 hB.has (reachL_new.fit (by decide) hB.eq).1
        rw [hB.eq, h_none] at this
        exact this
      unfold encD cellsD at HPO9
      go_upto_region 9 with (first
        | (go_at_call 23; (with_reducible refine (LNew_has _).mono ?_); rintro e w7 ⟨l7, rfl, hB⟩; have HBN7 := Lib.hid hB; have HPO10 := Lib.hid (HPO9.out w7 l7 hB); clear hB; unfold encD cellsD)
        | (go_at_call 14; (with_reducible refine HPO10.out.mono ?_); rintro e w8 ⟨l8, rfl, hB⟩; have HBN9 := Lib.hid hB; clear hB; unfold encD cellsD aggI zeroI; simp only))
      have HBU9 : Hid (Upd [] W6 w8) := HBN7.out.upd.thn HBN9.out.upd
      have hal := ((Upd.refl [] w8).alloc (.cells #[.int .i64 l8.ts, .slice l8.top.ad l8.top.l.length l8.top.cap, .slice l8.rs.ad l8.rs.l.length l8.rs.cap, .slice l8.bot.ad l8.bot.l.length l8.bot.cap, .int .i64 l8.mv, .int .i64 l8.cp] 25)).alloc (.cells #[.int .i64 0, .int .i64 0, .int .i64 0] 36)
      obtain ⟨hb9, hi9⟩ := two_boxed w8 (.cells #[.int .i64 l8.ts, .slice l8.top.ad l8.top.l.length l8.top.cap, .slice l8.rs.ad l8.rs.l.length l8.rs.cap, .slice l8.bot.ad l8.bot.l.length l8.bot.cap, .int .i64 l8.mv, .int .i64 l8.cp] 25) (.cells #[.int .i64 0, .int .i64 0, .int .i64 0] 36)
      have hIB : InBoxD w8.heap.size l8 ((w8.alloc (.cells #[.int .i64 l8.ts, .slice l8.top.ad l8.top.l.length l8.top.cap, .slice l8.rs.ad l8.rs.l.length l8.rs.cap, .slice l8.bot.ad l8.bot.l.length l8.bot.cap, .int .i64 l8.mv, .int .i64 l8.cp] 25)).alloc (.cells #[.int .i64 0, .int .i64 0, .int .i64 0] 36)) := ⟨hb9, HBN9.out.has.stay hal⟩
      have hu9 := HBU9.out.thn hal
      have HB9 := Lib.hid hIB
      have HI9 := Lib.hid hi9
      generalize (w8.alloc (.cells #[.int .i64 l8.ts, .slice l8.top.ad l8.top.l.length l8.top.cap, .slice l8.rs.ad l8.rs.l.length l8.rs.cap, .slice l8.bot.ad l8.bot.l.length l8.bot.cap, .int .i64 l8.mv, .int .i64 l8.cp] 25)).alloc (.cells #[.int .i64 0, .int .i64 0, .int .i64 0] 36) = W9 at *
      generalize w8.heap.size = P9 at *
      replace HB1 := Lib.hid (HB1.out.stay hu9)
      replace HB3 := Lib.hid (HB3.out.stay hu9)
      replace HB6 := Lib.hid (HB6.out.stay hu9)
      replace HI3 := Lib.hid (hu9.at HI3.out (by simp))
      replace HI6 := Lib.hid (hu9.at HI6.out (by simp))
      replace HUW := Lib.hid (HUW.out.thn hu9)
      clear hal hb9 hi9 hIB hu9 HBU9
      clear HBN7 HBN9 HPO9 HPO10
      obtain ⟨b30, b31, b32, b33, b34, b35⟩ := cells6 (show W9.heap[P3]? = some (.cells #[.int .i64 l3.ts, .slice l3.top.ad l3.top.l.length l3.top.cap, .slice l3.rs.ad l3.rs.l.length l3.rs.cap, .slice l3.bot.ad l3.bot.l.length l3.bot.cap, .int .i64 l3.mv, .int .i64 l3.cp] 25 (0, 0)) from HB3.out.1)
      obtain ⟨b10, b11, b12, b13, b14, b15⟩ := cells6 (show W9.heap[P1]? = some (.cells #[.int .i64 l.ts, .slice l.top.ad l.top.l.length l.top.cap, .slice l.rs.ad l.rs.l.length l.rs.cap, .slice l.bot.ad l.bot.l.length l.bot.cap, .int .i64 l.mv, .int .i64 l.cp] 25 (0, 0)) from HB1.out.1)
      obtain ⟨b60, b61, b62, b63, b64, b65⟩ := cells6 (show W9.heap[P6]? = some (.cells #[.int .i64 l6.ts, .slice l6.top.ad l6.top.l.length l6.top.cap, .slice l6.rs.ad l6.rs.l.length l6.rs.cap, .slice l6.bot.ad l6.bot.l.length l6.bot.cap, .int .i64 l6.mv, .int .i64 l6.cp] 25 (0, 0)) from HB6.out.1)
      obtain ⟨i30, i31, i32⟩ := cells3 HI3.out
      obtain ⟨i60, i61, i62⟩ := cells3 HI6.out
      have hts : l3.ts = 101 := congrArg Ld.ts HE3.out
      have hrl : l3.rs.l.map RgR.rg = [hR1] := congrArg Ld.rs HE3.out
      have hlen : l3.rs.l.length = 1 := by have := congrArg List.length hrl; simpa using this
      have hmv : l.mv = 6 := by have h1 : l.ld.mv = (hL 6).mv := congrArg Ld.mv HEL.out; rw [h_six] at h1; exact h1
      obtain ⟨rb, ro, hro, k0, k1, k2, k3⟩ := HB3.out.2.rs.row.rung 0 (by omega)
      have hwd : (l3.rs.l[0]'(by omega)).wd = 7 := by
        have h1 : (l3.rs.l.map RgR.rg)[0]'(by simp; omega) = hR1 := by simp [hrl]
        simp only [List.getElem_map] at h1
        exact congrArg Rg.wd h1
      rw [hwd] at k1
      rw [Nat.zero_mul, Nat.add_zero] at k1
      have hd1 : (((l3.rs.l.length : Nat) : Int) != 1) = false := by rw [hlen]; rfl
      have hd2 : (0 : Int) < ((l3.rs.l.length : Nat) : Int) := by omega
      have hd3 : (l3.ts == 101) = true := by rw [hts]; rfl
      have hd4 : (l.mv == 6) = true := by rw [hmv]; rfl
      rw [hro] at b32
      have HRO := Lib.hid hro
      have hfE := hE_reach.fit (by decide) HE6.out
      have HLN : Hid (∀ V, Upd [] W9 V → Calls Tryz.prog 21 #[encD l6] V fun e w' => e = .returned (.int .i64 5) ∧ Upd [] V w') := fun V hv => by
        have h1 := hfE.1.sizes
        have := PLen_has l6 V (HB6.out.2.stay hv) (by omega) hfE.1.len (fun r hr => by rw [hfE.1.h8 r hr]; decide) (fun r hr s hs => by have := hfE.1.its r hr s hs; omega)
        rw [HE6.out, hE_len] at this
        exact this
      have HVA : Hid (∀ V, Upd [] W9 V → Calls Tryz.prog 16 #[encD l6] V fun e w' => e = .returned (.bool true) ∧ Upd [] V w') := fun V hv => by
        have := LValid_has l6 V (HB6.out.2.stay hv) hfE.1.sz
        rw [validD_yes.2 hfE.1.good] at this
        exact this
      have HVB : Hid (∀ V, Calls Tryz.prog 16 #[encD badD] V fun e w' => e = .returned (.bool false) ∧ Upd [] V w') := fun V => by
        have := LValid_has badD V (bad_has V) bad_sz
        rw [bad_not] at this
        exact this
      unfold encD cellsD at HLN HVA HVB
      unfold badD nilS at HVB
      simp only [List.length_nil] at HVB
      clear hro hts hrl hlen hmv hwd hfE k0 k2 k3
      have hq1 := eqlItem ⟨50, 5, 0⟩ ⟨50, 5, 0⟩
      have hq2 := eqlItem ⟨55, 9, 0⟩ ⟨55, 9, 0⟩
      simp only at hq1 hq2
      have HKP := Lib.hid (fun V (hu : Upd [] W9 V) => (⟨hu.cell b30 (by simp), hu.cell b32 (by simp), hu.cell k1 (by simp), hu.cell b14 (by simp), hu.cell b60 (by simp), hu.cell b61 (by simp), hu.cell b62 (by simp), hu.cell b63 (by simp), hu.cell b64 (by simp), hu.cell b65 (by simp)⟩ : V.cell? ⟨P3, 0, none⟩ = some (.int .i64 l3.ts) ∧ V.cell? ⟨P3, 2, none⟩ = some (.slice (some ⟨rb, ro, none⟩) l3.rs.l.length l3.rs.cap) ∧ V.cell? ⟨rb, ro + 1, none⟩ = some (.int .i64 7) ∧ V.cell? ⟨P1, 4, none⟩ = some (.int .i64 l.mv) ∧ V.cell? ⟨P6, 0, none⟩ = some (.int .i64 l6.ts) ∧ V.cell? ⟨P6, 1, none⟩ = some (.slice l6.top.ad l6.top.l.length l6.top.cap) ∧ V.cell? ⟨P6, 2, none⟩ = some (.slice l6.rs.ad l6.rs.l.length l6.rs.cap) ∧ V.cell? ⟨P6, 3, none⟩ = some (.slice l6.bot.ad l6.bot.l.length l6.bot.cap) ∧ V.cell? ⟨P6, 4, none⟩ = some (.int .i64 l6.mv) ∧ V.cell? ⟨P6, 5, none⟩ = some (.int .i64 l6.cp)))
      go_upto_region 11 with (fail)
      go_wp2_with (first
        | (go_at_call 21; (with_reducible refine (HLN.out _ (Upd.refl _ _)).mono ?_); rintro e wa ⟨rfl, hua⟩; obtain ⟨b30, b32, k1, b14, b60, b61, b62, b63, b64, b65⟩ := HKP.out _ hua; have HUA := Lib.hid hua; clear hua)
        | (go_at_call 16; (with_reducible refine (HVA.out _ HUA.out).mono ?_); rintro e wb ⟨rfl, hub⟩; have HUB := Lib.hid (HUA.out.thn hub); clear hub)
        | (go_at_call 16; (with_reducible refine (HVB.out _).mono ?_); rintro e wc ⟨rfl, huc⟩; have HUC := Lib.hid (HUB.out.thn huc); clear huc))
      go_ret
      exact ⟨by first | rfl | simp, HUW.out.thn HUC.out⟩
end Go.Proofs.YtneodiemgemhfaaGreat
