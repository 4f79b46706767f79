/- LadderPeeks: the law's walk. -/
import Derived.Test.YtneodiemgemhfaaGreatQQ
namespace Go.Proofs.YtneodiemgemhfaaGreat
open Go.RowKit Go.Lib

theorem same_call {r s : LdR} (hf : Fit r) (he : r.ld = s.ld) (V : World) (hr : HasD V r) (hs : HasD V s) :
    Calls Tryz.prog 18 #[encD r, encD s] V fun e w' => e = .returned (.bool true) ∧ Upd [] V w' := by
  have h1 := hf.sizes
  have := LSame_has r s V hr hs (by omega) (by omega) (by omega) (fun x hx => ⟨by rw [hf.h8 x hx]; decide, fun b hb => Nat.le_trans (hf.its x hx b hb) (by decide)⟩)
  simp only [he, decide_true] at this
  exact this
/-- The item that comes first behind an insertion: the same whether the queue was refilled, and not behind the item that Pop would give. -/
theorem peeks_ins {l : Ld} {k : Nat} (h : ReachL k l) {it : It} (h0 : 0 ≤ it.t) (h1 : it.t ≤ MaxT) (hq : (k : Int) ≤ it.q) :
    (popL (insertL (refillL l) it)).2 = (popL (insertL l it)).2 ∧ ((popL l).2.2 = true → cmpI (popL (insertL l it)).2.1 (popL l).2.1 ≤ 0) := by
  have hr := h.peek.1
  have hi := h.insert h0 h1 hq (m := (it.q + 1).toNat) (by omega) (by omega)
  have hri := hr.insert h0 h1 hq (m := (it.q + 1).toNat) (by omega) (by omega)
  have p1 := insert_its h.good h0 h1
  have p2 := insert_its hr.good h0 h1
  refine ⟨pop_item hri.good hi.good (p2.trans ((List.Perm.cons _ (refill_ok h.good).its).trans p1.symm)), fun hok => ?_⟩
  have hmem : (popL l).2.1 ∈ itemsL l := by
    cases pop_ok h.good with
    | no e p _ => rw [p] at hok; simp at hok
    | yes x l' p _ good its least hpot mv cp bot => rw [p]; exact its.subset List.mem_cons_self
  cases pop_ok hi.good with
  | no e p _ =>
    rw [e] at p1
    have := p1.length_eq
    simp at this
  | yes x l' p _ good its least hpot mv cp bot =>
    rw [p]
    have hm2 : (popL l).2.1 ∈ itemsL (insertL l it) := p1.symm.subset (List.mem_cons_of_mem _ hmem)
    have hm3 := its.symm.subset hm2
    have hng : ¬ 0 < cmpI x (popL l).2.1 := fun hc => by
      have hlt := cmpI_gt.1 hc
      rcases List.mem_cons.1 hm3 with e | e
      · rw [e] at hlt; exact ltI_irrefl _ hlt
      · exact ltI_asymm hlt (least _ e)
    simp only
    omega
set_option maxRecDepth 100000 in
set_option maxHeartbeats 16000000 in
theorem Peeks_any (la : Option Addr) (lc : Nat) (os : List Ox) (o : Ox) (w : World) (ho : Row LX w la os) (hoa : ∀ o ∈ os, U64 o.a) (hoo : U64 o.a) :
    Calls Tryz.prog 6 #[.slice la os.length lc, .agg #[.bool o.p, .int .u64 o.a, .bool o.n]] w fun e w' => e = .returned (.bool true) ∧ Upd [] w w' := by
  have HHD := Lib.hid head_true
  have HRO := Lib.hid ho
  have HMD := Lib.hid (fun V (hv : Row LX V la os) => LMade_has la lc os V hv hoa)
  have hre := made_reach os
  have HRE : Hid (ReachL (madeM os).seq (madeM os).l) := hre.reach
  have HLA := Lib.hid hre.last
  have HSQ := Lib.hid hre.seq
  unfold MadePost at HMD
  obtain ⟨L, hL⟩ : ∃ L, L = os.length := ⟨_, rfl⟩
  rw [← hL] at HMD ⊢
  have HUO := Lib.hid hoo
  obtain ⟨op, oa, on⟩ := o
  simp only at HUO ⊢
  generalize (madeM os).seq = seq at *
  generalize (madeM os).last = last at *
  generalize (madeM os).l = g at *
  clear ho hoa hL hre hoo
  obtain ⟨tx, htx⟩ : ∃ tx, tx = timeX ⟨op, oa, on⟩ last := ⟨_, rfl⟩
  have HTX : Hid (0 ≤ tx ∧ tx ≤ MaxT) := by rw [htx]; exact timeX_bd HLA.out
  have HTM := Lib.hid (fun V => time_has ⟨op, oa, on⟩ last V HUO.out HLA.out)
  rw [← htx] at HTM
  clear htx
  obtain ⟨⟨i0, i1, i2⟩, ok, gp, hpp⟩ := pp_of HRE.out.good
  have hpi := peeks_ins HRE.out (it := ⟨tx, seq, 0⟩) HTX.out.1 HTX.out.2 (Int.le_refl _)
  rw [hpp.po] at hpi
  obtain ⟨⟨gx, ⟨e0, e1, e2⟩, okx⟩, hgx⟩ : ∃ pp, pp = popL (insertL g ⟨tx, seq, 0⟩) := ⟨_, rfl⟩
  obtain ⟨⟨gy, ⟨f0, f1, f2⟩, oky⟩, hgy⟩ : ∃ pp, pp = popL (insertL (refillL g) ⟨tx, seq, 0⟩) := ⟨_, rfl⟩
  rw [← hgx, ← hgy] at hpi
  simp only at hpi
  obtain ⟨hpi1, hpi2⟩ := hpi
  simp only [Prod.mk.injEq, It.mk.injEq] at hpi1
  obtain ⟨⟨rfl, rfl, rfl⟩, rfl⟩ := hpi1
  have HPI := Lib.hid hpi2
  have HGX := Lib.hid hgx; have HGY := Lib.hid hgy
  have HPP := Lib.hid hpp
  clear hpp hpi2 hgx hgy
  have HSK := Lib.hid HRE.out.peek
  go_enter Tryz.func6, Tryz.ntmps6
  go_upto_region 1 with (fail)
  have hu := (Upd.refl [] w).alloc (.cells #[.bool op, .int .u64 oa, .bool on] 29)
  have b0 := heap_alloc1 w (.cells #[.bool op, .int .u64 oa, .bool on] 29)
  generalize w.alloc (.cells #[.bool op, .int .u64 oa, .bool on] 29) = W at *
  generalize w.heap.size = PO at *
  have HUW := Lib.hid hu; have HOP := Lib.hid b0
  clear hu b0
  go_upto_region 2 with (go_at_call 8; (with_reducible refine (HHD.out _).mono ?_); rintro e w0 ⟨rfl, hu0⟩)
  replace HOP := Lib.hid (hu0.at HOP.out (by simp))
  replace HUW := Lib.hid (HUW.out.thn hu0)
  clear hu0 HHD
  have HMDK := Lib.hid (HMD.out w0 (HRO.out.stay HUW.out))
  go_upto_region 3 with (go_at_call 10; (with_reducible refine HMDK.out.mono ?_); rintro e w1 ⟨l0, rfl, hB⟩; unfold encD cellsD)
  have hgeP : w.heap.size ≤ w1.heap.size := (HUW.out.thn hB.upd).size
  have hal := (Upd.refl [] w1).alloc (.cells #[.int .i64 l0.ts, .slice l0.top.ad l0.top.l.length l0.top.cap, .slice l0.rs.ad l0.rs.l.length l0.rs.cap, .slice l0.bot.ad l0.bot.l.length l0.bot.cap, .int .i64 l0.mv, .int .i64 l0.cp] 25)
  have hb : InBoxD w1.heap.size l0 (w1.alloc (.cells #[.int .i64 l0.ts, .slice l0.top.ad l0.top.l.length l0.top.cap, .slice l0.rs.ad l0.rs.l.length l0.rs.cap, .slice l0.bot.ad l0.bot.l.length l0.bot.cap, .int .i64 l0.mv, .int .i64 l0.cp] 25)) := ⟨heap_alloc1 _ _, hB.has.stay hal⟩
  have hu3 := hB.upd.thn hal
  have HE0 : Hid (l0.ld = g) := hB.eq
  generalize w1.alloc (.cells #[.int .i64 l0.ts, .slice l0.top.ad l0.top.l.length l0.top.cap, .slice l0.rs.ad l0.rs.l.length l0.rs.cap, .slice l0.bot.ad l0.bot.l.length l0.bot.cap, .int .i64 l0.mv, .int .i64 l0.cp] 25) = W1 at *
  generalize w1.heap.size = P0 at *
  have HB0 := Lib.hid hb
  replace HOP := Lib.hid (hu3.at HOP.out (by simp))
  replace HUW := Lib.hid (HUW.out.thn hu3)
  clear hal hb hu3 hB
  have HGEP := Lib.hid hgeP
  clear hgeP
  clear HMD HMDK HRO
  have hfit := HRE.out.fit (by have := HSQ.out; omega) HE0.out
  have HFT := Lib.hid hfit
  have HPK0 : Hid (∀ V, HasD V l0 → Calls Tryz.prog 12 #[encD l0] V (Peeked V (refillL g, ⟨i0, i1, i2⟩, ok))) := fun V hv => by
    have := Peek_has l0 V hv hfit.1
    rw [HE0.out, HPP.out.pk] at this; exact this
  have HPO0 : Hid (∀ V, HasD V l0 → Calls Tryz.prog 14 #[encD l0] V (Peeked V (gp, ⟨i0, i1, i2⟩, ok))) := fun V hv => by
    have := Pop_has l0 V hv hfit.1
    rw [HE0.out, HPP.out.po] at this; exact this
  clear hfit
  unfold encD cellsD at HPK0 HPO0
  obtain ⟨c0, c1, c2, c3, c4, c5⟩ := cells6 (show W1.heap[P0]? = some (.cells #[.int .i64 l0.ts, .slice l0.top.ad l0.top.l.length l0.top.cap, .slice l0.rs.ad l0.rs.l.length l0.rs.cap, .slice l0.bot.ad l0.bot.l.length l0.bot.cap, .int .i64 l0.mv, .int .i64 l0.cp] 25 (0, 0)) from HB0.out.1)
  have HCK := Lib.hid (HPK0.out W1 HB0.out.2)
  go_upto_region 4 with (go_at_call 12; (with_reducible refine HCK.out.mono ?_); rintro e w2 ⟨l1, rfl, hB⟩; unfold encD cellsD aggI; simp only)
  clear c0 c1 c2 c3 c4 c5
  clear HCK
  obtain ⟨hal, hqm, hqt, hsm⟩ := two_boxes w2 (.cells #[.int .i64 l1.ts, .slice l1.top.ad l1.top.l.length l1.top.cap, .slice l1.rs.ad l1.rs.l.length l1.rs.cap, .slice l1.bot.ad l1.bot.l.length l1.bot.cap, .int .i64 l1.mv, .int .i64 l1.cp] 25) (.cells #[.int .i64 i0, .int .i64 i1, .int .i64 i2] 36)
  have hb : InBoxD w2.heap.size l1 ((w2.alloc (.cells #[.int .i64 l1.ts, .slice l1.top.ad l1.top.l.length l1.top.cap, .slice l1.rs.ad l1.rs.l.length l1.rs.cap, .slice l1.bot.ad l1.bot.l.length l1.bot.cap, .int .i64 l1.mv, .int .i64 l1.cp] 25)).alloc (.cells #[.int .i64 i0, .int .i64 i1, .int .i64 i2] 36)) := ⟨hqm, hB.has.stay hal⟩
  have hu3 := hB.upd.thn hal
  have HE1 : Hid (l1.ld = refillL g) := hB.eq
  generalize (w2.alloc (.cells #[.int .i64 l1.ts, .slice l1.top.ad l1.top.l.length l1.top.cap, .slice l1.rs.ad l1.rs.l.length l1.rs.cap, .slice l1.bot.ad l1.bot.l.length l1.bot.cap, .int .i64 l1.mv, .int .i64 l1.cp] 25)).alloc (.cells #[.int .i64 i0, .int .i64 i1, .int .i64 i2] 36) = W2 at *
  generalize w2.heap.size = P1 at *
  have HB1 := Lib.hid hb
  have HT1 := Lib.hid hqt
  replace HB0 := Lib.hid (HB0.out.stay hu3)
  replace HOP := Lib.hid (hu3.at HOP.out (by simp))
  replace HUW := Lib.hid (HUW.out.thn hu3)
  clear hal hb hu3 hqm hqt hsm hB
  have hf1 := HSK.out.1.fit (by have := HSQ.out; omega) HE1.out
  have HF1 := Lib.hid hf1
  have hpr := pop_refill HRE.out.good
  rw [HPP.out.pk, HPP.out.po] at hpr
  have HPK1 : Hid (∀ V, HasD V l1 → Calls Tryz.prog 12 #[encD l1] V (Peeked V (refillL g, ⟨i0, i1, i2⟩, ok))) := fun V hv => by
    have := Peek_has l1 V hv hf1.1
    rw [HE1.out, hpr.2] at this; exact this
  have HPO1 : Hid (∀ V, HasD V l1 → Calls Tryz.prog 14 #[encD l1] V (Peeked V (gp, ⟨i0, i1, i2⟩, ok))) := fun V hv => by
    have := Pop_has l1 V hv hf1.1
    rw [HE1.out, hpr.1] at this; exact this
  clear hf1 hpr
  unfold encD cellsD at HPK1 HPO1
  obtain ⟨c0, c1, c2, c3, c4, c5⟩ := cells6 (show W2.heap[P1]? = some (.cells #[.int .i64 l1.ts, .slice l1.top.ad l1.top.l.length l1.top.cap, .slice l1.rs.ad l1.rs.l.length l1.rs.cap, .slice l1.bot.ad l1.bot.l.length l1.bot.cap, .int .i64 l1.mv, .int .i64 l1.cp] 25 (0, 0)) from HB1.out.1)
  have HCK := Lib.hid (HPK1.out W2 HB1.out.2)
  go_upto_region 5 with (go_at_call 12; (with_reducible refine HCK.out.mono ?_); rintro e w3 ⟨l2, rfl, hB⟩; unfold encD cellsD aggI; simp only)
  clear c0 c1 c2 c3 c4 c5
  clear HCK
  obtain ⟨hal, hqm, hqt, hsm⟩ := two_boxes w3 (.cells #[.int .i64 l2.ts, .slice l2.top.ad l2.top.l.length l2.top.cap, .slice l2.rs.ad l2.rs.l.length l2.rs.cap, .slice l2.bot.ad l2.bot.l.length l2.bot.cap, .int .i64 l2.mv, .int .i64 l2.cp] 25) (.cells #[.int .i64 i0, .int .i64 i1, .int .i64 i2] 36)
  have hb : InBoxD w3.heap.size l2 ((w3.alloc (.cells #[.int .i64 l2.ts, .slice l2.top.ad l2.top.l.length l2.top.cap, .slice l2.rs.ad l2.rs.l.length l2.rs.cap, .slice l2.bot.ad l2.bot.l.length l2.bot.cap, .int .i64 l2.mv, .int .i64 l2.cp] 25)).alloc (.cells #[.int .i64 i0, .int .i64 i1, .int .i64 i2] 36)) := ⟨hqm, hB.has.stay hal⟩
  have hu3 := hB.upd.thn hal
  have HE2 : Hid (l2.ld = refillL g) := hB.eq
  generalize (w3.alloc (.cells #[.int .i64 l2.ts, .slice l2.top.ad l2.top.l.length l2.top.cap, .slice l2.rs.ad l2.rs.l.length l2.rs.cap, .slice l2.bot.ad l2.bot.l.length l2.bot.cap, .int .i64 l2.mv, .int .i64 l2.cp] 25)).alloc (.cells #[.int .i64 i0, .int .i64 i1, .int .i64 i2] 36) = W3 at *
  generalize w3.heap.size = P2 at *
  have HB2 := Lib.hid hb
  have HT2 := Lib.hid hqt
  replace HB0 := Lib.hid (HB0.out.stay hu3)
  replace HB1 := Lib.hid (HB1.out.stay hu3)
  replace HT1 := Lib.hid (hu3.at HT1.out (by simp))
  replace HOP := Lib.hid (hu3.at HOP.out (by simp))
  replace HUW := Lib.hid (HUW.out.thn hu3)
  clear hal hb hu3 hqm hqt hsm hB
  obtain ⟨c0, c1, c2, c3, c4, c5⟩ := cells6 (show W3.heap[P0]? = some (.cells #[.int .i64 l0.ts, .slice l0.top.ad l0.top.l.length l0.top.cap, .slice l0.rs.ad l0.rs.l.length l0.rs.cap, .slice l0.bot.ad l0.bot.l.length l0.bot.cap, .int .i64 l0.mv, .int .i64 l0.cp] 25 (0, 0)) from HB0.out.1)
  have HCK := Lib.hid (HPO0.out W3 HB0.out.2)
  go_upto_region 6 with (go_at_call 14; (with_reducible refine HCK.out.mono ?_); rintro e w4 ⟨l3, rfl, hB⟩; unfold encD cellsD aggI; simp only)
  clear c0 c1 c2 c3 c4 c5
  clear HCK
  obtain ⟨hal, hqm, hqt, hsm⟩ := two_boxes w4 (.cells #[.int .i64 l3.ts, .slice l3.top.ad l3.top.l.length l3.top.cap, .slice l3.rs.ad l3.rs.l.length l3.rs.cap, .slice l3.bot.ad l3.bot.l.length l3.bot.cap, .int .i64 l3.mv, .int .i64 l3.cp] 25) (.cells #[.int .i64 i0, .int .i64 i1, .int .i64 i2] 36)
  have hb : InBoxD w4.heap.size l3 ((w4.alloc (.cells #[.int .i64 l3.ts, .slice l3.top.ad l3.top.l.length l3.top.cap, .slice l3.rs.ad l3.rs.l.length l3.rs.cap, .slice l3.bot.ad l3.bot.l.length l3.bot.cap, .int .i64 l3.mv, .int .i64 l3.cp] 25)).alloc (.cells #[.int .i64 i0, .int .i64 i1, .int .i64 i2] 36)) := ⟨hqm, hB.has.stay hal⟩
  have hu3 := hB.upd.thn hal
  have HE3 : Hid (l3.ld = gp) := hB.eq
  generalize (w4.alloc (.cells #[.int .i64 l3.ts, .slice l3.top.ad l3.top.l.length l3.top.cap, .slice l3.rs.ad l3.rs.l.length l3.rs.cap, .slice l3.bot.ad l3.bot.l.length l3.bot.cap, .int .i64 l3.mv, .int .i64 l3.cp] 25)).alloc (.cells #[.int .i64 i0, .int .i64 i1, .int .i64 i2] 36) = W4 at *
  generalize w4.heap.size = P3 at *
  have HB3 := Lib.hid hb
  have HT3 := Lib.hid hqt
  replace HB0 := Lib.hid (HB0.out.stay hu3)
  replace HB1 := Lib.hid (HB1.out.stay hu3)
  replace HB2 := Lib.hid (HB2.out.stay hu3)
  replace HT1 := Lib.hid (hu3.at HT1.out (by simp))
  replace HT2 := Lib.hid (hu3.at HT2.out (by simp))
  replace HOP := Lib.hid (hu3.at HOP.out (by simp))
  replace HUW := Lib.hid (HUW.out.thn hu3)
  clear hal hb hu3 hqm hqt hsm hB
  obtain ⟨c0, c1, c2, c3, c4, c5⟩ := cells6 (show W4.heap[P1]? = some (.cells #[.int .i64 l1.ts, .slice l1.top.ad l1.top.l.length l1.top.cap, .slice l1.rs.ad l1.rs.l.length l1.rs.cap, .slice l1.bot.ad l1.bot.l.length l1.bot.cap, .int .i64 l1.mv, .int .i64 l1.cp] 25 (0, 0)) from HB1.out.1)
  have HCK := Lib.hid (HPO1.out W4 HB1.out.2)
  go_upto_region 7 with (go_at_call 14; (with_reducible refine HCK.out.mono ?_); rintro e w5 ⟨l4, rfl, hB⟩; unfold encD cellsD aggI; simp only)
  clear c0 c1 c2 c3 c4 c5
  clear HCK
  obtain ⟨hal, hqm, hqt, hsm⟩ := two_boxes w5 (.cells #[.int .i64 l4.ts, .slice l4.top.ad l4.top.l.length l4.top.cap, .slice l4.rs.ad l4.rs.l.length l4.rs.cap, .slice l4.bot.ad l4.bot.l.length l4.bot.cap, .int .i64 l4.mv, .int .i64 l4.cp] 25) (.cells #[.int .i64 i0, .int .i64 i1, .int .i64 i2] 36)
  have hb : InBoxD w5.heap.size l4 ((w5.alloc (.cells #[.int .i64 l4.ts, .slice l4.top.ad l4.top.l.length l4.top.cap, .slice l4.rs.ad l4.rs.l.length l4.rs.cap, .slice l4.bot.ad l4.bot.l.length l4.bot.cap, .int .i64 l4.mv, .int .i64 l4.cp] 25)).alloc (.cells #[.int .i64 i0, .int .i64 i1, .int .i64 i2] 36)) := ⟨hqm, hB.has.stay hal⟩
  have hu3 := hB.upd.thn hal
  have HE4 : Hid (l4.ld = gp) := hB.eq
  generalize (w5.alloc (.cells #[.int .i64 l4.ts, .slice l4.top.ad l4.top.l.length l4.top.cap, .slice l4.rs.ad l4.rs.l.length l4.rs.cap, .slice l4.bot.ad l4.bot.l.length l4.bot.cap, .int .i64 l4.mv, .int .i64 l4.cp] 25)).alloc (.cells #[.int .i64 i0, .int .i64 i1, .int .i64 i2] 36) = W5 at *
  generalize w5.heap.size = P4 at *
  have HB4 := Lib.hid hb
  have HT4 := Lib.hid hqt
  replace HB0 := Lib.hid (HB0.out.stay hu3)
  replace HB1 := Lib.hid (HB1.out.stay hu3)
  replace HB2 := Lib.hid (HB2.out.stay hu3)
  replace HB3 := Lib.hid (HB3.out.stay hu3)
  replace HT1 := Lib.hid (hu3.at HT1.out (by simp))
  replace HT2 := Lib.hid (hu3.at HT2.out (by simp))
  replace HT3 := Lib.hid (hu3.at HT3.out (by simp))
  replace HOP := Lib.hid (hu3.at HOP.out (by simp))
  replace HUW := Lib.hid (HUW.out.thn hu3)
  clear hal hb hu3 hqm hqt hsm hB
  clear HPK0 HPK1 HPO0 HPO1
  have HF2 := Lib.hid (HSK.out.1.fit (by have := HSQ.out; omega) HE2.out)
  have hrp := HRE.out.pop
  rw [HPP.out.po] at hrp
  have HF3 := Lib.hid (hrp.fit (by have := HSQ.out; omega) HE3.out)
  clear hrp
  have HSM1 : Hid (∀ V, HasD V l2 → HasD V l1 → Calls Tryz.prog 18 #[encD l2, encD l1] V fun e w' => e = .returned (.bool true) ∧ Upd [] V w') := fun V h1 h2 => same_call HF2.out.1 (by rw [HE2.out, HE1.out]) V h1 h2
  have HSM2 : Hid (∀ V, HasD V l3 → HasD V l4 → Calls Tryz.prog 18 #[encD l3, encD l4] V fun e w' => e = .returned (.bool true) ∧ Upd [] V w') := fun V h1 h2 => same_call HF3.out.1 (by rw [HE3.out, HE4.out]) V h1 h2
  unfold encD cellsD at HSM1 HSM2
  have HIN0 : Hid (∀ V, HasD V l0 → Calls Tryz.prog 19 #[encD l0, aggI ⟨tx, seq, 0⟩] V (GaveD V (insertL g ⟨tx, seq, 0⟩))) := fun V hv => by
    have := Insert_has l0 ⟨tx, seq, 0⟩ V hv HFT.out.1 HFT.out.2 (by rw [HE0.out]; exact HRE.out.fresh (Int.le_refl _))
    rw [HE0.out] at this; exact this
  have HPX0 : Hid (∀ V W lq, BornD W (insertL g ⟨tx, seq, 0⟩) V lq → Calls Tryz.prog 14 #[encD lq] V (Peeked V (gx, ⟨f0, f1, f2⟩, oky))) := fun V W lq hB => by
    have := Pop_has lq V hB.has ((HRE.out.insert HTX.out.1 HTX.out.2 (Int.le_refl _) (m := seq + 1) (by simp only; omega) (Nat.le_refl _)).fit (by have := HSQ.out; omega) hB.eq).1
    rw [hB.eq, ← HGX.out] at this; exact this
  have HIN1 : Hid (∀ V, HasD V l1 → Calls Tryz.prog 19 #[encD l1, aggI ⟨tx, seq, 0⟩] V (GaveD V (insertL (refillL g) ⟨tx, seq, 0⟩))) := fun V hv => by
    have := Insert_has l1 ⟨tx, seq, 0⟩ V hv HF1.out.1 HF1.out.2 (by rw [HE1.out]; exact HSK.out.1.fresh (Int.le_refl _))
    rw [HE1.out] at this; exact this
  have HPX1 : Hid (∀ V W lq, BornD W (insertL (refillL g) ⟨tx, seq, 0⟩) V lq → Calls Tryz.prog 14 #[encD lq] V (Peeked V (gy, ⟨f0, f1, f2⟩, oky))) := fun V W lq hB => by
    have := Pop_has lq V hB.has ((HSK.out.1.insert HTX.out.1 HTX.out.2 (Int.le_refl _) (m := seq + 1) (by simp only; omega) (Nat.le_refl _)).fit (by have := HSQ.out; omega) hB.eq).1
    rw [hB.eq, ← HGY.out] at this; exact this
  unfold encD cellsD at HIN0 HIN1 HPX0 HPX1
  unfold aggI at HIN0 HIN1
  simp only at HIN0 HIN1
  generalize insertL g ⟨tx, seq, 0⟩ = ga at *
  generalize insertL (refillL g) ⟨tx, seq, 0⟩ = gb at *
  have HCM := Lib.hid (fun V => RCompareItems_has ⟨f0, f1, f2⟩ ⟨i0, i1, i2⟩ V)
  unfold aggI at HCM
  simp only at HCM
  generalize cmpI ⟨f0, f1, f2⟩ ⟨i0, i1, i2⟩ = cm at *
  clear HGX HGY HPP
  cases ok with
  | true =>
    obtain ⟨c0, c1, c2, c3, c4, c5⟩ := cells6 (show W5.heap[P2]? = some (.cells #[.int .i64 l2.ts, .slice l2.top.ad l2.top.l.length l2.top.cap, .slice l2.rs.ad l2.rs.l.length l2.rs.cap, .slice l2.bot.ad l2.bot.l.length l2.bot.cap, .int .i64 l2.mv, .int .i64 l2.cp] 25 (0, 0)) from HB2.out.1)
    obtain ⟨d0, d1, d2, d3, d4, d5⟩ := cells6 (show W5.heap[P1]? = some (.cells #[.int .i64 l1.ts, .slice l1.top.ad l1.top.l.length l1.top.cap, .slice l1.rs.ad l1.rs.l.length l1.rs.cap, .slice l1.bot.ad l1.bot.l.length l1.bot.cap, .int .i64 l1.mv, .int .i64 l1.cp] 25 (0, 0)) from HB1.out.1)
    obtain ⟨g0, g1, g2, g3, g4, g5⟩ := cells6 (show W5.heap[P3]? = some (.cells #[.int .i64 l3.ts, .slice l3.top.ad l3.top.l.length l3.top.cap, .slice l3.rs.ad l3.rs.l.length l3.rs.cap, .slice l3.bot.ad l3.bot.l.length l3.bot.cap, .int .i64 l3.mv, .int .i64 l3.cp] 25 (0, 0)) from HB3.out.1)
    obtain ⟨k0, k1, k2, k3, k4, k5⟩ := cells6 (show W5.heap[P4]? = some (.cells #[.int .i64 l4.ts, .slice l4.top.ad l4.top.l.length l4.top.cap, .slice l4.rs.ad l4.rs.l.length l4.rs.cap, .slice l4.bot.ad l4.bot.l.length l4.bot.cap, .int .i64 l4.mv, .int .i64 l4.cp] 25 (0, 0)) from HB4.out.1)
    obtain ⟨t0, t1, t2⟩ := cells3 HT1.out
    obtain ⟨u0, u1, u2⟩ := cells3 HT2.out
    obtain ⟨y0, y1, y2⟩ := cells3 HT3.out
    obtain ⟨x0, x1, x2⟩ := cells3 HT4.out
    have hgd := guardItem
    have hq := neqItem ⟨i0, i1, i2⟩ ⟨i0, i1, i2⟩
    simp only [decide_true, Bool.not_true] at hq
    have HKP := Lib.hid (fun V (hu : Upd [] W5 V) => (⟨hu.cell c0 (by simp), hu.cell c1 (by simp), hu.cell c2 (by simp), hu.cell c3 (by simp), hu.cell c4 (by simp), hu.cell c5 (by simp), hu.cell d0 (by simp), hu.cell d1 (by simp), hu.cell d2 (by simp), hu.cell d3 (by simp), hu.cell d4 (by simp), hu.cell d5 (by simp), hu.cell g0 (by simp), hu.cell g1 (by simp), hu.cell g2 (by simp), hu.cell g3 (by simp), hu.cell g4 (by simp), hu.cell g5 (by simp), hu.cell k0 (by simp), hu.cell k1 (by simp), hu.cell k2 (by simp), hu.cell k3 (by simp), hu.cell k4 (by simp), hu.cell k5 (by simp)⟩ : V.cell? ⟨P2, 0, none⟩ = some (.int .i64 l2.ts) ∧ V.cell? ⟨P2, 1, none⟩ = some (.slice l2.top.ad l2.top.l.length l2.top.cap) ∧ V.cell? ⟨P2, 2, none⟩ = some (.slice l2.rs.ad l2.rs.l.length l2.rs.cap) ∧ V.cell? ⟨P2, 3, none⟩ = some (.slice l2.bot.ad l2.bot.l.length l2.bot.cap) ∧ V.cell? ⟨P2, 4, none⟩ = some (.int .i64 l2.mv) ∧ V.cell? ⟨P2, 5, none⟩ = some (.int .i64 l2.cp) ∧ V.cell? ⟨P1, 0, none⟩ = some (.int .i64 l1.ts) ∧ V.cell? ⟨P1, 1, none⟩ = some (.slice l1.top.ad l1.top.l.length l1.top.cap) ∧ V.cell? ⟨P1, 2, none⟩ = some (.slice l1.rs.ad l1.rs.l.length l1.rs.cap) ∧ V.cell? ⟨P1, 3, none⟩ = some (.slice l1.bot.ad l1.bot.l.length l1.bot.cap) ∧ V.cell? ⟨P1, 4, none⟩ = some (.int .i64 l1.mv) ∧ V.cell? ⟨P1, 5, none⟩ = some (.int .i64 l1.cp) ∧ V.cell? ⟨P3, 0, none⟩ = some (.int .i64 l3.ts) ∧ V.cell? ⟨P3, 1, none⟩ = some (.slice l3.top.ad l3.top.l.length l3.top.cap) ∧ V.cell? ⟨P3, 2, none⟩ = some (.slice l3.rs.ad l3.rs.l.length l3.rs.cap) ∧ V.cell? ⟨P3, 3, none⟩ = some (.slice l3.bot.ad l3.bot.l.length l3.bot.cap) ∧ V.cell? ⟨P3, 4, none⟩ = some (.int .i64 l3.mv) ∧ V.cell? ⟨P3, 5, none⟩ = some (.int .i64 l3.cp) ∧ V.cell? ⟨P4, 0, none⟩ = some (.int .i64 l4.ts) ∧ V.cell? ⟨P4, 1, none⟩ = some (.slice l4.top.ad l4.top.l.length l4.top.cap) ∧ V.cell? ⟨P4, 2, none⟩ = some (.slice l4.rs.ad l4.rs.l.length l4.rs.cap) ∧ V.cell? ⟨P4, 3, none⟩ = some (.slice l4.bot.ad l4.bot.l.length l4.bot.cap) ∧ V.cell? ⟨P4, 4, none⟩ = some (.int .i64 l4.mv) ∧ V.cell? ⟨P4, 5, none⟩ = some (.int .i64 l4.cp)))
    have HS1 : Hid (HasD W5 l1) := HB1.out.2; have HS2 : Hid (HasD W5 l2) := HB2.out.2; have HS3 : Hid (HasD W5 l3) := HB3.out.2; have HS4 : Hid (HasD W5 l4) := HB4.out.2
    go_upto_region 9 with (first
      | (go_at_call 18; (with_reducible refine (HSM1.out _ HS2.out HS1.out).mono ?_); rintro e v1 ⟨rfl, hv⟩; have HV1 := Lib.hid hv; clear hv; obtain ⟨c0, c1, c2, c3, c4, c5, d0, d1, d2, d3, d4, d5, g0, g1, g2, g3, g4, g5, k0, k1, k2, k3, k4, k5⟩ := HKP.out v1 HV1.out)
      | (go_at_call 18; (with_reducible refine (HSM2.out _ (HS3.out.stay HV1.out) (HS4.out.stay HV1.out)).mono ?_); rintro e v2 ⟨rfl, hv⟩; have HV2 := Lib.hid (HV1.out.thn hv); clear hv))
    replace HB0 := Lib.hid (HB0.out.stay HV2.out)
    replace HB1 := Lib.hid (HB1.out.stay HV2.out)
    replace HB2 := Lib.hid (HB2.out.stay HV2.out)
    replace HB3 := Lib.hid (HB3.out.stay HV2.out)
    replace HB4 := Lib.hid (HB4.out.stay HV2.out)
    replace HT1 := Lib.hid (HV2.out.at HT1.out (by simp))
    replace HT2 := Lib.hid (HV2.out.at HT2.out (by simp))
    replace HT3 := Lib.hid (HV2.out.at HT3.out (by simp))
    replace HT4 := Lib.hid (HV2.out.at HT4.out (by simp))
    replace HOP := Lib.hid (HV2.out.at HOP.out (by simp))
    replace HUW := Lib.hid (HUW.out.thn HV2.out)
    clear c0 c1 c2 c3 c4 c5 d0 d1 d2 d3 d4 d5 g0 g1 g2 g3 g4 g5 k0 k1 k2 k3 k4 k5 t0 t1 t2 u0 u1 u2 y0 y1 y2 x0 x1 x2 hgd hq HKP HS1 HS2 HS3 HS4 HV1 HV2 HSM1 HSM2
    obtain ⟨d0, d1, d2⟩ := cells3 HOP.out
    go_upto_region 10 with (go_at_call 11; (with_reducible refine (HTM.out _).mono ?_); rintro e w6 ⟨rfl, hu2⟩)
    clear d0 d1 d2
    have hal := (Upd.refl [] w6).alloc (.cells #[.int .i64 tx, .int .i64 (seq : Nat), .int .i64 0] 36)
    have hit := heap_alloc1 w6 (.cells #[.int .i64 tx, .int .i64 (seq : Nat), .int .i64 0] 36)
    have hu3 := hu2.thn hal
    generalize w6.alloc (.cells #[.int .i64 tx, .int .i64 (seq : Nat), .int .i64 0] 36) = W6 at *
    generalize w6.heap.size = PX at *
    have HX := Lib.hid hit
    replace HB0 := Lib.hid (HB0.out.stay hu3)
    replace HB1 := Lib.hid (HB1.out.stay hu3)
    replace HB2 := Lib.hid (HB2.out.stay hu3)
    replace HB3 := Lib.hid (HB3.out.stay hu3)
    replace HB4 := Lib.hid (HB4.out.stay hu3)
    replace HT1 := Lib.hid (hu3.at HT1.out (by simp))
    replace HT2 := Lib.hid (hu3.at HT2.out (by simp))
    replace HT3 := Lib.hid (hu3.at HT3.out (by simp))
    replace HT4 := Lib.hid (hu3.at HT4.out (by simp))
    replace HOP := Lib.hid (hu3.at HOP.out (by simp))
    replace HUW := Lib.hid (HUW.out.thn hu3)
    clear hal hit hu2 hu3 HTM
    obtain ⟨c0, c1, c2, c3, c4, c5⟩ := cells6 (show W6.heap[P0]? = some (.cells #[.int .i64 l0.ts, .slice l0.top.ad l0.top.l.length l0.top.cap, .slice l0.rs.ad l0.rs.l.length l0.rs.cap, .slice l0.bot.ad l0.bot.l.length l0.bot.cap, .int .i64 l0.mv, .int .i64 l0.cp] 25 (0, 0)) from HB0.out.1)
    obtain ⟨d0, d1, d2⟩ := cells3 HX.out
    have HIK := Lib.hid (HIN0.out W6 HB0.out.2)
    go_upto_region 11 with (first
      | (go_at_call 19; (with_reducible refine HIK.out.mono ?_); rintro e wa0 ⟨lq0, rfl, hBq⟩; have HPK := Lib.hid (HPX0.out wa0 _ lq0 hBq); have HUQ := Lib.hid hBq.upd; clear hBq; unfold encD cellsD)
      | (go_at_call 14; (with_reducible refine HPK.out.mono ?_); rintro e wb0 ⟨l5, rfl, hB⟩; unfold encD cellsD aggI; simp only))
    clear c0 c1 c2 c3 c4 c5
    clear d0 d1 d2
    obtain ⟨hal, hqm, hqt, hsm⟩ := two_boxes wb0 (.cells #[.int .i64 l5.ts, .slice l5.top.ad l5.top.l.length l5.top.cap, .slice l5.rs.ad l5.rs.l.length l5.rs.cap, .slice l5.bot.ad l5.bot.l.length l5.bot.cap, .int .i64 l5.mv, .int .i64 l5.cp] 25) (.cells #[.int .i64 f0, .int .i64 f1, .int .i64 f2] 36)
    have hu3 := (HUQ.out.thn hB.upd).thn hal
    generalize (wb0.alloc (.cells #[.int .i64 l5.ts, .slice l5.top.ad l5.top.l.length l5.top.cap, .slice l5.rs.ad l5.rs.l.length l5.rs.cap, .slice l5.bot.ad l5.bot.l.length l5.bot.cap, .int .i64 l5.mv, .int .i64 l5.cp] 25)).alloc (.cells #[.int .i64 f0, .int .i64 f1, .int .i64 f2] 36) = W7 at *
    generalize wb0.heap.size = P5 at *
    have HTT0 := Lib.hid hqt
    replace HB0 := Lib.hid (HB0.out.stay hu3)
    replace HB1 := Lib.hid (HB1.out.stay hu3)
    replace HB2 := Lib.hid (HB2.out.stay hu3)
    replace HB3 := Lib.hid (HB3.out.stay hu3)
    replace HB4 := Lib.hid (HB4.out.stay hu3)
    replace HT1 := Lib.hid (hu3.at HT1.out (by simp))
    replace HT2 := Lib.hid (hu3.at HT2.out (by simp))
    replace HT3 := Lib.hid (hu3.at HT3.out (by simp))
    replace HT4 := Lib.hid (hu3.at HT4.out (by simp))
    replace HOP := Lib.hid (hu3.at HOP.out (by simp))
    replace HX := Lib.hid (hu3.at HX.out (by simp))
    replace HUW := Lib.hid (HUW.out.thn hu3)
    clear hal hqm hqt hsm hu3 hB HUQ HPK HIK
    obtain ⟨c0, c1, c2, c3, c4, c5⟩ := cells6 (show W7.heap[P1]? = some (.cells #[.int .i64 l1.ts, .slice l1.top.ad l1.top.l.length l1.top.cap, .slice l1.rs.ad l1.rs.l.length l1.rs.cap, .slice l1.bot.ad l1.bot.l.length l1.bot.cap, .int .i64 l1.mv, .int .i64 l1.cp] 25 (0, 0)) from HB1.out.1)
    obtain ⟨d0, d1, d2⟩ := cells3 HX.out
    have HIK := Lib.hid (HIN1.out W7 HB1.out.2)
    go_upto_region 12 with (first
      | (go_at_call 19; (with_reducible refine HIK.out.mono ?_); rintro e wa1 ⟨lq1, rfl, hBq⟩; have HPK := Lib.hid (HPX1.out wa1 _ lq1 hBq); have HUQ := Lib.hid hBq.upd; clear hBq; unfold encD cellsD)
      | (go_at_call 14; (with_reducible refine HPK.out.mono ?_); rintro e wb1 ⟨l6, rfl, hB⟩; unfold encD cellsD aggI; simp only))
    clear c0 c1 c2 c3 c4 c5
    clear d0 d1 d2
    obtain ⟨hal, hqm, hqt, hsm⟩ := two_boxes wb1 (.cells #[.int .i64 l6.ts, .slice l6.top.ad l6.top.l.length l6.top.cap, .slice l6.rs.ad l6.rs.l.length l6.rs.cap, .slice l6.bot.ad l6.bot.l.length l6.bot.cap, .int .i64 l6.mv, .int .i64 l6.cp] 25) (.cells #[.int .i64 f0, .int .i64 f1, .int .i64 f2] 36)
    have hu3 := (HUQ.out.thn hB.upd).thn hal
    generalize (wb1.alloc (.cells #[.int .i64 l6.ts, .slice l6.top.ad l6.top.l.length l6.top.cap, .slice l6.rs.ad l6.rs.l.length l6.rs.cap, .slice l6.bot.ad l6.bot.l.length l6.bot.cap, .int .i64 l6.mv, .int .i64 l6.cp] 25)).alloc (.cells #[.int .i64 f0, .int .i64 f1, .int .i64 f2] 36) = W8 at *
    generalize wb1.heap.size = P6 at *
    have HTT1 := Lib.hid hqt
    replace HB0 := Lib.hid (HB0.out.stay hu3)
    replace HB1 := Lib.hid (HB1.out.stay hu3)
    replace HB2 := Lib.hid (HB2.out.stay hu3)
    replace HB3 := Lib.hid (HB3.out.stay hu3)
    replace HB4 := Lib.hid (HB4.out.stay hu3)
    replace HT1 := Lib.hid (hu3.at HT1.out (by simp))
    replace HT2 := Lib.hid (hu3.at HT2.out (by simp))
    replace HT3 := Lib.hid (hu3.at HT3.out (by simp))
    replace HT4 := Lib.hid (hu3.at HT4.out (by simp))
    replace HOP := Lib.hid (hu3.at HOP.out (by simp))
    replace HX := Lib.hid (hu3.at HX.out (by simp))
    replace HTT0 := Lib.hid (hu3.at HTT0.out (by simp))
    replace HUW := Lib.hid (HUW.out.thn hu3)
    clear hal hqm hqt hsm hu3 hB HUQ HPK HIK
    obtain ⟨t0, t1, t2⟩ := cells3 HTT0.out
    obtain ⟨u0, u1, u2⟩ := cells3 HTT1.out
    obtain ⟨y0, y1, y2⟩ := cells3 HT1.out
    have hgd := guardItem
    have hq := eqlItem ⟨f0, f1, f2⟩ ⟨f0, f1, f2⟩
    simp only [decide_true] at hq
    have hle := HPI.out (by first | rfl | trivial)
    have hdd : decide (cm ≤ 0) = true := decide_eq_true hle
    go_wp2_with (go_at_call 27; (with_reducible refine (HCM.out _).mono ?_); rintro e w9 ⟨rfl, hu9⟩)
    go_ret
    exact ⟨by first | rfl | simp, HUW.out.thn hu9⟩
  | false =>
    obtain ⟨c0, c1, c2, c3, c4, c5⟩ := cells6 (show W5.heap[P2]? = some (.cells #[.int .i64 l2.ts, .slice l2.top.ad l2.top.l.length l2.top.cap, .slice l2.rs.ad l2.rs.l.length l2.rs.cap, .slice l2.bot.ad l2.bot.l.length l2.bot.cap, .int .i64 l2.mv, .int .i64 l2.cp] 25 (0, 0)) from HB2.out.1)
    obtain ⟨d0, d1, d2, d3, d4, d5⟩ := cells6 (show W5.heap[P1]? = some (.cells #[.int .i64 l1.ts, .slice l1.top.ad l1.top.l.length l1.top.cap, .slice l1.rs.ad l1.rs.l.length l1.rs.cap, .slice l1.bot.ad l1.bot.l.length l1.bot.cap, .int .i64 l1.mv, .int .i64 l1.cp] 25 (0, 0)) from HB1.out.1)
    obtain ⟨g0, g1, g2, g3, g4, g5⟩ := cells6 (show W5.heap[P3]? = some (.cells #[.int .i64 l3.ts, .slice l3.top.ad l3.top.l.length l3.top.cap, .slice l3.rs.ad l3.rs.l.length l3.rs.cap, .slice l3.bot.ad l3.bot.l.length l3.bot.cap, .int .i64 l3.mv, .int .i64 l3.cp] 25 (0, 0)) from HB3.out.1)
    obtain ⟨k0, k1, k2, k3, k4, k5⟩ := cells6 (show W5.heap[P4]? = some (.cells #[.int .i64 l4.ts, .slice l4.top.ad l4.top.l.length l4.top.cap, .slice l4.rs.ad l4.rs.l.length l4.rs.cap, .slice l4.bot.ad l4.bot.l.length l4.bot.cap, .int .i64 l4.mv, .int .i64 l4.cp] 25 (0, 0)) from HB4.out.1)
    obtain ⟨t0, t1, t2⟩ := cells3 HT1.out
    obtain ⟨u0, u1, u2⟩ := cells3 HT2.out
    obtain ⟨y0, y1, y2⟩ := cells3 HT3.out
    obtain ⟨x0, x1, x2⟩ := cells3 HT4.out
    have hgd := guardItem
    have hq := neqItem ⟨i0, i1, i2⟩ ⟨i0, i1, i2⟩
    simp only [decide_true, Bool.not_true] at hq
    have HKP := Lib.hid (fun V (hu : Upd [] W5 V) => (⟨hu.cell c0 (by simp), hu.cell c1 (by simp), hu.cell c2 (by simp), hu.cell c3 (by simp), hu.cell c4 (by simp), hu.cell c5 (by simp), hu.cell d0 (by simp), hu.cell d1 (by simp), hu.cell d2 (by simp), hu.cell d3 (by simp), hu.cell d4 (by simp), hu.cell d5 (by simp), hu.cell g0 (by simp), hu.cell g1 (by simp), hu.cell g2 (by simp), hu.cell g3 (by simp), hu.cell g4 (by simp), hu.cell g5 (by simp), hu.cell k0 (by simp), hu.cell k1 (by simp), hu.cell k2 (by simp), hu.cell k3 (by simp), hu.cell k4 (by simp), hu.cell k5 (by simp)⟩ : V.cell? ⟨P2, 0, none⟩ = some (.int .i64 l2.ts) ∧ V.cell? ⟨P2, 1, none⟩ = some (.slice l2.top.ad l2.top.l.length l2.top.cap) ∧ V.cell? ⟨P2, 2, none⟩ = some (.slice l2.rs.ad l2.rs.l.length l2.rs.cap) ∧ V.cell? ⟨P2, 3, none⟩ = some (.slice l2.bot.ad l2.bot.l.length l2.bot.cap) ∧ V.cell? ⟨P2, 4, none⟩ = some (.int .i64 l2.mv) ∧ V.cell? ⟨P2, 5, none⟩ = some (.int .i64 l2.cp) ∧ V.cell? ⟨P1, 0, none⟩ = some (.int .i64 l1.ts) ∧ V.cell? ⟨P1, 1, none⟩ = some (.slice l1.top.ad l1.top.l.length l1.top.cap) ∧ V.cell? ⟨P1, 2, none⟩ = some (.slice l1.rs.ad l1.rs.l.length l1.rs.cap) ∧ V.cell? ⟨P1, 3, none⟩ = some (.slice l1.bot.ad l1.bot.l.length l1.bot.cap) ∧ V.cell? ⟨P1, 4, none⟩ = some (.int .i64 l1.mv) ∧ V.cell? ⟨P1, 5, none⟩ = some (.int .i64 l1.cp) ∧ V.cell? ⟨P3, 0, none⟩ = some (.int .i64 l3.ts) ∧ V.cell? ⟨P3, 1, none⟩ = some (.slice l3.top.ad l3.top.l.length l3.top.cap) ∧ V.cell? ⟨P3, 2, none⟩ = some (.slice l3.rs.ad l3.rs.l.length l3.rs.cap) ∧ V.cell? ⟨P3, 3, none⟩ = some (.slice l3.bot.ad l3.bot.l.length l3.bot.cap) ∧ V.cell? ⟨P3, 4, none⟩ = some (.int .i64 l3.mv) ∧ V.cell? ⟨P3, 5, none⟩ = some (.int .i64 l3.cp) ∧ V.cell? ⟨P4, 0, none⟩ = some (.int .i64 l4.ts) ∧ V.cell? ⟨P4, 1, none⟩ = some (.slice l4.top.ad l4.top.l.length l4.top.cap) ∧ V.cell? ⟨P4, 2, none⟩ = some (.slice l4.rs.ad l4.rs.l.length l4.rs.cap) ∧ V.cell? ⟨P4, 3, none⟩ = some (.slice l4.bot.ad l4.bot.l.length l4.bot.cap) ∧ V.cell? ⟨P4, 4, none⟩ = some (.int .i64 l4.mv) ∧ V.cell? ⟨P4, 5, none⟩ = some (.int .i64 l4.cp)))
    have HS1 : Hid (HasD W5 l1) := HB1.out.2; have HS2 : Hid (HasD W5 l2) := HB2.out.2; have HS3 : Hid (HasD W5 l3) := HB3.out.2; have HS4 : Hid (HasD W5 l4) := HB4.out.2
    go_upto_region 9 with (first
      | (go_at_call 18; (with_reducible refine (HSM1.out _ HS2.out HS1.out).mono ?_); rintro e v1 ⟨rfl, hv⟩; have HV1 := Lib.hid hv; clear hv; obtain ⟨c0, c1, c2, c3, c4, c5, d0, d1, d2, d3, d4, d5, g0, g1, g2, g3, g4, g5, k0, k1, k2, k3, k4, k5⟩ := HKP.out v1 HV1.out)
      | (go_at_call 18; (with_reducible refine (HSM2.out _ (HS3.out.stay HV1.out) (HS4.out.stay HV1.out)).mono ?_); rintro e v2 ⟨rfl, hv⟩; have HV2 := Lib.hid (HV1.out.thn hv); clear hv))
    replace HB0 := Lib.hid (HB0.out.stay HV2.out)
    replace HB1 := Lib.hid (HB1.out.stay HV2.out)
    replace HB2 := Lib.hid (HB2.out.stay HV2.out)
    replace HB3 := Lib.hid (HB3.out.stay HV2.out)
    replace HB4 := Lib.hid (HB4.out.stay HV2.out)
    replace HT1 := Lib.hid (HV2.out.at HT1.out (by simp))
    replace HT2 := Lib.hid (HV2.out.at HT2.out (by simp))
    replace HT3 := Lib.hid (HV2.out.at HT3.out (by simp))
    replace HT4 := Lib.hid (HV2.out.at HT4.out (by simp))
    replace HOP := Lib.hid (HV2.out.at HOP.out (by simp))
    replace HUW := Lib.hid (HUW.out.thn HV2.out)
    clear c0 c1 c2 c3 c4 c5 d0 d1 d2 d3 d4 d5 g0 g1 g2 g3 g4 g5 k0 k1 k2 k3 k4 k5 t0 t1 t2 u0 u1 u2 y0 y1 y2 x0 x1 x2 hgd hq HKP HS1 HS2 HS3 HS4 HV1 HV2 HSM1 HSM2
    obtain ⟨d0, d1, d2⟩ := cells3 HOP.out
    go_upto_region 10 with (go_at_call 11; (with_reducible refine (HTM.out _).mono ?_); rintro e w6 ⟨rfl, hu2⟩)
    clear d0 d1 d2
    have hal := (Upd.refl [] w6).alloc (.cells #[.int .i64 tx, .int .i64 (seq : Nat), .int .i64 0] 36)
    have hit := heap_alloc1 w6 (.cells #[.int .i64 tx, .int .i64 (seq : Nat), .int .i64 0] 36)
    have hu3 := hu2.thn hal
    generalize w6.alloc (.cells #[.int .i64 tx, .int .i64 (seq : Nat), .int .i64 0] 36) = W6 at *
    generalize w6.heap.size = PX at *
    have HX := Lib.hid hit
    replace HB0 := Lib.hid (HB0.out.stay hu3)
    replace HB1 := Lib.hid (HB1.out.stay hu3)
    replace HB2 := Lib.hid (HB2.out.stay hu3)
    replace HB3 := Lib.hid (HB3.out.stay hu3)
    replace HB4 := Lib.hid (HB4.out.stay hu3)
    replace HT1 := Lib.hid (hu3.at HT1.out (by simp))
    replace HT2 := Lib.hid (hu3.at HT2.out (by simp))
    replace HT3 := Lib.hid (hu3.at HT3.out (by simp))
    replace HT4 := Lib.hid (hu3.at HT4.out (by simp))
    replace HOP := Lib.hid (hu3.at HOP.out (by simp))
    replace HUW := Lib.hid (HUW.out.thn hu3)
    clear hal hit hu2 hu3 HTM
    obtain ⟨c0, c1, c2, c3, c4, c5⟩ := cells6 (show W6.heap[P0]? = some (.cells #[.int .i64 l0.ts, .slice l0.top.ad l0.top.l.length l0.top.cap, .slice l0.rs.ad l0.rs.l.length l0.rs.cap, .slice l0.bot.ad l0.bot.l.length l0.bot.cap, .int .i64 l0.mv, .int .i64 l0.cp] 25 (0, 0)) from HB0.out.1)
    obtain ⟨d0, d1, d2⟩ := cells3 HX.out
    have HIK := Lib.hid (HIN0.out W6 HB0.out.2)
    go_upto_region 11 with (first
      | (go_at_call 19; (with_reducible refine HIK.out.mono ?_); rintro e wa0 ⟨lq0, rfl, hBq⟩; have HPK := Lib.hid (HPX0.out wa0 _ lq0 hBq); have HUQ := Lib.hid hBq.upd; clear hBq; unfold encD cellsD)
      | (go_at_call 14; (with_reducible refine HPK.out.mono ?_); rintro e wb0 ⟨l5, rfl, hB⟩; unfold encD cellsD aggI; simp only))
    clear c0 c1 c2 c3 c4 c5
    clear d0 d1 d2
    obtain ⟨hal, hqm, hqt, hsm⟩ := two_boxes wb0 (.cells #[.int .i64 l5.ts, .slice l5.top.ad l5.top.l.length l5.top.cap, .slice l5.rs.ad l5.rs.l.length l5.rs.cap, .slice l5.bot.ad l5.bot.l.length l5.bot.cap, .int .i64 l5.mv, .int .i64 l5.cp] 25) (.cells #[.int .i64 f0, .int .i64 f1, .int .i64 f2] 36)
    have hu3 := (HUQ.out.thn hB.upd).thn hal
    generalize (wb0.alloc (.cells #[.int .i64 l5.ts, .slice l5.top.ad l5.top.l.length l5.top.cap, .slice l5.rs.ad l5.rs.l.length l5.rs.cap, .slice l5.bot.ad l5.bot.l.length l5.bot.cap, .int .i64 l5.mv, .int .i64 l5.cp] 25)).alloc (.cells #[.int .i64 f0, .int .i64 f1, .int .i64 f2] 36) = W7 at *
    generalize wb0.heap.size = P5 at *
    have HTT0 := Lib.hid hqt
    replace HB0 := Lib.hid (HB0.out.stay hu3)
    replace HB1 := Lib.hid (HB1.out.stay hu3)
    replace HB2 := Lib.hid (HB2.out.stay hu3)
    replace HB3 := Lib.hid (HB3.out.stay hu3)
    replace HB4 := Lib.hid (HB4.out.stay hu3)
    replace HT1 := Lib.hid (hu3.at HT1.out (by simp))
    replace HT2 := Lib.hid (hu3.at HT2.out (by simp))
    replace HT3 := Lib.hid (hu3.at HT3.out (by simp))
    replace HT4 := Lib.hid (hu3.at HT4.out (by simp))
    replace HOP := Lib.hid (hu3.at HOP.out (by simp))
    replace HX := Lib.hid (hu3.at HX.out (by simp))
    replace HUW := Lib.hid (HUW.out.thn hu3)
    clear hal hqm hqt hsm hu3 hB HUQ HPK HIK
    obtain ⟨c0, c1, c2, c3, c4, c5⟩ := cells6 (show W7.heap[P1]? = some (.cells #[.int .i64 l1.ts, .slice l1.top.ad l1.top.l.length l1.top.cap, .slice l1.rs.ad l1.rs.l.length l1.rs.cap, .slice l1.bot.ad l1.bot.l.length l1.bot.cap, .int .i64 l1.mv, .int .i64 l1.cp] 25 (0, 0)) from HB1.out.1)
    obtain ⟨d0, d1, d2⟩ := cells3 HX.out
    have HIK := Lib.hid (HIN1.out W7 HB1.out.2)
    go_upto_region 12 with (first
      | (go_at_call 19; (with_reducible refine HIK.out.mono ?_); rintro e wa1 ⟨lq1, rfl, hBq⟩; have HPK := Lib.hid (HPX1.out wa1 _ lq1 hBq); have HUQ := Lib.hid hBq.upd; clear hBq; unfold encD cellsD)
      | (go_at_call 14; (with_reducible refine HPK.out.mono ?_); rintro e wb1 ⟨l6, rfl, hB⟩; unfold encD cellsD aggI; simp only))
    clear c0 c1 c2 c3 c4 c5
    clear d0 d1 d2
    obtain ⟨hal, hqm, hqt, hsm⟩ := two_boxes wb1 (.cells #[.int .i64 l6.ts, .slice l6.top.ad l6.top.l.length l6.top.cap, .slice l6.rs.ad l6.rs.l.length l6.rs.cap, .slice l6.bot.ad l6.bot.l.length l6.bot.cap, .int .i64 l6.mv, .int .i64 l6.cp] 25) (.cells #[.int .i64 f0, .int .i64 f1, .int .i64 f2] 36)
    have hu3 := (HUQ.out.thn hB.upd).thn hal
    generalize (wb1.alloc (.cells #[.int .i64 l6.ts, .slice l6.top.ad l6.top.l.length l6.top.cap, .slice l6.rs.ad l6.rs.l.length l6.rs.cap, .slice l6.bot.ad l6.bot.l.length l6.bot.cap, .int .i64 l6.mv, .int .i64 l6.cp] 25)).alloc (.cells #[.int .i64 f0, .int .i64 f1, .int .i64 f2] 36) = W8 at *
    generalize wb1.heap.size = P6 at *
    have HTT1 := Lib.hid hqt
    replace HB0 := Lib.hid (HB0.out.stay hu3)
    replace HB1 := Lib.hid (HB1.out.stay hu3)
    replace HB2 := Lib.hid (HB2.out.stay hu3)
    replace HB3 := Lib.hid (HB3.out.stay hu3)
    replace HB4 := Lib.hid (HB4.out.stay hu3)
    replace HT1 := Lib.hid (hu3.at HT1.out (by simp))
    replace HT2 := Lib.hid (hu3.at HT2.out (by simp))
    replace HT3 := Lib.hid (hu3.at HT3.out (by simp))
    replace HT4 := Lib.hid (hu3.at HT4.out (by simp))
    replace HOP := Lib.hid (hu3.at HOP.out (by simp))
    replace HX := Lib.hid (hu3.at HX.out (by simp))
    replace HTT0 := Lib.hid (hu3.at HTT0.out (by simp))
    replace HUW := Lib.hid (HUW.out.thn hu3)
    clear hal hqm hqt hsm hu3 hB HUQ HPK HIK
    obtain ⟨t0, t1, t2⟩ := cells3 HTT0.out
    obtain ⟨u0, u1, u2⟩ := cells3 HTT1.out
    obtain ⟨y0, y1, y2⟩ := cells3 HT1.out
    have hgd := guardItem
    have hq := eqlItem ⟨f0, f1, f2⟩ ⟨f0, f1, f2⟩
    simp only [decide_true] at hq
    go_wp2_with fail
    go_ret
    exact ⟨by first | rfl | simp, HUW.out⟩
end Go.Proofs.YtneodiemgemhfaaGreat
