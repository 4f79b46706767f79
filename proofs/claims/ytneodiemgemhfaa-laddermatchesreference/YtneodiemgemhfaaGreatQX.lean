/- LadderMatchesReference: the law's walk. -/
import Derived.Test.YtneodiemgemhfaaGreatQV
import Derived.Test.YtneodiemgemhfaaGreatLB
namespace Go.Proofs.YtneodiemgemhfaaGreat
open Go.RowKit Go.Lib

/-- A call alone, whose value the world decides. -/
theorem one_callR {P : Program} {ops : Array Oper} {Q : Exit → Act → World → Prop} {md : Region.Mode} {S : World → Prop} {c fuel : Nat} {oc : Oper} {dc : Tmp} {listed : Array Bool} {a : Act} {w : World} {f : FuncId} {args : Array Value} {R : Value → World → Prop} (hc : ops[c]? = some oc) (edc : oc.dst = some dc) (r : Region.ready md ops listed = [c]) (wc : Region.wanted oc (yielded ops a.tmps) = true)
    (ec : (execOp a.eval oc).run P w = .ok (.enter f args) w) (hcall : Calls P f args w fun e w' => ∃ v, e = .returned v ∧ R v w') (hS : ∀ v W, R v W → S W)
    (rest : ∀ v W, R v W → wpAnyH P md ops Q S fuel (listed.setIfInBounds c true) (a.put (some dc) v) W) : wpAnyH P md ops Q S (fuel + 1) listed a w :=
  any_one r (op_call hc wc ec hcall (fun v w' h => ⟨hS v w' h, by rw [edc]; exact rest v w' h⟩))
theorem same_call {r s : LdR} (hf : Fit r) (he : r.ld = s.ld) (V : World) (hr : HasD V r) (hs : HasD V s) :
    Calls Tryz.prog 18 #[encD r, encD s] V fun e w' => e = .returned (.bool true) ∧ Upd [] V w' := by
  have h1 := hf.sizes
  have := LSame_has r s V hr hs (by omega) (by omega) (by omega) (fun x hx => ⟨by rw [hf.h8 x hx]; decide, fun b hb => Nat.le_trans (hf.its x hx b hb) (by decide)⟩)
  simp only [he, decide_true] at this
  exact this
/-- A value that is the queue g. -/
def GotD (w : World) (g : Ld) (v : Value) (w' : World) : Prop := ∃ l', v = encD l' ∧ l'.ld = g ∧ HasD w' l' ∧ Upd [] w w'
theorem got_born {f : FuncId} {args : Array Value} {w : World} {g : Ld} (h : Calls Tryz.prog f args w (GaveD w g)) : Calls Tryz.prog f args w fun e w' => ∃ v, e = .returned v ∧ GotD w g v w' :=
  h.mono fun e w' ⟨l', h1, h2⟩ => ⟨_, h1, l', rfl, h2.eq, h2.has, h2.upd⟩
theorem got_ref {f : FuncId} {args : Array Value} {l : LdR} {w : World} {g : Ld} (h : Calls Tryz.prog f args w (GivesRD l g w)) : Calls Tryz.prog f args w fun e w' => ∃ v, e = .returned v ∧ GotD w g v w' :=
  h.mono fun e w' ⟨l', h1, h2⟩ => ⟨_, h1, l', rfl, h2.eq, h2.has, h2.upd⟩
theorem got_new (w : World) : Calls Tryz.prog 24 #[] w fun e w' => ∃ v, e = .returned v ∧ GotD w newL v w' :=
  (RNewL_has w).mono fun e w' ⟨l', h1, h2, h3, h4, h5⟩ => ⟨_, h1, l', rfl, h2, h3, h5⟩
theorem GotD.upd {w w' : World} {g : Ld} {v : Value} (h : GotD w g v w') : Upd [] w w' := by obtain ⟨_, _, _, _, hu⟩ := h; exact hu
theorem same_got {k : Nat} {g : Ld} (hre : ReachL k g) (hk : k ≤ 10000) {W1 W2 V1 V2 : World} {x y : Value} (hx : GotD W1 g x V1) (hy : GotD W2 g y V2) (V : World) (h1 : Upd [] V1 V) (h2 : Upd [] V2 V) :
    Calls Tryz.prog 18 #[x, y] V fun e w' => e = .returned (.bool true) ∧ Upd [] V w' := by
  obtain ⟨l1, rfl, e1, d1, -⟩ := hx
  obtain ⟨l2, rfl, e2, d2, -⟩ := hy
  exact same_call (hre.fit hk e1).1 (e1.trans e2.symm) V (d1.stay h1) (d2.stay h2)
set_option maxRecDepth 100000 in
set_option maxHeartbeats 16000000 in
theorem Matches_any (l9 : LdR) (la : Option Addr) (lc : Nat) (os : List Ox) (o : Ox) (w : World) (hr : HasD w l9) (hm : MaxD l9) (ho : Row LX w la os) (hoa : ∀ o ∈ os, U64 o.a) (hoo : U64 o.a) :
    Calls Tryz.prog 3 #[encD l9, .slice la os.length lc, .agg #[.bool o.p, .int .u64 o.a, .bool o.n]] w fun e w' => e = .returned (.bool true) ∧ Upd [] w w' := by
  have HHD := Lib.hid head_true
  have HRO := Lib.hid ho
  have HR9 := Lib.hid hr
  have HMD := Lib.hid (fun V (hv : Row LX V la os) => LMade_has la lc os V hv hoa)
  have HSMW := Lib.hid (fun V (hv : HasD V l9) => LSmall_has l9 V hv hm)
  have hre := made_reach os
  have HRE : Hid (ReachL (madeM os).seq (madeM os).l) := hre.reach
  have HLA := Lib.hid hre.last
  have HSQ := Lib.hid hre.seq
  unfold MadePost at HMD
  unfold encD cellsD at HSMW
  obtain ⟨L, hL⟩ : ∃ L, L = os.length := ⟨_, rfl⟩
  rw [← hL] at HMD ⊢
  have HUO := Lib.hid hoo
  obtain ⟨op, oa, on⟩ := o
  simp only at HUO ⊢
  generalize (madeM os).seq = seq at *
  generalize (madeM os).last = last at *
  generalize (madeM os).l = g at *
  clear ho hoa hL hre hoo hr hm
  obtain ⟨tx, htx⟩ : ∃ tx, tx = timeX ⟨op, oa, on⟩ last := ⟨_, rfl⟩
  have HTX : Hid (0 ≤ tx ∧ tx ≤ MaxT) := by rw [htx]; exact timeX_bd HLA.out
  have HTM := Lib.hid (fun V => time_has ⟨op, oa, on⟩ last V HUO.out HLA.out)
  rw [← htx] at HTM
  clear htx
  obtain ⟨⟨i0, i1, i2⟩, ok, gp, hpp⟩ := pp_of HRE.out.good
  have HPP := Lib.hid hpp
  clear hpp
  have HSK := Lib.hid HRE.out.peek
  unfold encD cellsD
  go_enter Tryz.func3, Tryz.ntmps3
  go_upto_region 1 with (fail)
  generalize hA : (Obj.cells #[.int .i64 l9.ts, .slice l9.top.ad l9.top.l.length l9.top.cap, .slice l9.rs.ad l9.rs.l.length l9.rs.cap, .slice l9.bot.ad l9.bot.l.length l9.bot.cap, .int .i64 l9.mv, .int .i64 l9.cp] 25 : Obj) = A
  generalize hC : (Obj.cells #[.bool op, .int .u64 oa, .bool on] 29 : Obj) = C
  obtain ⟨hu, q0, bo, hsz⟩ := two_boxes w A C
  generalize (w.alloc A).alloc C = W0 at *
  have HB9 : Hid (InBoxD w.heap.size l9 W0) := ⟨by rw [q0, ← hA]; rfl, HR9.out.stay hu⟩
  generalize w.heap.size = P9 at *
  rw [← hC] at bo
  have HOP := Lib.hid bo; have HUW := Lib.hid hu
  clear hu hA hC q0 bo hsz
  go_upto_region 2 with (go_at_call 8; (with_reducible refine (HHD.out _).mono ?_); rintro e w0 ⟨rfl, hu0⟩)
  replace HB9 := Lib.hid (HB9.out.stay hu0)
  replace HOP := Lib.hid (hu0.at HOP.out (by simp))
  replace HUW := Lib.hid (HUW.out.thn hu0)
  clear hu0 HHD
  obtain ⟨c0, c1, c2, c3, c4, c5⟩ := cells6 (show w0.heap[P9]? = some (.cells #[.int .i64 l9.ts, .slice l9.top.ad l9.top.l.length l9.top.cap, .slice l9.rs.ad l9.rs.l.length l9.rs.cap, .slice l9.bot.ad l9.bot.l.length l9.bot.cap, .int .i64 l9.mv, .int .i64 l9.cp] 25 (0, 0)) from HB9.out.1)
  have HSMK := Lib.hid (HSMW.out w0 HB9.out.2)
  go_wp2_with fail
  (with_reducible refine HSMK.out.mono ?_)
  rintro e W2 ⟨sb, rfl, hsb, hu0⟩
  have HSB := Lib.hid hsb
  clear c0 c1 c2 c3 c4 c5
  replace HB9 := Lib.hid (HB9.out.stay hu0)
  replace HOP := Lib.hid (hu0.at HOP.out (by simp))
  replace HUW := Lib.hid (HUW.out.thn hu0)
  clear hu0 HSMW HSMK hsb
  cases sb with
  | false =>
    go_wp2_with fail
    go_ret
    exact ⟨rfl, HUW.out⟩
  | true =>
  have HS20 : Hid (SmD l9) := HSB.out (by first | rfl | trivial)
  clear HSB
  have HMDK := Lib.hid (HMD.out W2 (HRO.out.stay HUW.out))
  go_upto_region 5 with (go_at_call 10; (with_reducible refine HMDK.out.mono ?_); rintro e w1 ⟨l0, rfl, hB⟩; unfold encD cellsD)
  have hal := (Upd.refl [] w1).alloc (.cells #[.int .i64 l0.ts, .slice l0.top.ad l0.top.l.length l0.top.cap, .slice l0.rs.ad l0.rs.l.length l0.rs.cap, .slice l0.bot.ad l0.bot.l.length l0.bot.cap, .int .i64 l0.mv, .int .i64 l0.cp] 25)
  have hb : InBoxD w1.heap.size l0 (w1.alloc (.cells #[.int .i64 l0.ts, .slice l0.top.ad l0.top.l.length l0.top.cap, .slice l0.rs.ad l0.rs.l.length l0.rs.cap, .slice l0.bot.ad l0.bot.l.length l0.bot.cap, .int .i64 l0.mv, .int .i64 l0.cp] 25)) := ⟨heap_alloc1 _ _, hB.has.stay hal⟩
  have hu3 := hB.upd.thn hal
  have HE0 : Hid (l0.ld = g) := hB.eq
  generalize w1.alloc (.cells #[.int .i64 l0.ts, .slice l0.top.ad l0.top.l.length l0.top.cap, .slice l0.rs.ad l0.rs.l.length l0.rs.cap, .slice l0.bot.ad l0.bot.l.length l0.bot.cap, .int .i64 l0.mv, .int .i64 l0.cp] 25) = W1 at *
  generalize w1.heap.size = P0 at *
  have HB0 := Lib.hid hb
  replace HB9 := Lib.hid (HB9.out.stay hu3)
  replace HOP := Lib.hid (hu3.at HOP.out (by simp))
  replace HUW := Lib.hid (HUW.out.thn hu3)
  clear hal hb hu3 hB
  clear HMD HMDK HRO HR9
  have hfit := HRE.out.fit (by have := HSQ.out; omega) HE0.out
  have HFT := Lib.hid hfit
  have hfr := HRE.out.fitR (by have := HSQ.out; omega) HE0.out
  have HFR := Lib.hid hfr
  have HPK0 : Hid (∀ V, HasD V l0 → Calls Tryz.prog 12 #[encD l0] V (Peeked V (refillL g, ⟨i0, i1, i2⟩, ok))) := fun V hv => by
    have := Peek_has l0 V hv hfit.1
    rw [HE0.out, HPP.out.pk] at this; exact this
  have HPO0 : Hid (∀ V, HasD V l0 → Calls Tryz.prog 14 #[encD l0] V (Peeked V (gp, ⟨i0, i1, i2⟩, ok))) := fun V hv => by
    have := Pop_has l0 V hv hfit.1
    rw [HE0.out, HPP.out.po] at this; exact this
  have HRK0 : Hid (∀ V, HasD V l0 → Calls Tryz.prog 13 #[encD l0] V (GivesRP l0 (refillL g, ⟨i0, i1, i2⟩, ok) V)) := fun V hv => by
    have := RPeek_has l0 V hv hfr.good hfr.len hfr.mv
    rw [HE0.out, HPP.out.pk] at this; exact this
  have HRO0 : Hid (∀ V, HasD V l0 → Calls Tryz.prog 15 #[encD l0] V (GivesRP l0 (gp, ⟨i0, i1, i2⟩, ok) V)) := fun V hv => by
    have := RPop_has l0 V hv hfr.good hfr.len hfr.mv
    rw [HE0.out, HPP.out.po] at this; exact this
  clear hfit hfr
  unfold encD cellsD at HPK0 HPO0 HRK0 HRO0
  obtain ⟨d0, d1, d2⟩ := cells3 HOP.out
  go_upto_region 6 with (go_at_call 11; (with_reducible refine (HTM.out _).mono ?_); rintro e w2 ⟨rfl, hu2⟩)
  clear d0 d1 d2
  have hal := (Upd.refl [] w2).alloc (.cells #[.int .i64 tx, .int .i64 (seq : Nat), .int .i64 0] 36)
  have hit := heap_alloc1 w2 (.cells #[.int .i64 tx, .int .i64 (seq : Nat), .int .i64 0] 36)
  have hu3 := hu2.thn hal
  generalize w2.alloc (.cells #[.int .i64 tx, .int .i64 (seq : Nat), .int .i64 0] 36) = W3 at *
  generalize w2.heap.size = PX at *
  have HX := Lib.hid hit
  replace HB9 := Lib.hid (HB9.out.stay hu3)
  replace HB0 := Lib.hid (HB0.out.stay hu3)
  replace HOP := Lib.hid (hu3.at HOP.out (by simp))
  replace HUW := Lib.hid (HUW.out.thn hu3)
  clear hal hit hu2 hu3 HTM
  obtain ⟨c0, c1, c2, c3, c4, c5⟩ := cells6 (show W3.heap[P0]? = some (.cells #[.int .i64 l0.ts, .slice l0.top.ad l0.top.l.length l0.top.cap, .slice l0.rs.ad l0.rs.l.length l0.rs.cap, .slice l0.bot.ad l0.bot.l.length l0.bot.cap, .int .i64 l0.mv, .int .i64 l0.cp] 25 (0, 0)) from HB0.out.1)
  have HCK := Lib.hid (HPK0.out W3 HB0.out.2)
  go_upto_region 7 with (go_at_call 12; (with_reducible refine HCK.out.mono ?_); rintro e w3 ⟨l1, rfl, hB⟩; unfold encD cellsD aggI; simp only)
  clear c0 c1 c2 c3 c4 c5
  clear HCK
  obtain ⟨hal, hqm, hqt, hsm⟩ := two_boxes w3 (.cells #[.int .i64 l1.ts, .slice l1.top.ad l1.top.l.length l1.top.cap, .slice l1.rs.ad l1.rs.l.length l1.rs.cap, .slice l1.bot.ad l1.bot.l.length l1.bot.cap, .int .i64 l1.mv, .int .i64 l1.cp] 25) (.cells #[.int .i64 i0, .int .i64 i1, .int .i64 i2] 36)
  have hb : InBoxD w3.heap.size l1 ((w3.alloc (.cells #[.int .i64 l1.ts, .slice l1.top.ad l1.top.l.length l1.top.cap, .slice l1.rs.ad l1.rs.l.length l1.rs.cap, .slice l1.bot.ad l1.bot.l.length l1.bot.cap, .int .i64 l1.mv, .int .i64 l1.cp] 25)).alloc (.cells #[.int .i64 i0, .int .i64 i1, .int .i64 i2] 36)) := ⟨hqm, hB.has.stay hal⟩
  have hu3 := hB.upd.thn hal
  have HE1 : Hid (l1.ld = refillL g) := hB.eq
  generalize (w3.alloc (.cells #[.int .i64 l1.ts, .slice l1.top.ad l1.top.l.length l1.top.cap, .slice l1.rs.ad l1.rs.l.length l1.rs.cap, .slice l1.bot.ad l1.bot.l.length l1.bot.cap, .int .i64 l1.mv, .int .i64 l1.cp] 25)).alloc (.cells #[.int .i64 i0, .int .i64 i1, .int .i64 i2] 36) = W4 at *
  generalize w3.heap.size = P1 at *
  have HB1 := Lib.hid hb
  have HT1 := Lib.hid hqt
  replace HB9 := Lib.hid (HB9.out.stay hu3)
  replace HB0 := Lib.hid (HB0.out.stay hu3)
  replace HOP := Lib.hid (hu3.at HOP.out (by simp))
  replace HX := Lib.hid (hu3.at HX.out (by simp))
  replace HUW := Lib.hid (HUW.out.thn hu3)
  clear hal hb hu3 hqm hqt hsm hB
  obtain ⟨c0, c1, c2, c3, c4, c5⟩ := cells6 (show W4.heap[P0]? = some (.cells #[.int .i64 l0.ts, .slice l0.top.ad l0.top.l.length l0.top.cap, .slice l0.rs.ad l0.rs.l.length l0.rs.cap, .slice l0.bot.ad l0.bot.l.length l0.bot.cap, .int .i64 l0.mv, .int .i64 l0.cp] 25 (0, 0)) from HB0.out.1)
  have HCK := Lib.hid (HRK0.out W4 HB0.out.2)
  go_upto_region 8 with (go_at_call 13; (with_reducible refine HCK.out.mono ?_); rintro e w4 ⟨l2, rfl, hB⟩; unfold encD cellsD aggI; simp only)
  clear c0 c1 c2 c3 c4 c5
  clear HCK
  obtain ⟨hal, hqm, hqt, hsm⟩ := two_boxes w4 (.cells #[.int .i64 l2.ts, .slice l2.top.ad l2.top.l.length l2.top.cap, .slice l2.rs.ad l2.rs.l.length l2.rs.cap, .slice l2.bot.ad l2.bot.l.length l2.bot.cap, .int .i64 l2.mv, .int .i64 l2.cp] 25) (.cells #[.int .i64 i0, .int .i64 i1, .int .i64 i2] 36)
  have hb : InBoxD w4.heap.size l2 ((w4.alloc (.cells #[.int .i64 l2.ts, .slice l2.top.ad l2.top.l.length l2.top.cap, .slice l2.rs.ad l2.rs.l.length l2.rs.cap, .slice l2.bot.ad l2.bot.l.length l2.bot.cap, .int .i64 l2.mv, .int .i64 l2.cp] 25)).alloc (.cells #[.int .i64 i0, .int .i64 i1, .int .i64 i2] 36)) := ⟨hqm, hB.has.stay hal⟩
  have hu3 := hB.upd.thn hal
  have HE2 : Hid (l2.ld = refillL g) := hB.eq
  generalize (w4.alloc (.cells #[.int .i64 l2.ts, .slice l2.top.ad l2.top.l.length l2.top.cap, .slice l2.rs.ad l2.rs.l.length l2.rs.cap, .slice l2.bot.ad l2.bot.l.length l2.bot.cap, .int .i64 l2.mv, .int .i64 l2.cp] 25)).alloc (.cells #[.int .i64 i0, .int .i64 i1, .int .i64 i2] 36) = W5 at *
  generalize w4.heap.size = P2 at *
  have HB2 := Lib.hid hb
  have HT2 := Lib.hid hqt
  replace HB9 := Lib.hid (HB9.out.stay hu3)
  replace HB0 := Lib.hid (HB0.out.stay hu3)
  replace HB1 := Lib.hid (HB1.out.stay hu3)
  replace HT1 := Lib.hid (hu3.at HT1.out (by simp))
  replace HOP := Lib.hid (hu3.at HOP.out (by simp))
  replace HX := Lib.hid (hu3.at HX.out (by simp))
  replace HUW := Lib.hid (HUW.out.thn hu3)
  clear hal hb hu3 hqm hqt hsm hB
  obtain ⟨c0, c1, c2, c3, c4, c5⟩ := cells6 (show W5.heap[P0]? = some (.cells #[.int .i64 l0.ts, .slice l0.top.ad l0.top.l.length l0.top.cap, .slice l0.rs.ad l0.rs.l.length l0.rs.cap, .slice l0.bot.ad l0.bot.l.length l0.bot.cap, .int .i64 l0.mv, .int .i64 l0.cp] 25 (0, 0)) from HB0.out.1)
  have HCK := Lib.hid (HPO0.out W5 HB0.out.2)
  go_upto_region 9 with (go_at_call 14; (with_reducible refine HCK.out.mono ?_); rintro e w5 ⟨l3, rfl, hB⟩; unfold encD cellsD aggI; simp only)
  clear c0 c1 c2 c3 c4 c5
  clear HCK
  obtain ⟨hal, hqm, hqt, hsm⟩ := two_boxes w5 (.cells #[.int .i64 l3.ts, .slice l3.top.ad l3.top.l.length l3.top.cap, .slice l3.rs.ad l3.rs.l.length l3.rs.cap, .slice l3.bot.ad l3.bot.l.length l3.bot.cap, .int .i64 l3.mv, .int .i64 l3.cp] 25) (.cells #[.int .i64 i0, .int .i64 i1, .int .i64 i2] 36)
  have hb : InBoxD w5.heap.size l3 ((w5.alloc (.cells #[.int .i64 l3.ts, .slice l3.top.ad l3.top.l.length l3.top.cap, .slice l3.rs.ad l3.rs.l.length l3.rs.cap, .slice l3.bot.ad l3.bot.l.length l3.bot.cap, .int .i64 l3.mv, .int .i64 l3.cp] 25)).alloc (.cells #[.int .i64 i0, .int .i64 i1, .int .i64 i2] 36)) := ⟨hqm, hB.has.stay hal⟩
  have hu3 := hB.upd.thn hal
  have HE3 : Hid (l3.ld = gp) := hB.eq
  generalize (w5.alloc (.cells #[.int .i64 l3.ts, .slice l3.top.ad l3.top.l.length l3.top.cap, .slice l3.rs.ad l3.rs.l.length l3.rs.cap, .slice l3.bot.ad l3.bot.l.length l3.bot.cap, .int .i64 l3.mv, .int .i64 l3.cp] 25)).alloc (.cells #[.int .i64 i0, .int .i64 i1, .int .i64 i2] 36) = W6 at *
  generalize w5.heap.size = P3 at *
  have HB3 := Lib.hid hb
  have HT3 := Lib.hid hqt
  replace HB9 := Lib.hid (HB9.out.stay hu3)
  replace HB0 := Lib.hid (HB0.out.stay hu3)
  replace HB1 := Lib.hid (HB1.out.stay hu3)
  replace HB2 := Lib.hid (HB2.out.stay hu3)
  replace HT1 := Lib.hid (hu3.at HT1.out (by simp))
  replace HT2 := Lib.hid (hu3.at HT2.out (by simp))
  replace HOP := Lib.hid (hu3.at HOP.out (by simp))
  replace HX := Lib.hid (hu3.at HX.out (by simp))
  replace HUW := Lib.hid (HUW.out.thn hu3)
  clear hal hb hu3 hqm hqt hsm hB
  obtain ⟨c0, c1, c2, c3, c4, c5⟩ := cells6 (show W6.heap[P0]? = some (.cells #[.int .i64 l0.ts, .slice l0.top.ad l0.top.l.length l0.top.cap, .slice l0.rs.ad l0.rs.l.length l0.rs.cap, .slice l0.bot.ad l0.bot.l.length l0.bot.cap, .int .i64 l0.mv, .int .i64 l0.cp] 25 (0, 0)) from HB0.out.1)
  have HCK := Lib.hid (HRO0.out W6 HB0.out.2)
  go_upto_region 10 with (go_at_call 15; (with_reducible refine HCK.out.mono ?_); rintro e w6 ⟨l4, rfl, hB⟩; unfold encD cellsD aggI; simp only)
  clear c0 c1 c2 c3 c4 c5
  clear HCK
  obtain ⟨hal, hqm, hqt, hsm⟩ := two_boxes w6 (.cells #[.int .i64 l4.ts, .slice l4.top.ad l4.top.l.length l4.top.cap, .slice l4.rs.ad l4.rs.l.length l4.rs.cap, .slice l4.bot.ad l4.bot.l.length l4.bot.cap, .int .i64 l4.mv, .int .i64 l4.cp] 25) (.cells #[.int .i64 i0, .int .i64 i1, .int .i64 i2] 36)
  have hb : InBoxD w6.heap.size l4 ((w6.alloc (.cells #[.int .i64 l4.ts, .slice l4.top.ad l4.top.l.length l4.top.cap, .slice l4.rs.ad l4.rs.l.length l4.rs.cap, .slice l4.bot.ad l4.bot.l.length l4.bot.cap, .int .i64 l4.mv, .int .i64 l4.cp] 25)).alloc (.cells #[.int .i64 i0, .int .i64 i1, .int .i64 i2] 36)) := ⟨hqm, hB.has.stay hal⟩
  have hu3 := hB.upd.thn hal
  have HE4 : Hid (l4.ld = gp) := hB.eq
  generalize (w6.alloc (.cells #[.int .i64 l4.ts, .slice l4.top.ad l4.top.l.length l4.top.cap, .slice l4.rs.ad l4.rs.l.length l4.rs.cap, .slice l4.bot.ad l4.bot.l.length l4.bot.cap, .int .i64 l4.mv, .int .i64 l4.cp] 25)).alloc (.cells #[.int .i64 i0, .int .i64 i1, .int .i64 i2] 36) = W7 at *
  generalize w6.heap.size = P4 at *
  have HB4 := Lib.hid hb
  have HT4 := Lib.hid hqt
  replace HB9 := Lib.hid (HB9.out.stay hu3)
  replace HB0 := Lib.hid (HB0.out.stay hu3)
  replace HB1 := Lib.hid (HB1.out.stay hu3)
  replace HB2 := Lib.hid (HB2.out.stay hu3)
  replace HB3 := Lib.hid (HB3.out.stay hu3)
  replace HT1 := Lib.hid (hu3.at HT1.out (by simp))
  replace HT2 := Lib.hid (hu3.at HT2.out (by simp))
  replace HT3 := Lib.hid (hu3.at HT3.out (by simp))
  replace HOP := Lib.hid (hu3.at HOP.out (by simp))
  replace HX := Lib.hid (hu3.at HX.out (by simp))
  replace HUW := Lib.hid (HUW.out.thn hu3)
  clear hal hb hu3 hqm hqt hsm hB
  clear HPK0 HPO0 HRK0 HRO0
  have HF1 := Lib.hid (HSK.out.1.fit (by have := HSQ.out; omega) HE1.out)
  have hrp := HRE.out.pop
  rw [HPP.out.po] at hrp
  have HF3 := Lib.hid (hrp.fit (by have := HSQ.out; omega) HE3.out)
  clear hrp
  have HVA : Hid (∀ V, Upd [] W7 V → Calls Tryz.prog 16 #[encD l9] V fun e w' => e = .returned (.bool (validD l9.ld)) ∧ Upd [] V w') := fun V hv => LValid_has l9 V (HB9.out.2.stay hv) HS20.out.sz
  have HVR : Hid (∀ V, Upd [] W7 V → Calls Tryz.prog 17 #[encD l9] V fun e w' => e = .returned (.bool (validD l9.ld)) ∧ Upd [] V w') := fun V hv => RLValid_has l9 V (HB9.out.2.stay hv) HS20.out.sz
  have HIN : Hid (∀ V, Upd [] W7 V → Calls Tryz.prog 19 #[encD l0, aggI ⟨tx, seq, 0⟩] V fun e w' => ∃ v, e = .returned v ∧ GotD V (insertL g ⟨tx, seq, 0⟩) v w') := fun V hv => by
    have := got_born (Insert_has l0 ⟨tx, seq, 0⟩ V (HB0.out.2.stay hv) HFT.out.1 HFT.out.2 (by rw [HE0.out]; exact HRE.out.fresh (Int.le_refl _)))
    rw [HE0.out] at this; exact this
  have HIR : Hid (∀ V, Upd [] W7 V → Calls Tryz.prog 20 #[encD l0, aggI ⟨tx, seq, 0⟩] V fun e w' => ∃ v, e = .returned v ∧ GotD V (insertL g ⟨tx, seq, 0⟩) v w') := fun V hv => by
    have := got_ref (RInsert_has l0 ⟨tx, seq, 0⟩ V (HB0.out.2.stay hv) HFR.out)
    rw [HE0.out] at this; exact this
  have HRI : Hid (ReachL (seq + 1) (insertL g ⟨tx, seq, 0⟩)) := HRE.out.insert HTX.out.1 HTX.out.2 (Int.le_refl _) (by simp only; omega) (Nat.le_refl _)
  have HSAB : Hid (∀ V, Upd [] W7 V → Calls Tryz.prog 18 #[encD l1, encD l2] V fun e w' => e = .returned (.bool true) ∧ Upd [] V w') := fun V hv => same_call HF1.out.1 (by rw [HE1.out, HE2.out]) V (HB1.out.2.stay hv) (HB2.out.2.stay hv)
  have HSCD : Hid (∀ V, Upd [] W7 V → Calls Tryz.prog 18 #[encD l3, encD l4] V fun e w' => e = .returned (.bool true) ∧ Upd [] V w') := fun V hv => same_call HF3.out.1 (by rw [HE3.out, HE4.out]) V (HB3.out.2.stay hv) (HB4.out.2.stay hv)
  have HLN : Hid (∀ V, Upd [] W7 V → Calls Tryz.prog 21 #[encD l0] V fun e w' => e = .returned (.int .i64 (lenD g : Nat)) ∧ Upd [] V w') := fun V hv => (HRE.out.calls (by have := HSQ.out; omega) HE0.out).1 V (HB0.out.2.stay hv)
  have HRL : Hid (∀ V, Upd [] W7 V → Calls Tryz.prog 22 #[encD l0] V fun e w' => e = .returned (.int .i64 (lenD g : Nat)) ∧ Upd [] V w') := fun V hv => by
    have hs := HFT.out.1.sizes
    have := LLen_has l0 V (HB0.out.2.stay hv) (by omega) HFT.out.1.len (fun r hr => by rw [HFT.out.1.h8 r hr]; decide)
    rw [HE0.out] at this; exact this
  have HN1 := Lib.hid (fun V => got_born (LNew_has V))
  have HN2 := Lib.hid got_new
  have HSG : Hid (∀ (W1 W2 V1 V2 : World) x y, GotD W1 (insertL g ⟨tx, seq, 0⟩) x V1 → GotD W2 (insertL g ⟨tx, seq, 0⟩) y V2 → ∀ V, Upd [] V1 V → Upd [] V2 V → Calls Tryz.prog 18 #[x, y] V fun e w' => e = .returned (.bool true) ∧ Upd [] V w') := fun W1 W2 V1 V2 x y hx hy V h1 h2 => same_got HRI.out (by have := HSQ.out; omega) hx hy V h1 h2
  have HSN : Hid (∀ (W1 W2 V1 V2 : World) x y, GotD W1 newL x V1 → GotD W2 newL y V2 → ∀ V, Upd [] V1 V → Upd [] V2 V → Calls Tryz.prog 18 #[x, y] V fun e w' => e = .returned (.bool true) ∧ Upd [] V w') := fun W1 W2 V1 V2 x y hx hy V h1 h2 => same_got reachL_new (by decide) hx hy V h1 h2
  unfold encD cellsD at HVA HVR HSAB HSCD HLN HRL
  unfold encD cellsD aggI at HIN HIR
  simp only at HIN HIR
  generalize validD l9.ld = vb at *
  generalize insertL g ⟨tx, seq, 0⟩ = gi at *
  generalize lenD g = gn at *
  generalize newL = g0 at *
  have HC9 : Hid (∀ V, Upd [] W7 V → V.cell? ⟨P9, 0, none⟩ = some (.int .i64 l9.ts) ∧ V.cell? ⟨P9, 1, none⟩ = some (.slice l9.top.ad l9.top.l.length l9.top.cap) ∧ V.cell? ⟨P9, 2, none⟩ = some (.slice l9.rs.ad l9.rs.l.length l9.rs.cap) ∧ V.cell? ⟨P9, 3, none⟩ = some (.slice l9.bot.ad l9.bot.l.length l9.bot.cap) ∧ V.cell? ⟨P9, 4, none⟩ = some (.int .i64 l9.mv) ∧ V.cell? ⟨P9, 5, none⟩ = some (.int .i64 l9.cp)) := fun V hv => cells6 (show V.heap[P9]? = some (.cells #[.int .i64 l9.ts, .slice l9.top.ad l9.top.l.length l9.top.cap, .slice l9.rs.ad l9.rs.l.length l9.rs.cap, .slice l9.bot.ad l9.bot.l.length l9.bot.cap, .int .i64 l9.mv, .int .i64 l9.cp] 25 (0, 0)) from (HB9.out.stay hv).1)
  have HC0 : Hid (∀ V, Upd [] W7 V → V.cell? ⟨P0, 0, none⟩ = some (.int .i64 l0.ts) ∧ V.cell? ⟨P0, 1, none⟩ = some (.slice l0.top.ad l0.top.l.length l0.top.cap) ∧ V.cell? ⟨P0, 2, none⟩ = some (.slice l0.rs.ad l0.rs.l.length l0.rs.cap) ∧ V.cell? ⟨P0, 3, none⟩ = some (.slice l0.bot.ad l0.bot.l.length l0.bot.cap) ∧ V.cell? ⟨P0, 4, none⟩ = some (.int .i64 l0.mv) ∧ V.cell? ⟨P0, 5, none⟩ = some (.int .i64 l0.cp)) := fun V hv => cells6 (show V.heap[P0]? = some (.cells #[.int .i64 l0.ts, .slice l0.top.ad l0.top.l.length l0.top.cap, .slice l0.rs.ad l0.rs.l.length l0.rs.cap, .slice l0.bot.ad l0.bot.l.length l0.bot.cap, .int .i64 l0.mv, .int .i64 l0.cp] 25 (0, 0)) from (HB0.out.stay hv).1)
  have HC1 : Hid (∀ V, Upd [] W7 V → V.cell? ⟨P1, 0, none⟩ = some (.int .i64 l1.ts) ∧ V.cell? ⟨P1, 1, none⟩ = some (.slice l1.top.ad l1.top.l.length l1.top.cap) ∧ V.cell? ⟨P1, 2, none⟩ = some (.slice l1.rs.ad l1.rs.l.length l1.rs.cap) ∧ V.cell? ⟨P1, 3, none⟩ = some (.slice l1.bot.ad l1.bot.l.length l1.bot.cap) ∧ V.cell? ⟨P1, 4, none⟩ = some (.int .i64 l1.mv) ∧ V.cell? ⟨P1, 5, none⟩ = some (.int .i64 l1.cp)) := fun V hv => cells6 (show V.heap[P1]? = some (.cells #[.int .i64 l1.ts, .slice l1.top.ad l1.top.l.length l1.top.cap, .slice l1.rs.ad l1.rs.l.length l1.rs.cap, .slice l1.bot.ad l1.bot.l.length l1.bot.cap, .int .i64 l1.mv, .int .i64 l1.cp] 25 (0, 0)) from (HB1.out.stay hv).1)
  have HC2 : Hid (∀ V, Upd [] W7 V → V.cell? ⟨P2, 0, none⟩ = some (.int .i64 l2.ts) ∧ V.cell? ⟨P2, 1, none⟩ = some (.slice l2.top.ad l2.top.l.length l2.top.cap) ∧ V.cell? ⟨P2, 2, none⟩ = some (.slice l2.rs.ad l2.rs.l.length l2.rs.cap) ∧ V.cell? ⟨P2, 3, none⟩ = some (.slice l2.bot.ad l2.bot.l.length l2.bot.cap) ∧ V.cell? ⟨P2, 4, none⟩ = some (.int .i64 l2.mv) ∧ V.cell? ⟨P2, 5, none⟩ = some (.int .i64 l2.cp)) := fun V hv => cells6 (show V.heap[P2]? = some (.cells #[.int .i64 l2.ts, .slice l2.top.ad l2.top.l.length l2.top.cap, .slice l2.rs.ad l2.rs.l.length l2.rs.cap, .slice l2.bot.ad l2.bot.l.length l2.bot.cap, .int .i64 l2.mv, .int .i64 l2.cp] 25 (0, 0)) from (HB2.out.stay hv).1)
  have HC3 : Hid (∀ V, Upd [] W7 V → V.cell? ⟨P3, 0, none⟩ = some (.int .i64 l3.ts) ∧ V.cell? ⟨P3, 1, none⟩ = some (.slice l3.top.ad l3.top.l.length l3.top.cap) ∧ V.cell? ⟨P3, 2, none⟩ = some (.slice l3.rs.ad l3.rs.l.length l3.rs.cap) ∧ V.cell? ⟨P3, 3, none⟩ = some (.slice l3.bot.ad l3.bot.l.length l3.bot.cap) ∧ V.cell? ⟨P3, 4, none⟩ = some (.int .i64 l3.mv) ∧ V.cell? ⟨P3, 5, none⟩ = some (.int .i64 l3.cp)) := fun V hv => cells6 (show V.heap[P3]? = some (.cells #[.int .i64 l3.ts, .slice l3.top.ad l3.top.l.length l3.top.cap, .slice l3.rs.ad l3.rs.l.length l3.rs.cap, .slice l3.bot.ad l3.bot.l.length l3.bot.cap, .int .i64 l3.mv, .int .i64 l3.cp] 25 (0, 0)) from (HB3.out.stay hv).1)
  have HC4 : Hid (∀ V, Upd [] W7 V → V.cell? ⟨P4, 0, none⟩ = some (.int .i64 l4.ts) ∧ V.cell? ⟨P4, 1, none⟩ = some (.slice l4.top.ad l4.top.l.length l4.top.cap) ∧ V.cell? ⟨P4, 2, none⟩ = some (.slice l4.rs.ad l4.rs.l.length l4.rs.cap) ∧ V.cell? ⟨P4, 3, none⟩ = some (.slice l4.bot.ad l4.bot.l.length l4.bot.cap) ∧ V.cell? ⟨P4, 4, none⟩ = some (.int .i64 l4.mv) ∧ V.cell? ⟨P4, 5, none⟩ = some (.int .i64 l4.cp)) := fun V hv => cells6 (show V.heap[P4]? = some (.cells #[.int .i64 l4.ts, .slice l4.top.ad l4.top.l.length l4.top.cap, .slice l4.rs.ad l4.rs.l.length l4.rs.cap, .slice l4.bot.ad l4.bot.l.length l4.bot.cap, .int .i64 l4.mv, .int .i64 l4.cp] 25 (0, 0)) from (HB4.out.stay hv).1)
  have HCX : Hid (∀ V, Upd [] W7 V → V.cell? ⟨PX, 0, none⟩ = some (.int .i64 tx) ∧ V.cell? ⟨PX, 1, none⟩ = some (.int .i64 (seq : Nat)) ∧ V.cell? ⟨PX, 2, none⟩ = some (.int .i64 0)) := fun V hv => cells3 (hv.at HX.out (by simp))
  have HI1 : Hid (∀ V, Upd [] W7 V → V.cell? ⟨P1 + 1, 0, none⟩ = some (.int .i64 i0) ∧ V.cell? ⟨P1 + 1, 1, none⟩ = some (.int .i64 i1) ∧ V.cell? ⟨P1 + 1, 2, none⟩ = some (.int .i64 i2)) := fun V hv => cells3 (hv.at HT1.out (by simp))
  have HI2 : Hid (∀ V, Upd [] W7 V → V.cell? ⟨P2 + 1, 0, none⟩ = some (.int .i64 i0) ∧ V.cell? ⟨P2 + 1, 1, none⟩ = some (.int .i64 i1) ∧ V.cell? ⟨P2 + 1, 2, none⟩ = some (.int .i64 i2)) := fun V hv => cells3 (hv.at HT2.out (by simp))
  have HI3 : Hid (∀ V, Upd [] W7 V → V.cell? ⟨P3 + 1, 0, none⟩ = some (.int .i64 i0) ∧ V.cell? ⟨P3 + 1, 1, none⟩ = some (.int .i64 i1) ∧ V.cell? ⟨P3 + 1, 2, none⟩ = some (.int .i64 i2)) := fun V hv => cells3 (hv.at HT3.out (by simp))
  have HI4 : Hid (∀ V, Upd [] W7 V → V.cell? ⟨P4 + 1, 0, none⟩ = some (.int .i64 i0) ∧ V.cell? ⟨P4 + 1, 1, none⟩ = some (.int .i64 i1) ∧ V.cell? ⟨P4 + 1, 2, none⟩ = some (.int .i64 i2)) := fun V hv => cells3 (hv.at HT4.out (by simp))
  have hgd := guardItem
  have hq := eqlItem ⟨i0, i1, i2⟩ ⟨i0, i1, i2⟩
  simp only [decide_true] at hq
  clear HB9 HB0 HB1 HB2 HB3 HB4 HT1 HT2 HT3 HT4 HX HOP HE0 HE1 HE2 HE3 HE4 HF1 HF3 HFT HFR HRE HSK HPP HS20 HRI HTX HLA HSQ HUO
  refine wp_region_noPanic ?_
  refine wp_region_held_drew (S := fun wz => Upd [] W7 wz) mixed ((Upd.refl [] W7).drew) (fun hS => ?_)
  generalize hwx : W7.drew = V0 at hS ⊢
  have hux : Upd [] W7 V0 := by rw [← hwx]; exact (Upd.refl [] W7).drew
  have HUX := Lib.hid hux
  replace hS : Upd [] W7 V0 := hux
  clear hwx hux
  show wpAnyH _ _ _ _ _ 60 (Array.replicate 60 false) _ _
  refine take_one (i := 0) (d := 64) (v := ?_) rfl rfl (by kernel_rfl) (by kernel_rfl) (by kernel_rfl) (fun _ _ _ _ _ h => h) (by rfl) ?_ hS ?_
  rotate_left
  · intro wz hz; (try dsimp only at hz); go_simp; (try with_reducible rfl)
  simp only [Act.put, List.setIfInBounds_toArray, List.set_cons_zero, List.set_cons_succ]
  refine take_one (i := 1) (d := 65) (v := ?_) rfl rfl (by kernel_rfl) (by kernel_rfl) (by kernel_rfl) (fun _ _ _ _ _ h => h) (by rfl) ?_ hS ?_
  rotate_left
  · intro wz hz; (try dsimp only at hz); go_simp; (try with_reducible rfl)
  simp only [Act.put, List.setIfInBounds_toArray, List.set_cons_zero, List.set_cons_succ]
  refine take_one (i := 2) (d := 66) (v := ?_) rfl rfl (by kernel_rfl) (by kernel_rfl) (by kernel_rfl) (fun _ _ _ _ _ h => h) (by rfl) ?_ hS ?_
  rotate_left
  · intro wz hz; obtain ⟨c0, c1, c2, c3, c4, c5⟩ := HC9.out wz hz; (try dsimp only at hz); go_simp; (try with_reducible rfl)
  simp only [Act.put, List.setIfInBounds_toArray, List.set_cons_zero, List.set_cons_succ]
  refine take_one (i := 4) (d := 68) (v := ?_) rfl rfl (by kernel_rfl) (by kernel_rfl) (by kernel_rfl) (fun _ _ _ _ _ h => h) (by rfl) ?_ hS ?_
  rotate_left
  · intro wz hz; obtain ⟨c0, c1, c2, c3, c4, c5⟩ := HC9.out wz hz; (try dsimp only at hz); go_simp; (try with_reducible rfl)
  simp only [Act.put, List.setIfInBounds_toArray, List.set_cons_zero, List.set_cons_succ]
  refine one_call (c := 3) (dc := 67) (f := 16) (args := #[.agg #[.int .i64 l9.ts, .slice l9.top.ad l9.top.l.length l9.top.cap, .slice l9.rs.ad l9.rs.l.length l9.rs.cap, .slice l9.bot.ad l9.bot.l.length l9.bot.cap, .int .i64 l9.mv, .int .i64 l9.cp]]) (x := .bool vb) rfl rfl (by kernel_rfl) (by rfl) ?ec (HVA.out _ HUX.out) (fun V hu => HUX.out.thn hu) (fun V1 hu => ?_)
  case ec => go_simp
  replace HUX := Lib.hid (HUX.out.thn hu)
  have hS : Upd [] W7 V1 := HUX.out
  clear hu
  simp only [Act.put, List.setIfInBounds_toArray, List.set_cons_zero, List.set_cons_succ]
  refine one_call (c := 5) (dc := 69) (f := 17) (args := #[.agg #[.int .i64 l9.ts, .slice l9.top.ad l9.top.l.length l9.top.cap, .slice l9.rs.ad l9.rs.l.length l9.rs.cap, .slice l9.bot.ad l9.bot.l.length l9.bot.cap, .int .i64 l9.mv, .int .i64 l9.cp]]) (x := .bool vb) rfl rfl (by kernel_rfl) (by rfl) ?ec (HVR.out _ HUX.out) (fun V hu => HUX.out.thn hu) (fun V2 hu => ?_)
  case ec => go_simp
  replace HUX := Lib.hid (HUX.out.thn hu)
  have hS : Upd [] W7 V2 := HUX.out
  clear hu
  simp only [Act.put, List.setIfInBounds_toArray, List.set_cons_zero, List.set_cons_succ]
  refine take_one (i := 6) (d := 70) (v := ?_) rfl rfl (by kernel_rfl) (by kernel_rfl) (by kernel_rfl) (fun _ _ _ _ _ h => h) (by rfl) ?_ hS ?_
  rotate_left
  · intro wz hz; (try dsimp only at hz); go_simp; (try with_reducible rfl)
  simp only [Act.put, List.setIfInBounds_toArray, List.set_cons_zero, List.set_cons_succ]
  refine take_one (i := 7) (d := 71) (v := ?_) rfl rfl (by kernel_rfl) (by kernel_rfl) (by kernel_rfl) (fun _ _ _ _ _ h => h) (by rfl) ?_ hS ?_
  rotate_left
  · intro wz hz; (try dsimp only at hz); go_simp; (try with_reducible rfl)
  simp only [Act.put, List.setIfInBounds_toArray, List.set_cons_zero, List.set_cons_succ]
  refine take_one (i := 8) (d := 72) (v := ?_) rfl rfl (by kernel_rfl) (by kernel_rfl) (by kernel_rfl) (fun _ _ _ _ _ h => h) (by rfl) ?_ hS ?_
  rotate_left
  · intro wz hz; (try dsimp only at hz); go_simp; (try with_reducible rfl)
  simp only [Act.put, List.setIfInBounds_toArray, List.set_cons_zero, List.set_cons_succ]
  refine take_one (i := 9) (d := 73) (v := ?_) rfl rfl (by kernel_rfl) (by kernel_rfl) (by kernel_rfl) (fun _ _ _ _ _ h => h) (by rfl) ?_ hS ?_
  rotate_left
  · intro wz hz; obtain ⟨c0, c1, c2, c3, c4, c5⟩ := HC0.out wz hz; (try dsimp only at hz); go_simp; (try with_reducible rfl)
  simp only [Act.put, List.setIfInBounds_toArray, List.set_cons_zero, List.set_cons_succ]
  refine take_one (i := 10) (d := 74) (v := ?_) rfl rfl (by kernel_rfl) (by kernel_rfl) (by kernel_rfl) (fun _ _ _ _ _ h => h) (by rfl) ?_ hS ?_
  rotate_left
  · intro wz hz; obtain ⟨c0, c1, c2⟩ := HCX.out wz hz; (try dsimp only at hz); go_simp; (try with_reducible rfl)
  simp only [Act.put, List.setIfInBounds_toArray, List.set_cons_zero, List.set_cons_succ]
  refine take_one (i := 12) (d := 76) (v := ?_) rfl rfl (by kernel_rfl) (by kernel_rfl) (by kernel_rfl) (fun _ _ _ _ _ h => h) (by rfl) ?_ hS ?_
  rotate_left
  · intro wz hz; obtain ⟨c0, c1, c2, c3, c4, c5⟩ := HC0.out wz hz; (try dsimp only at hz); go_simp; (try with_reducible rfl)
  simp only [Act.put, List.setIfInBounds_toArray, List.set_cons_zero, List.set_cons_succ]
  refine take_one (i := 13) (d := 77) (v := ?_) rfl rfl (by kernel_rfl) (by kernel_rfl) (by kernel_rfl) (fun _ _ _ _ _ h => h) (by rfl) ?_ hS ?_
  rotate_left
  · intro wz hz; obtain ⟨c0, c1, c2⟩ := HCX.out wz hz; (try dsimp only at hz); go_simp; (try with_reducible rfl)
  simp only [Act.put, List.setIfInBounds_toArray, List.set_cons_zero, List.set_cons_succ]
  refine one_callR (c := 11) (dc := 75) (f := 19) (args := #[.agg #[.int .i64 l0.ts, .slice l0.top.ad l0.top.l.length l0.top.cap, .slice l0.rs.ad l0.rs.l.length l0.rs.cap, .slice l0.bot.ad l0.bot.l.length l0.bot.cap, .int .i64 l0.mv, .int .i64 l0.cp], .agg #[.int .i64 tx, .int .i64 (seq : Nat), .int .i64 0]]) (R := fun v w' => GotD V2 gi v w') rfl rfl (by kernel_rfl) (by rfl) ?ec (HIN.out _ HUX.out) (fun v V h => HUX.out.thn h.upd) (fun x75 V3 hg => ?_)
  case ec => go_simp
  have hu := hg.upd
  have HG75 := Lib.hid hg
  clear hg
  have HV75 := Lib.hid (Upd.refl [] V3)
  replace HUX := Lib.hid (HUX.out.thn hu)
  have hS : Upd [] W7 V3 := HUX.out
  clear hu
  simp only [Act.put, List.setIfInBounds_toArray, List.set_cons_zero, List.set_cons_succ]
  refine one_callR (c := 14) (dc := 78) (f := 20) (args := #[.agg #[.int .i64 l0.ts, .slice l0.top.ad l0.top.l.length l0.top.cap, .slice l0.rs.ad l0.rs.l.length l0.rs.cap, .slice l0.bot.ad l0.bot.l.length l0.bot.cap, .int .i64 l0.mv, .int .i64 l0.cp], .agg #[.int .i64 tx, .int .i64 (seq : Nat), .int .i64 0]]) (R := fun v w' => GotD V3 gi v w') rfl rfl (by kernel_rfl) (by rfl) ?ec (HIR.out _ HUX.out) (fun v V h => HUX.out.thn h.upd) (fun x78 V4 hg => ?_)
  case ec => go_simp
  have hu := hg.upd
  have HG78 := Lib.hid hg
  clear hg
  replace HV75 := Lib.hid (HV75.out.thn hu)
  have HV78 := Lib.hid (Upd.refl [] V4)
  replace HUX := Lib.hid (HUX.out.thn hu)
  have hS : Upd [] W7 V4 := HUX.out
  clear hu
  simp only [Act.put, List.setIfInBounds_toArray, List.set_cons_zero, List.set_cons_succ]
  refine one_call (c := 15) (dc := 79) (f := 18) (args := #[x75, x78]) (x := .bool true) rfl rfl (by kernel_rfl) (by rfl) ?ec (HSG.out _ _ _ _ _ _ HG75.out HG78.out _ HV75.out HV78.out) (fun V hu => HUX.out.thn hu) (fun V5 hu => ?_)
  case ec => go_simp
  replace HV75 := Lib.hid (HV75.out.thn hu)
  replace HV78 := Lib.hid (HV78.out.thn hu)
  replace HUX := Lib.hid (HUX.out.thn hu)
  have hS : Upd [] W7 V5 := HUX.out
  clear hu
  simp only [Act.put, List.setIfInBounds_toArray, List.set_cons_zero, List.set_cons_succ]
  refine take_one (i := 16) (d := 80) (v := ?_) rfl rfl (by kernel_rfl) (by kernel_rfl) (by kernel_rfl) (fun _ _ _ _ _ h => h) (by rfl) ?_ hS ?_
  rotate_left
  · intro wz hz; (try dsimp only at hz); go_simp; (try with_reducible rfl)
  simp only [Act.put, List.setIfInBounds_toArray, List.set_cons_zero, List.set_cons_succ]
  refine take_one (i := 17) (d := 81) (v := ?_) rfl rfl (by kernel_rfl) (by kernel_rfl) (by kernel_rfl) (fun _ _ _ _ _ h => h) (by rfl) ?_ hS ?_
  rotate_left
  · intro wz hz; (try dsimp only at hz); go_simp; (try with_reducible rfl)
  simp only [Act.put, List.setIfInBounds_toArray, List.set_cons_zero, List.set_cons_succ]
  refine take_one (i := 18) (d := 82) (v := ?_) rfl rfl (by kernel_rfl) (by kernel_rfl) (by kernel_rfl) (fun _ _ _ _ _ h => h) (by rfl) ?_ hS ?_
  rotate_left
  · intro wz hz; obtain ⟨c0, c1, c2, c3, c4, c5⟩ := HC1.out wz hz; (try dsimp only at hz); go_simp; (try with_reducible rfl)
  simp only [Act.put, List.setIfInBounds_toArray, List.set_cons_zero, List.set_cons_succ]
  refine take_one (i := 19) (d := 83) (v := ?_) rfl rfl (by kernel_rfl) (by kernel_rfl) (by kernel_rfl) (fun _ _ _ _ _ h => h) (by rfl) ?_ hS ?_
  rotate_left
  · intro wz hz; obtain ⟨c0, c1, c2, c3, c4, c5⟩ := HC2.out wz hz; (try dsimp only at hz); go_simp; (try with_reducible rfl)
  simp only [Act.put, List.setIfInBounds_toArray, List.set_cons_zero, List.set_cons_succ]
  refine one_call (c := 20) (dc := 84) (f := 18) (args := #[.agg #[.int .i64 l1.ts, .slice l1.top.ad l1.top.l.length l1.top.cap, .slice l1.rs.ad l1.rs.l.length l1.rs.cap, .slice l1.bot.ad l1.bot.l.length l1.bot.cap, .int .i64 l1.mv, .int .i64 l1.cp], .agg #[.int .i64 l2.ts, .slice l2.top.ad l2.top.l.length l2.top.cap, .slice l2.rs.ad l2.rs.l.length l2.rs.cap, .slice l2.bot.ad l2.bot.l.length l2.bot.cap, .int .i64 l2.mv, .int .i64 l2.cp]]) (x := .bool true) rfl rfl (by kernel_rfl) (by rfl) ?ec (HSAB.out _ HUX.out) (fun V hu => HUX.out.thn hu) (fun V6 hu => ?_)
  case ec => go_simp
  replace HUX := Lib.hid (HUX.out.thn hu)
  have hS : Upd [] W7 V6 := HUX.out
  clear hu
  simp only [Act.put, List.setIfInBounds_toArray, List.set_cons_zero, List.set_cons_succ]
  refine take_one (i := 21) (d := 85) (v := ?_) rfl rfl (by kernel_rfl) (by kernel_rfl) (by kernel_rfl) (fun _ _ _ _ _ h => h) (by rfl) ?_ hS ?_
  rotate_left
  · intro wz hz; (try dsimp only at hz); go_simp; (try with_reducible rfl)
  simp only [Act.put, List.setIfInBounds_toArray, List.set_cons_zero, List.set_cons_succ]
  refine take_one (i := 22) (d := 86) (v := ?_) rfl rfl (by kernel_rfl) (by kernel_rfl) (by kernel_rfl) (fun _ _ _ _ _ h => h) (by rfl) ?_ hS ?_
  rotate_left
  · intro wz hz; (try dsimp only at hz); go_simp; (try with_reducible rfl)
  simp only [Act.put, List.setIfInBounds_toArray, List.set_cons_zero, List.set_cons_succ]
  refine take_one (i := 23) (d := 87) (v := ?_) rfl rfl (by kernel_rfl) (by kernel_rfl) (by kernel_rfl) (fun _ _ _ _ _ h => h) (by rfl) ?_ hS ?_
  rotate_left
  · intro wz hz; obtain ⟨c0, c1, c2⟩ := HI1.out wz hz; (try dsimp only at hz); go_simp; (try with_reducible rfl)
  simp only [Act.put, List.setIfInBounds_toArray, List.set_cons_zero, List.set_cons_succ]
  refine take_one (i := 24) (d := 88) (v := ?_) rfl rfl (by kernel_rfl) (by kernel_rfl) (by kernel_rfl) (fun _ _ _ _ _ h => h) (by rfl) ?_ hS ?_
  rotate_left
  · intro wz hz; obtain ⟨c0, c1, c2⟩ := HI2.out wz hz; (try dsimp only at hz); go_simp; (try with_reducible rfl)
  simp only [Act.put, List.setIfInBounds_toArray, List.set_cons_zero, List.set_cons_succ]
  refine take_one (i := 25) (d := 89) (v := ?_) rfl rfl (by kernel_rfl) (by kernel_rfl) (by kernel_rfl) (fun _ _ _ _ _ h => h) (by rfl) ?_ hS ?_
  rotate_left
  · intro wz hz; (try dsimp only at hz); go_simp; (try with_reducible rfl)
  simp only [Act.put, List.setIfInBounds_toArray, List.set_cons_zero, List.set_cons_succ]
  refine take_one (i := 26) (d := 90) (v := ?_) rfl rfl (by kernel_rfl) (by kernel_rfl) (by kernel_rfl) (fun _ _ _ _ _ h => h) (by rfl) ?_ hS ?_
  rotate_left
  · intro wz hz; (try dsimp only at hz); go_simp; (try with_reducible rfl)
  simp only [Act.put, List.setIfInBounds_toArray, List.set_cons_zero, List.set_cons_succ]
  refine take_one (i := 27) (d := 91) (v := ?_) rfl rfl (by kernel_rfl) (by kernel_rfl) (by kernel_rfl) (fun _ _ _ _ _ h => h) (by rfl) ?_ hS ?_
  rotate_left
  · intro wz hz; (try dsimp only at hz); go_simp; (try with_reducible rfl)
  simp only [Act.put, List.setIfInBounds_toArray, List.set_cons_zero, List.set_cons_succ]
  refine take_one (i := 28) (d := 92) (v := ?_) rfl rfl (by kernel_rfl) (by kernel_rfl) (by kernel_rfl) (fun _ _ _ _ _ h => h) (by rfl) ?_ hS ?_
  rotate_left
  · intro wz hz; (try dsimp only at hz); go_simp; (try with_reducible rfl)
  simp only [Act.put, List.setIfInBounds_toArray, List.set_cons_zero, List.set_cons_succ]
  refine take_one (i := 29) (d := 93) (v := ?_) rfl rfl (by kernel_rfl) (by kernel_rfl) (by kernel_rfl) (fun _ _ _ _ _ h => h) (by rfl) ?_ hS ?_
  rotate_left
  · intro wz hz; (try dsimp only at hz); go_simp; (try with_reducible rfl)
  simp only [Act.put, List.setIfInBounds_toArray, List.set_cons_zero, List.set_cons_succ]
  refine take_one (i := 30) (d := 94) (v := ?_) rfl rfl (by kernel_rfl) (by kernel_rfl) (by kernel_rfl) (fun _ _ _ _ _ h => h) (by rfl) ?_ hS ?_
  rotate_left
  · intro wz hz; (try dsimp only at hz); go_simp; (try with_reducible rfl)
  simp only [Act.put, List.setIfInBounds_toArray, List.set_cons_zero, List.set_cons_succ]
  refine take_one (i := 31) (d := 95) (v := ?_) rfl rfl (by kernel_rfl) (by kernel_rfl) (by kernel_rfl) (fun _ _ _ _ _ h => h) (by rfl) ?_ hS ?_
  rotate_left
  · intro wz hz; (try dsimp only at hz); go_simp; (try with_reducible rfl)
  simp only [Act.put, List.setIfInBounds_toArray, List.set_cons_zero, List.set_cons_succ]
  refine take_one (i := 32) (d := 96) (v := ?_) rfl rfl (by kernel_rfl) (by kernel_rfl) (by kernel_rfl) (fun _ _ _ _ _ h => h) (by rfl) ?_ hS ?_
  rotate_left
  · intro wz hz; (try dsimp only at hz); go_simp; (try with_reducible rfl)
  simp only [Act.put, List.setIfInBounds_toArray, List.set_cons_zero, List.set_cons_succ]
  refine take_one (i := 33) (d := 97) (v := ?_) rfl rfl (by kernel_rfl) (by kernel_rfl) (by kernel_rfl) (fun _ _ _ _ _ h => h) (by rfl) ?_ hS ?_
  rotate_left
  · intro wz hz; obtain ⟨c0, c1, c2, c3, c4, c5⟩ := HC3.out wz hz; (try dsimp only at hz); go_simp; (try with_reducible rfl)
  simp only [Act.put, List.setIfInBounds_toArray, List.set_cons_zero, List.set_cons_succ]
  refine take_one (i := 34) (d := 98) (v := ?_) rfl rfl (by kernel_rfl) (by kernel_rfl) (by kernel_rfl) (fun _ _ _ _ _ h => h) (by rfl) ?_ hS ?_
  rotate_left
  · intro wz hz; obtain ⟨c0, c1, c2, c3, c4, c5⟩ := HC4.out wz hz; (try dsimp only at hz); go_simp; (try with_reducible rfl)
  simp only [Act.put, List.setIfInBounds_toArray, List.set_cons_zero, List.set_cons_succ]
  refine one_call (c := 35) (dc := 99) (f := 18) (args := #[.agg #[.int .i64 l3.ts, .slice l3.top.ad l3.top.l.length l3.top.cap, .slice l3.rs.ad l3.rs.l.length l3.rs.cap, .slice l3.bot.ad l3.bot.l.length l3.bot.cap, .int .i64 l3.mv, .int .i64 l3.cp], .agg #[.int .i64 l4.ts, .slice l4.top.ad l4.top.l.length l4.top.cap, .slice l4.rs.ad l4.rs.l.length l4.rs.cap, .slice l4.bot.ad l4.bot.l.length l4.bot.cap, .int .i64 l4.mv, .int .i64 l4.cp]]) (x := .bool true) rfl rfl (by kernel_rfl) (by rfl) ?ec (HSCD.out _ HUX.out) (fun V hu => HUX.out.thn hu) (fun V7 hu => ?_)
  case ec => go_simp
  replace HUX := Lib.hid (HUX.out.thn hu)
  have hS : Upd [] W7 V7 := HUX.out
  clear hu
  simp only [Act.put, List.setIfInBounds_toArray, List.set_cons_zero, List.set_cons_succ]
  refine take_one (i := 36) (d := 100) (v := ?_) rfl rfl (by kernel_rfl) (by kernel_rfl) (by kernel_rfl) (fun _ _ _ _ _ h => h) (by rfl) ?_ hS ?_
  rotate_left
  · intro wz hz; (try dsimp only at hz); go_simp; (try with_reducible rfl)
  simp only [Act.put, List.setIfInBounds_toArray, List.set_cons_zero, List.set_cons_succ]
  refine take_one (i := 37) (d := 101) (v := ?_) rfl rfl (by kernel_rfl) (by kernel_rfl) (by kernel_rfl) (fun _ _ _ _ _ h => h) (by rfl) ?_ hS ?_
  rotate_left
  · intro wz hz; (try dsimp only at hz); go_simp; (try with_reducible rfl)
  simp only [Act.put, List.setIfInBounds_toArray, List.set_cons_zero, List.set_cons_succ]
  refine take_one (i := 38) (d := 102) (v := ?_) rfl rfl (by kernel_rfl) (by kernel_rfl) (by kernel_rfl) (fun _ _ _ _ _ h => h) (by rfl) ?_ hS ?_
  rotate_left
  · intro wz hz; obtain ⟨c0, c1, c2⟩ := HI3.out wz hz; (try dsimp only at hz); go_simp; (try with_reducible rfl)
  simp only [Act.put, List.setIfInBounds_toArray, List.set_cons_zero, List.set_cons_succ]
  refine take_one (i := 39) (d := 103) (v := ?_) rfl rfl (by kernel_rfl) (by kernel_rfl) (by kernel_rfl) (fun _ _ _ _ _ h => h) (by rfl) ?_ hS ?_
  rotate_left
  · intro wz hz; obtain ⟨c0, c1, c2⟩ := HI4.out wz hz; (try dsimp only at hz); go_simp; (try with_reducible rfl)
  simp only [Act.put, List.setIfInBounds_toArray, List.set_cons_zero, List.set_cons_succ]
  refine take_one (i := 40) (d := 104) (v := ?_) rfl rfl (by kernel_rfl) (by kernel_rfl) (by kernel_rfl) (fun _ _ _ _ _ h => h) (by rfl) ?_ hS ?_
  rotate_left
  · intro wz hz; (try dsimp only at hz); go_simp; (try with_reducible rfl)
  simp only [Act.put, List.setIfInBounds_toArray, List.set_cons_zero, List.set_cons_succ]
  refine take_one (i := 41) (d := 105) (v := ?_) rfl rfl (by kernel_rfl) (by kernel_rfl) (by kernel_rfl) (fun _ _ _ _ _ h => h) (by rfl) ?_ hS ?_
  rotate_left
  · intro wz hz; (try dsimp only at hz); go_simp; (try with_reducible rfl)
  simp only [Act.put, List.setIfInBounds_toArray, List.set_cons_zero, List.set_cons_succ]
  refine take_one (i := 42) (d := 106) (v := ?_) rfl rfl (by kernel_rfl) (by kernel_rfl) (by kernel_rfl) (fun _ _ _ _ _ h => h) (by rfl) ?_ hS ?_
  rotate_left
  · intro wz hz; (try dsimp only at hz); go_simp; (try with_reducible rfl)
  simp only [Act.put, List.setIfInBounds_toArray, List.set_cons_zero, List.set_cons_succ]
  refine take_one (i := 43) (d := 107) (v := ?_) rfl rfl (by kernel_rfl) (by kernel_rfl) (by kernel_rfl) (fun _ _ _ _ _ h => h) (by rfl) ?_ hS ?_
  rotate_left
  · intro wz hz; (try dsimp only at hz); go_simp; (try with_reducible rfl)
  simp only [Act.put, List.setIfInBounds_toArray, List.set_cons_zero, List.set_cons_succ]
  refine take_one (i := 44) (d := 108) (v := ?_) rfl rfl (by kernel_rfl) (by kernel_rfl) (by kernel_rfl) (fun _ _ _ _ _ h => h) (by rfl) ?_ hS ?_
  rotate_left
  · intro wz hz; (try dsimp only at hz); go_simp; (try with_reducible rfl)
  simp only [Act.put, List.setIfInBounds_toArray, List.set_cons_zero, List.set_cons_succ]
  refine take_one (i := 45) (d := 109) (v := ?_) rfl rfl (by kernel_rfl) (by kernel_rfl) (by kernel_rfl) (fun _ _ _ _ _ h => h) (by rfl) ?_ hS ?_
  rotate_left
  · intro wz hz; (try dsimp only at hz); go_simp; (try with_reducible rfl)
  simp only [Act.put, List.setIfInBounds_toArray, List.set_cons_zero, List.set_cons_succ]
  refine take_one (i := 46) (d := 110) (v := ?_) rfl rfl (by kernel_rfl) (by kernel_rfl) (by kernel_rfl) (fun _ _ _ _ _ h => h) (by rfl) ?_ hS ?_
  rotate_left
  · intro wz hz; (try dsimp only at hz); go_simp; (try with_reducible rfl)
  simp only [Act.put, List.setIfInBounds_toArray, List.set_cons_zero, List.set_cons_succ]
  refine take_one (i := 47) (d := 111) (v := ?_) rfl rfl (by kernel_rfl) (by kernel_rfl) (by kernel_rfl) (fun _ _ _ _ _ h => h) (by rfl) ?_ hS ?_
  rotate_left
  · intro wz hz; (try dsimp only at hz); go_simp; (try with_reducible rfl)
  simp only [Act.put, List.setIfInBounds_toArray, List.set_cons_zero, List.set_cons_succ]
  refine take_one (i := 48) (d := 112) (v := ?_) rfl rfl (by kernel_rfl) (by kernel_rfl) (by kernel_rfl) (fun _ _ _ _ _ h => h) (by rfl) ?_ hS ?_
  rotate_left
  · intro wz hz; obtain ⟨c0, c1, c2, c3, c4, c5⟩ := HC0.out wz hz; (try dsimp only at hz); go_simp; (try with_reducible rfl)
  simp only [Act.put, List.setIfInBounds_toArray, List.set_cons_zero, List.set_cons_succ]
  refine take_one (i := 50) (d := 114) (v := ?_) rfl rfl (by kernel_rfl) (by kernel_rfl) (by kernel_rfl) (fun _ _ _ _ _ h => h) (by rfl) ?_ hS ?_
  rotate_left
  · intro wz hz; obtain ⟨c0, c1, c2, c3, c4, c5⟩ := HC0.out wz hz; (try dsimp only at hz); go_simp; (try with_reducible rfl)
  simp only [Act.put, List.setIfInBounds_toArray, List.set_cons_zero, List.set_cons_succ]
  refine one_call (c := 49) (dc := 113) (f := 21) (args := #[.agg #[.int .i64 l0.ts, .slice l0.top.ad l0.top.l.length l0.top.cap, .slice l0.rs.ad l0.rs.l.length l0.rs.cap, .slice l0.bot.ad l0.bot.l.length l0.bot.cap, .int .i64 l0.mv, .int .i64 l0.cp]]) (x := .int .i64 (gn : Nat)) rfl rfl (by kernel_rfl) (by rfl) ?ec (HLN.out _ HUX.out) (fun V hu => HUX.out.thn hu) (fun V8 hu => ?_)
  case ec => go_simp
  replace HUX := Lib.hid (HUX.out.thn hu)
  have hS : Upd [] W7 V8 := HUX.out
  clear hu
  simp only [Act.put, List.setIfInBounds_toArray, List.set_cons_zero, List.set_cons_succ]
  refine one_call (c := 51) (dc := 115) (f := 22) (args := #[.agg #[.int .i64 l0.ts, .slice l0.top.ad l0.top.l.length l0.top.cap, .slice l0.rs.ad l0.rs.l.length l0.rs.cap, .slice l0.bot.ad l0.bot.l.length l0.bot.cap, .int .i64 l0.mv, .int .i64 l0.cp]]) (x := .int .i64 (gn : Nat)) rfl rfl (by kernel_rfl) (by rfl) ?ec (HRL.out _ HUX.out) (fun V hu => HUX.out.thn hu) (fun V9 hu => ?_)
  case ec => go_simp
  replace HUX := Lib.hid (HUX.out.thn hu)
  have hS : Upd [] W7 V9 := HUX.out
  clear hu
  simp only [Act.put, List.setIfInBounds_toArray, List.set_cons_zero, List.set_cons_succ]
  refine take_one (i := 52) (d := 116) (v := ?_) rfl rfl (by kernel_rfl) (by kernel_rfl) (by kernel_rfl) (fun _ _ _ _ _ h => h) (by rfl) ?_ hS ?_
  rotate_left
  · intro wz hz; (try dsimp only at hz); go_simp; (try with_reducible rfl)
  simp only [Act.put, List.setIfInBounds_toArray, List.set_cons_zero, List.set_cons_succ]
  refine take_one (i := 53) (d := 117) (v := ?_) rfl rfl (by kernel_rfl) (by kernel_rfl) (by kernel_rfl) (fun _ _ _ _ _ h => h) (by rfl) ?_ hS ?_
  rotate_left
  · intro wz hz; (try dsimp only at hz); go_simp; (try with_reducible rfl)
  simp only [Act.put, List.setIfInBounds_toArray, List.set_cons_zero, List.set_cons_succ]
  refine take_one (i := 54) (d := 118) (v := ?_) rfl rfl (by kernel_rfl) (by kernel_rfl) (by kernel_rfl) (fun _ _ _ _ _ h => h) (by rfl) ?_ hS ?_
  rotate_left
  · intro wz hz; (try dsimp only at hz); go_simp; (try with_reducible rfl)
  simp only [Act.put, List.setIfInBounds_toArray, List.set_cons_zero, List.set_cons_succ]
  refine one_callR (c := 55) (dc := 119) (f := 23) (args := #[]) (R := fun v w' => GotD V9 g0 v w') rfl rfl (by kernel_rfl) (by rfl) ?ec (HN1.out _) (fun v V h => HUX.out.thn h.upd) (fun x119 V10 hg => ?_)
  case ec => go_simp
  have hu := hg.upd
  have HG119 := Lib.hid hg
  clear hg
  have HV119 := Lib.hid (Upd.refl [] V10)
  replace HUX := Lib.hid (HUX.out.thn hu)
  have hS : Upd [] W7 V10 := HUX.out
  clear hu
  simp only [Act.put, List.setIfInBounds_toArray, List.set_cons_zero, List.set_cons_succ]
  refine one_callR (c := 56) (dc := 120) (f := 24) (args := #[]) (R := fun v w' => GotD V10 g0 v w') rfl rfl (by kernel_rfl) (by rfl) ?ec (HN2.out _) (fun v V h => HUX.out.thn h.upd) (fun x120 V11 hg => ?_)
  case ec => go_simp
  have hu := hg.upd
  have HG120 := Lib.hid hg
  clear hg
  replace HV119 := Lib.hid (HV119.out.thn hu)
  have HV120 := Lib.hid (Upd.refl [] V11)
  replace HUX := Lib.hid (HUX.out.thn hu)
  have hS : Upd [] W7 V11 := HUX.out
  clear hu
  simp only [Act.put, List.setIfInBounds_toArray, List.set_cons_zero, List.set_cons_succ]
  refine one_call (c := 57) (dc := 121) (f := 18) (args := #[x119, x120]) (x := .bool true) rfl rfl (by kernel_rfl) (by rfl) ?ec (HSN.out _ _ _ _ _ _ HG119.out HG120.out _ HV119.out HV120.out) (fun V hu => HUX.out.thn hu) (fun V12 hu => ?_)
  case ec => go_simp
  replace HV119 := Lib.hid (HV119.out.thn hu)
  replace HV120 := Lib.hid (HV120.out.thn hu)
  replace HUX := Lib.hid (HUX.out.thn hu)
  have hS : Upd [] W7 V12 := HUX.out
  clear hu
  simp only [Act.put, List.setIfInBounds_toArray, List.set_cons_zero, List.set_cons_succ]
  refine take_one (i := 58) (d := 122) (v := ?_) rfl rfl (by kernel_rfl) (by kernel_rfl) (by kernel_rfl) (fun _ _ _ _ _ h => h) (by rfl) ?_ hS ?_
  rotate_left
  · intro wz hz; (try dsimp only at hz); go_simp; (try with_reducible rfl)
  simp only [Act.put, List.setIfInBounds_toArray, List.set_cons_zero, List.set_cons_succ]
  refine take_one (i := 59) (d := 6) (v := ?_) rfl rfl (by kernel_rfl) (by kernel_rfl) (by kernel_rfl) (fun _ _ _ _ _ h => h) (by rfl) ?_ hS ?_
  rotate_left
  · intro wz hz; (try dsimp only at hz); go_simp; (try with_reducible rfl)
  simp only [Act.put, List.setIfInBounds_toArray, List.set_cons_zero, List.set_cons_succ]
  refine wpAnyH_done (by kernel_rfl) ?_ _
  refine NoPanic.normal ?_
  go_wp2_with fail
  go_ret
  exact ⟨by first | rfl | (simp; done), HUW.out.thn HUX.out⟩
end Go.Proofs.YtneodiemgemhfaaGreat
