/- RungMatchesReference: the law's walk. -/
import Derived.Test.YtmfijhophaeljaaUU
import Derived.Test.YtmfijhophaeljaaRS
namespace Go.Proofs.Ytmfijhophaeljaa
open Go.RowKit Go.Lib

/-- A call alone, whose value the world decides. -/
theorem one_callR {P : Program} {ops : Array Oper} {Q : Exit → Act → World → Prop} {md : Region.Mode} {S : World → Prop} {c fuel : Nat} {oc : Oper} {dc : Tmp} {listed : Array Bool} {a : Act} {w : World} {f : FuncId} {args : Array Value} {R : Value → World → Prop} (hc : ops[c]? = some oc) (edc : oc.dst = some dc) (r : Region.ready md ops listed = [c]) (wc : Region.wanted oc (yielded ops a.tmps) = true)
    (ec : (execOp a.eval oc).run P w = .ok (.enter f args) w) (hcall : Calls P f args w fun e w' => ∃ v, e = .returned v ∧ R v w') (hS : ∀ v W, R v W → S W)
    (rest : ∀ v W, R v W → wpAnyH P md ops Q S fuel (listed.setIfInBounds c true) (a.put (some dc) v) W) : wpAnyH P md ops Q S (fuel + 1) listed a w :=
  any_one r (op_call hc wc ec hcall (fun v w' h => ⟨hS v w' h, by rw [edc]; exact rest v w' h⟩))

set_option maxRecDepth 100000 in
set_option maxHeartbeats 8000000 in
theorem Matches_any (r0 : RgR) (x0 x1 : Int) (la : Option Addr) (lc : Nat) (os : List Oz) (o : Oz) (w : World) (hr : HasR w r0) (hrl : r0.bk.l.length ≤ maxLen) (hrm : ∀ s ∈ r0.bk.l, s.l.length ≤ maxLen) (h0 : U64 x0) (h1 : U64 x1) (hlm : os.length ≤ maxLen) (ho : Row LO w la os) (hoa : ∀ o ∈ os, U64 o.a) (hk : U64 o.a) :
    Calls Try.prog 3 #[encR r0, .int .u64 x0, .int .u64 x1, .slice la os.length lc, aggO o] w fun e w' => e = .returned (.bool true) ∧ Upd [] w w' := by
  have HHD := Lib.hid head_true
  have HMD := Lib.hid (fun W (hu : Upd [] w W) => Made_has x0 x1 la lc os W h0 h1 (ho.stay hu) hoa (by simp only [maxLen] at hlm; omega))
  have hmg := made_good h0 h1 os
  have HMG := Lib.hid hmg.1; have HML := Lib.hid hmg.2
  have HT := Lib.hid (Time_law x0 h0)
  have HSP := Lib.hid (Span_law x1 h1)
  have HTB : Hid (0 ≤ x0 % 1152921504606846977 ∧ x0 % 1152921504606846977 ≤ 1152921504606846976 ∧ 1 ≤ x1 % 144115188075855873 + 1 ∧ x1 % 144115188075855873 + 1 ≤ 144115188075855873) := by
    obtain ⟨q1, q2⟩ := h0
    obtain ⟨q3, q4⟩ := h1
    exact ⟨by omega, by omega, by omega, by omega⟩
  have hSMW := fun W (hu : Upd [] w W) => Small_has r0 W (hr.stay hu) (by simp only [maxLen] at hrl; omega) (fun s hs => by have := hrm s hs; simp only [maxLen] at this; omega)
  obtain ⟨f0, d0, u0, l0, a0, c0⟩ := r0
  obtain ⟨on, oa, oq⟩ := o
  have HR0 := Lib.hid hr
  unfold aggO
  unfold encR at hSMW ⊢
  simp only at hk hSMW ⊢
  have HK := Lib.hid hk
  have HSMW := Lib.hid hSMW
  generalize madeR x0 x1 os = g at *
  generalize os.length = L at *
  generalize x0 % 1152921504606846977 = tf at *
  generalize x1 % 144115188075855873 + 1 = tw at *
  clear h0 h1 hlm ho hoa hmg hr hrl hrm hk hSMW
  go_enter Try.func3, Try.ntmps3
  go_upto_region 1 with (fail)
  generalize hA : (Obj.cells #[.int .i64 f0, .int .i64 d0, .int .i64 u0, .slice a0 l0.length c0] 24 : Obj) = A
  generalize hC : (Obj.cells #[.bool on, .int .u64 oa, .int .i64 oq] 28 : Obj) = C
  obtain ⟨hu, q0, bo, hsz⟩ := two_boxes w A C
  generalize (w.alloc A).alloc C = W0 at *
  have HB0 : Hid (InBox w.heap.size ⟨f0, d0, u0, ⟨l0, a0, c0⟩⟩ W0) := ⟨by rw [q0, ← hA]; rfl, HR0.out.stay hu⟩
  generalize w.heap.size = P0 at *
  rw [← hC] at bo
  have HBO := Lib.hid bo; have HUW := Lib.hid hu
  clear hu hA hC q0 bo hsz
  go_upto_region 2 with (go_at_call 8; (with_reducible refine (HHD.out _).mono ?_); rintro e W1 ⟨rfl, hu0⟩)
  replace HB0 := Lib.hid (HB0.out.stay hu0)
  replace HBO := Lib.hid (hu0.at HBO.out (by simp))
  replace HUW := Lib.hid (HUW.out.thn hu0)
  clear hu0 HHD
  obtain ⟨b00, b01, b02, b03⟩ := cells4 (show W1.heap[P0]? = some (.cells #[.int .i64 f0, .int .i64 d0, .int .i64 u0, .slice a0 l0.length c0] 24 (0, 0)) from HB0.out.1)
  go_wp2_with fail
  (with_reducible refine (HSMW.out _ HUW.out).mono ?_)
  rintro e W2 ⟨sb, rfl, hsb, hu0⟩
  have HSB := Lib.hid hsb
  clear b00 b01 b02 b03
  replace HB0 := Lib.hid (HB0.out.stay hu0)
  replace HBO := Lib.hid (hu0.at HBO.out (by simp))
  replace HUW := Lib.hid (HUW.out.thn hu0)
  clear hu0 HSMW hsb
  cases sb with
  | false =>
    go_wp2_with fail
    go_ret
    exact ⟨rfl, HUW.out⟩
  | true =>
  have HS20 := Lib.hid (HSB.out (by first | rfl | trivial))
  go_upto_region 5 with (go_at_call 10; (with_reducible refine (HMD.out _ HUW.out).mono ?_); rintro e w1 ⟨⟨f1, d1, u1, l1, a1, c1⟩, rfl, hN1⟩; unfold encR)
  have HE1 : Hid (Std ⟨f1, d1, u1, ⟨l1, a1, c1⟩⟩ g) := ⟨hN1.eq, HMG.out, by have := HML.out; omega⟩
  have hal := (Upd.refl [] w1).alloc (.cells #[.int .i64 f1, .int .i64 d1, .int .i64 u1, .slice a1 l1.length c1] 24)
  have hIB : InBox w1.heap.size ⟨f1, d1, u1, ⟨l1, a1, c1⟩⟩ (w1.alloc (.cells #[.int .i64 f1, .int .i64 d1, .int .i64 u1, .slice a1 l1.length c1] 24)) := ⟨heap_alloc1 _ _, hN1.has.stay hal⟩
  have hu1 := hN1.upd.thn hal
  have HB1 := Lib.hid hIB
  generalize w1.alloc (.cells #[.int .i64 f1, .int .i64 d1, .int .i64 u1, .slice a1 l1.length c1] 24) = W3 at *
  generalize w1.heap.size = P1 at *
  replace HB0 := Lib.hid (HB0.out.stay hu1)
  replace HBO := Lib.hid (hu1.at HBO.out (by simp))
  replace HUW := Lib.hid (HUW.out.thn hu1)
  clear hal hIB hu1
  clear hN1 HMD
  have hCI := item_has ⟨f1, d1, u1, ⟨l1, a1, c1⟩⟩ ⟨on, oa, oq⟩ W3 HE1.out.g HK.out
  rw [HE1.out.eq] at hCI
  obtain ⟨⟨it, iq, is⟩, hit⟩ : ∃ it, it = itemR g ⟨on, oa, oq⟩ := ⟨_, rfl⟩
  rw [← hit] at hCI
  unfold encR aggO aggI at hCI
  simp only at hCI
  have HCI := Lib.hid hCI
  clear hCI hit
  obtain ⟨o0, o1, o2⟩ := cells3 HBO.out
  obtain ⟨b10, b11, b12, b13⟩ := cells4 (show W3.heap[P1]? = some (.cells #[.int .i64 f1, .int .i64 d1, .int .i64 u1, .slice a1 l1.length c1] 24 (0, 0)) from HB1.out.1)
  go_upto_region 6 with (go_at_call 11; (with_reducible refine HCI.out.mono ?_); rintro e wi ⟨rfl, hui⟩)
  clear o0 o1 o2
  clear b10 b11 b12 b13
  have hal := (Upd.refl [] wi).alloc (.cells #[.int .i64 it, .int .i64 iq, .int .i64 is] 33)
  have bi := heap_alloc1 wi (.cells #[.int .i64 it, .int .i64 iq, .int .i64 is] 33)
  have hui2 := hui.thn hal
  generalize wi.alloc (.cells #[.int .i64 it, .int .i64 iq, .int .i64 is] 33) = W4 at *
  generalize wi.heap.size = PI at *
  replace HB0 := Lib.hid (HB0.out.stay hui2)
  replace HB1 := Lib.hid (HB1.out.stay hui2)
  replace HBO := Lib.hid (hui2.at HBO.out (by simp))
  replace HUW := Lib.hid (HUW.out.thn hui2)
  have HBI := Lib.hid bi
  clear hal bi hui2 hui HCI
  have hP2 := Put_has ⟨f1, d1, u1, ⟨l1, a1, c1⟩⟩ ⟨it, iq, is⟩ W4 HB1.out.2 HE1.out.g HE1.out.l
  rw [HE1.out.eq] at hP2
  unfold encR aggI at hP2
  simp only at hP2
  have HP2 := Lib.hid hP2
  clear hP2
  obtain ⟨i0, i1, i2⟩ := cells3 HBI.out
  obtain ⟨b10, b11, b12, b13⟩ := cells4 (show W4.heap[P1]? = some (.cells #[.int .i64 f1, .int .i64 d1, .int .i64 u1, .slice a1 l1.length c1] 24 (0, 0)) from HB1.out.1)
  go_upto_region 7 with (go_at_call 12; (with_reducible refine HP2.out.mono ?_); rintro e w2 ⟨⟨f2, d2, u2, l2, a2, c2⟩, rfl, hN2⟩; unfold encR)
  clear b10 b11 b12 b13
  clear i0 i1 i2
  have HE2 : Hid (Std ⟨f2, d2, u2, ⟨l2, a2, c2⟩⟩ (putR g ⟨it, iq, is⟩).1) := ⟨hN2.eq, HMG.out.put _, by have h1 := put_len_le HMG.out ⟨it, iq, is⟩; have h2 := HML.out; omega⟩
  have hal := (Upd.refl [] w2).alloc (.cells #[.int .i64 f2, .int .i64 d2, .int .i64 u2, .slice a2 l2.length c2] 24)
  have hIB : InBox w2.heap.size ⟨f2, d2, u2, ⟨l2, a2, c2⟩⟩ (w2.alloc (.cells #[.int .i64 f2, .int .i64 d2, .int .i64 u2, .slice a2 l2.length c2] 24)) := ⟨heap_alloc1 _ _, hN2.has.stay hal⟩
  have hu2 := hN2.upd.thn hal
  have HB2 := Lib.hid hIB
  generalize w2.alloc (.cells #[.int .i64 f2, .int .i64 d2, .int .i64 u2, .slice a2 l2.length c2] 24) = W5 at *
  generalize w2.heap.size = P2 at *
  replace HB0 := Lib.hid (HB0.out.stay hu2)
  replace HB1 := Lib.hid (HB1.out.stay hu2)
  replace HBO := Lib.hid (hu2.at HBO.out (by simp))
  replace HBI := Lib.hid (hu2.at HBI.out (by simp))
  replace HUW := Lib.hid (HUW.out.thn hu2)
  clear hal hIB hu2
  clear hN2 HP2
  have hP3 := RPut_has ⟨f1, d1, u1, ⟨l1, a1, c1⟩⟩ ⟨it, iq, is⟩ W5 HB1.out.2 HE1.out.g HE1.out.l
  rw [HE1.out.eq] at hP3
  unfold encR aggI at hP3
  simp only at hP3
  have HP3 := Lib.hid hP3
  clear hP3
  obtain ⟨i0, i1, i2⟩ := cells3 HBI.out
  obtain ⟨b10, b11, b12, b13⟩ := cells4 (show W5.heap[P1]? = some (.cells #[.int .i64 f1, .int .i64 d1, .int .i64 u1, .slice a1 l1.length c1] 24 (0, 0)) from HB1.out.1)
  go_upto_region 8 with (go_at_call 13; (with_reducible refine HP3.out.mono ?_); rintro e w3 ⟨⟨f3, d3, u3, l3, a3, c3⟩, rfl, hN3⟩; unfold encR)
  clear b10 b11 b12 b13
  clear i0 i1 i2
  have HE3 : Hid (Std ⟨f3, d3, u3, ⟨l3, a3, c3⟩⟩ (putR g ⟨it, iq, is⟩).1) := ⟨hN3.eq, HMG.out.put _, by have h1 := put_len_le HMG.out ⟨it, iq, is⟩; have h2 := HML.out; omega⟩
  have hal := (Upd.refl [] w3).alloc (.cells #[.int .i64 f3, .int .i64 d3, .int .i64 u3, .slice a3 l3.length c3] 24)
  have hIB : InBox w3.heap.size ⟨f3, d3, u3, ⟨l3, a3, c3⟩⟩ (w3.alloc (.cells #[.int .i64 f3, .int .i64 d3, .int .i64 u3, .slice a3 l3.length c3] 24)) := ⟨heap_alloc1 _ _, hN3.has.stay hal⟩
  have hu3 := hN3.upd.thn hal
  have HB3 := Lib.hid hIB
  generalize w3.alloc (.cells #[.int .i64 f3, .int .i64 d3, .int .i64 u3, .slice a3 l3.length c3] 24) = W6 at *
  generalize w3.heap.size = P3 at *
  replace HB0 := Lib.hid (HB0.out.stay hu3)
  replace HB1 := Lib.hid (HB1.out.stay hu3)
  replace HB2 := Lib.hid (HB2.out.stay hu3)
  replace HBO := Lib.hid (hu3.at HBO.out (by simp))
  replace HBI := Lib.hid (hu3.at HBI.out (by simp))
  replace HUW := Lib.hid (HUW.out.thn hu3)
  clear hal hIB hu3
  clear hN3 HP3
  have hP4 := Next_has ⟨f1, d1, u1, ⟨l1, a1, c1⟩⟩ W6 HB1.out.2 HE1.out.g HE1.out.l
  rw [HE1.out.eq] at hP4
  unfold encR at hP4
  simp only at hP4
  have HP4 := Lib.hid hP4
  clear hP4
  obtain ⟨b10, b11, b12, b13⟩ := cells4 (show W6.heap[P1]? = some (.cells #[.int .i64 f1, .int .i64 d1, .int .i64 u1, .slice a1 l1.length c1] 24 (0, 0)) from HB1.out.1)
  go_upto_region 9 with (go_at_call 14; (with_reducible refine HP4.out.mono ?_); rintro e w4 ⟨⟨f4, d4, u4, l4, a4, c4⟩, ⟨sl4, sa4, sc4⟩, rfl, hN4, hG4⟩; unfold encR)
  clear b10 b11 b12 b13
  have HE4 : Hid (Std ⟨f4, d4, u4, ⟨l4, a4, c4⟩⟩ (nextR g).1) := ⟨hN4.eq, HMG.out.next, by have h1 := next_len g; have h2 := HML.out; omega⟩
  have HSL4 : Hid (sl4 = (nextR g).2.1) := hG4.eq
  have hal := (Upd.refl [] w4).alloc (.cells #[.int .i64 f4, .int .i64 d4, .int .i64 u4, .slice a4 l4.length c4] 24)
  have hIB : InBox w4.heap.size ⟨f4, d4, u4, ⟨l4, a4, c4⟩⟩ (w4.alloc (.cells #[.int .i64 f4, .int .i64 d4, .int .i64 u4, .slice a4 l4.length c4] 24)) := ⟨heap_alloc1 _ _, hN4.has.stay hal⟩
  have hu4 := hN4.upd.thn hal
  have HB4 := Lib.hid hIB
  have HS4 := Lib.hid (hG4.has.stay hal)
  generalize w4.alloc (.cells #[.int .i64 f4, .int .i64 d4, .int .i64 u4, .slice a4 l4.length c4] 24) = W7 at *
  generalize w4.heap.size = P4 at *
  replace HB0 := Lib.hid (HB0.out.stay hu4)
  replace HB1 := Lib.hid (HB1.out.stay hu4)
  replace HB2 := Lib.hid (HB2.out.stay hu4)
  replace HB3 := Lib.hid (HB3.out.stay hu4)
  replace HBO := Lib.hid (hu4.at HBO.out (by simp))
  replace HBI := Lib.hid (hu4.at HBI.out (by simp))
  replace HUW := Lib.hid (HUW.out.thn hu4)
  clear hal hIB hu4
  clear hN4 hG4 HP4
  have hP5 := RNext_has ⟨f1, d1, u1, ⟨l1, a1, c1⟩⟩ W7 HB1.out.2 HE1.out.g HE1.out.l
  rw [HE1.out.eq] at hP5
  unfold encR at hP5
  simp only at hP5
  have HP5 := Lib.hid hP5
  clear hP5
  obtain ⟨b10, b11, b12, b13⟩ := cells4 (show W7.heap[P1]? = some (.cells #[.int .i64 f1, .int .i64 d1, .int .i64 u1, .slice a1 l1.length c1] 24 (0, 0)) from HB1.out.1)
  go_upto_region 10 with (go_at_call 15; (with_reducible refine HP5.out.mono ?_); rintro e w5 ⟨⟨f5, d5, u5, l5, a5, c5⟩, ⟨sl5, sa5, sc5⟩, rfl, hN5, hG5⟩; unfold encR)
  clear b10 b11 b12 b13
  have HE5 : Hid (Std ⟨f5, d5, u5, ⟨l5, a5, c5⟩⟩ (nextR g).1) := ⟨hN5.eq, HMG.out.next, by have h1 := next_len g; have h2 := HML.out; omega⟩
  have HSL5 : Hid (sl5 = (nextR g).2.1) := hG5.eq
  have hal := (Upd.refl [] w5).alloc (.cells #[.int .i64 f5, .int .i64 d5, .int .i64 u5, .slice a5 l5.length c5] 24)
  have hIB : InBox w5.heap.size ⟨f5, d5, u5, ⟨l5, a5, c5⟩⟩ (w5.alloc (.cells #[.int .i64 f5, .int .i64 d5, .int .i64 u5, .slice a5 l5.length c5] 24)) := ⟨heap_alloc1 _ _, hN5.has.stay hal⟩
  have hu5 := hN5.upd.thn hal
  have HB5 := Lib.hid hIB
  have HS5 := Lib.hid (hG5.has.stay hal)
  generalize w5.alloc (.cells #[.int .i64 f5, .int .i64 d5, .int .i64 u5, .slice a5 l5.length c5] 24) = W8 at *
  generalize w5.heap.size = P5 at *
  replace HB0 := Lib.hid (HB0.out.stay hu5)
  replace HB1 := Lib.hid (HB1.out.stay hu5)
  replace HB2 := Lib.hid (HB2.out.stay hu5)
  replace HB3 := Lib.hid (HB3.out.stay hu5)
  replace HB4 := Lib.hid (HB4.out.stay hu5)
  replace HS4 := Lib.hid (HS4.out.stay hu5)
  replace HBO := Lib.hid (hu5.at HBO.out (by simp))
  replace HBI := Lib.hid (hu5.at HBI.out (by simp))
  replace HUW := Lib.hid (HUW.out.thn hu5)
  clear hal hIB hu5
  clear hN5 hG5 HP5
  have HNEW := Lib.hid (New_has tf tw)
  have HNG := Lib.hid (newR_good HTB.out.1 HTB.out.2.1 HTB.out.2.2.1 HTB.out.2.2.2)
  have HNL : Hid (lenL (newR tf tw).bs ≤ 0) := (reach_new HTB.out.1 HTB.out.2.1 HTB.out.2.2.1 HTB.out.2.2.2).len
  go_upto_region 11 with (first | (go_at_call 17; (with_reducible refine (HT.out _).mono ?_); rintro e w' ⟨rfl, rfl⟩) | (go_at_call 18; (with_reducible refine (HSP.out _).mono ?_); rintro e w' ⟨rfl, rfl⟩) | (go_at_call 16; (with_reducible refine (HNEW.out _).mono ?_); rintro e w6 ⟨⟨f6, d6, u6, l6, a6, c6⟩, rfl, hN6⟩; unfold encR))
  have HE6 : Hid (Std ⟨f6, d6, u6, ⟨l6, a6, c6⟩⟩ (newR tf tw)) := ⟨hN6.eq, HNG.out, by have := HNL.out; omega⟩
  have hal := (Upd.refl [] w6).alloc (.cells #[.int .i64 f6, .int .i64 d6, .int .i64 u6, .slice a6 l6.length c6] 24)
  have hIB : InBox w6.heap.size ⟨f6, d6, u6, ⟨l6, a6, c6⟩⟩ (w6.alloc (.cells #[.int .i64 f6, .int .i64 d6, .int .i64 u6, .slice a6 l6.length c6] 24)) := ⟨heap_alloc1 _ _, hN6.has.stay hal⟩
  have hu6 := hN6.upd.thn hal
  have HB6 := Lib.hid hIB
  generalize w6.alloc (.cells #[.int .i64 f6, .int .i64 d6, .int .i64 u6, .slice a6 l6.length c6] 24) = W9 at *
  generalize w6.heap.size = P6 at *
  replace HB0 := Lib.hid (HB0.out.stay hu6)
  replace HB1 := Lib.hid (HB1.out.stay hu6)
  replace HB2 := Lib.hid (HB2.out.stay hu6)
  replace HB3 := Lib.hid (HB3.out.stay hu6)
  replace HB4 := Lib.hid (HB4.out.stay hu6)
  replace HB5 := Lib.hid (HB5.out.stay hu6)
  replace HS4 := Lib.hid (HS4.out.stay hu6)
  replace HS5 := Lib.hid (HS5.out.stay hu6)
  replace HBO := Lib.hid (hu6.at HBO.out (by simp))
  replace HBI := Lib.hid (hu6.at HBI.out (by simp))
  replace HUW := Lib.hid (HUW.out.thn hu6)
  clear hal hIB hu6
  clear hN6 HNEW
  have HV0 := Lib.hid (fun V (hv : Upd [] W9 V) => Valid_has ⟨f0, d0, u0, ⟨l0, a0, c0⟩⟩ V (HB0.out.2.stay hv) (by have := HS20.out.1; simp only; omega) (fun s hs => by have := HS20.out.2 s hs; omega))
  have HVB := HV0
  unfold encR at HV0
  simp only at HV0
  have HQ0 := Lib.hid (fun V (hv : Upd [] W9 V) => RValid_has ⟨f0, d0, u0, ⟨l0, a0, c0⟩⟩ V (HB0.out.2.stay hv) (by have := HS20.out.1; simp only; omega) (fun s hs => by have := HS20.out.2 s hs; omega))
  clear HVB
  unfold encR at HQ0
  simp only at HQ0
  generalize validR (⟨f0, d0, u0, ⟨l0, a0, c0⟩⟩ : RgR).rg = vb at *
  have HTI := Lib.hid (fun V => (HT.out V).mono (R' := fun e w' => e = .returned (.int .i64 tf) ∧ Upd [] V w') (fun _ _ h => ⟨h.1, h.2 ▸ Upd.refl _ _⟩))
  have HSI := Lib.hid (fun V => (HSP.out V).mono (R' := fun e w' => e = .returned (.int .i64 tw) ∧ Upd [] V w') (fun _ _ h => ⟨h.1, h.2 ▸ Upd.refl _ _⟩))
  have HRN := Lib.hid (fun V => (RNew_has tf tw V).mono (R' := fun e w' => ∃ v, e = .returned v ∧ ∃ r', v = encR r' ∧ Born V (newR tf tw) w' r') (fun e w' ⟨r', h1, h2⟩ => ⟨_, h1, r', rfl, h2⟩))
  have HS6N := Lib.hid (fun (r' : RgR) V (hv : Upd [] W9 V) (hr : HasR V r') (he : r'.rg = newR tf tw) => Same_has ⟨f6, d6, u6, ⟨l6, a6, c6⟩⟩ r' V (HB6.out.2.stay hv) hr HE6.out.n HE6.out.m)
  unfold encR at HS6N
  simp only at HS6N
  have HS6E : Hid (∀ r' : RgR, r'.rg = newR tf tw → decide ((⟨f6, d6, u6, ⟨l6, a6, c6⟩⟩ : RgR).rg = r'.rg) = true) := fun r' he => same_std HE6.out.eq he rfl
  have HS23 := Lib.hid (fun V (hv : Upd [] W9 V) => Same_has ⟨f2, d2, u2, ⟨l2, a2, c2⟩⟩ ⟨f3, d3, u3, ⟨l3, a3, c3⟩⟩ V (HB2.out.2.stay hv) (HB3.out.2.stay hv) HE2.out.n HE2.out.m)
  rw [same_std HE2.out.eq HE3.out.eq rfl] at HS23
  unfold encR at HS23
  simp only at HS23
  have HS45 := Lib.hid (fun V (hv : Upd [] W9 V) => Same_has ⟨f4, d4, u4, ⟨l4, a4, c4⟩⟩ ⟨f5, d5, u5, ⟨l5, a5, c5⟩⟩ V (HB4.out.2.stay hv) (HB5.out.2.stay hv) HE4.out.n HE4.out.m)
  rw [same_std HE4.out.eq HE5.out.eq rfl] at HS45
  unfold encR at HS45
  simp only at HS45
  have hl4 : sl4.length ≤ 1000000 := by rw [HSL4.out]; have h1 := next_len g; have h2 := HML.out; omega
  have hse : decide (sl4 = sl5) = true := by rw [HSL4.out, HSL5.out]; simp
  have HSIT := Lib.hid (fun V (hv : Upd [] W9 V) => SameItems_has ⟨sl4, sa4, sc4⟩ ⟨sl5, sa5, sc5⟩ V (HS4.out.stay hv).row (HS5.out.stay hv).row hl4)
  simp only [hse] at HSIT
  clear hl4 hse
  have HLN := Lib.hid (fun V (hv : Upd [] W9 V) => Len_has ⟨f1, d1, u1, ⟨l1, a1, c1⟩⟩ V (HB1.out.2.stay hv) HE1.out.n (by have := HE1.out.l; omega) HE1.out.m)
  rw [HE1.out.eq] at HLN
  unfold encR at HLN
  simp only at HLN
  have HRL := Lib.hid (fun V (hv : Upd [] W9 V) => RLen_has ⟨f1, d1, u1, ⟨l1, a1, c1⟩⟩ V (HB1.out.2.stay hv) HE1.out.n (by have := HE1.out.l; omega))
  rw [HE1.out.eq] at HRL
  unfold encR at HRL
  simp only at HRL
  have HCU := Lib.hid (fun V (hv : Upd [] W9 V) => Current_has ⟨f1, d1, u1, ⟨l1, a1, c1⟩⟩ V HE1.out.g)
  rw [HE1.out.eq] at HCU
  unfold encR at HCU
  simp only at HCU
  have HRC := Lib.hid (fun V (hv : Upd [] W9 V) => RCurrent_has ⟨f1, d1, u1, ⟨l1, a1, c1⟩⟩ V HE1.out.g)
  rw [HE1.out.eq] at HRC
  unfold encR at HRC
  simp only at HRC
  have HEN := Lib.hid (fun V (hv : Upd [] W9 V) => End_has ⟨f1, d1, u1, ⟨l1, a1, c1⟩⟩ V HE1.out.g)
  rw [HE1.out.eq] at HEN
  unfold encR at HEN
  simp only at HEN
  have HRE := Lib.hid (fun V (hv : Upd [] W9 V) => REnd_has ⟨f1, d1, u1, ⟨l1, a1, c1⟩⟩ V HE1.out.g)
  rw [HE1.out.eq] at HRE
  unfold encR at HRE
  simp only at HRE
  generalize lenL g.bs = gn at *
  generalize curT g = gc at *
  generalize endT g = ge at *
  generalize (putR g ⟨it, iq, is⟩).2 = pb at *
  generalize (nextR g).2.2.1 = ns at *
  generalize (nextR g).2.2.2 = nb at *
  generalize sl4.length = m4 at *
  generalize sl5.length = m5 at *
  have HK : Hid (∀ wz, Upd [] W9 wz → wz.cell? ⟨P0, 0, none⟩ = some (.int .i64 f0) ∧ wz.cell? ⟨P0, 1, none⟩ = some (.int .i64 d0) ∧ wz.cell? ⟨P0, 2, none⟩ = some (.int .i64 u0) ∧ wz.cell? ⟨P0, 3, none⟩ = some (.slice a0 l0.length c0) ∧ wz.cell? ⟨P1, 0, none⟩ = some (.int .i64 f1) ∧ wz.cell? ⟨P1, 1, none⟩ = some (.int .i64 d1) ∧ wz.cell? ⟨P1, 2, none⟩ = some (.int .i64 u1) ∧ wz.cell? ⟨P1, 3, none⟩ = some (.slice a1 l1.length c1) ∧ wz.cell? ⟨P2, 0, none⟩ = some (.int .i64 f2) ∧ wz.cell? ⟨P2, 1, none⟩ = some (.int .i64 d2) ∧ wz.cell? ⟨P2, 2, none⟩ = some (.int .i64 u2) ∧ wz.cell? ⟨P2, 3, none⟩ = some (.slice a2 l2.length c2) ∧ wz.cell? ⟨P3, 0, none⟩ = some (.int .i64 f3) ∧ wz.cell? ⟨P3, 1, none⟩ = some (.int .i64 d3) ∧ wz.cell? ⟨P3, 2, none⟩ = some (.int .i64 u3) ∧ wz.cell? ⟨P3, 3, none⟩ = some (.slice a3 l3.length c3) ∧ wz.cell? ⟨P4, 0, none⟩ = some (.int .i64 f4) ∧ wz.cell? ⟨P4, 1, none⟩ = some (.int .i64 d4) ∧ wz.cell? ⟨P4, 2, none⟩ = some (.int .i64 u4) ∧ wz.cell? ⟨P4, 3, none⟩ = some (.slice a4 l4.length c4) ∧ wz.cell? ⟨P5, 0, none⟩ = some (.int .i64 f5) ∧ wz.cell? ⟨P5, 1, none⟩ = some (.int .i64 d5) ∧ wz.cell? ⟨P5, 2, none⟩ = some (.int .i64 u5) ∧ wz.cell? ⟨P5, 3, none⟩ = some (.slice a5 l5.length c5) ∧ wz.cell? ⟨P6, 0, none⟩ = some (.int .i64 f6) ∧ wz.cell? ⟨P6, 1, none⟩ = some (.int .i64 d6) ∧ wz.cell? ⟨P6, 2, none⟩ = some (.int .i64 u6) ∧ wz.cell? ⟨P6, 3, none⟩ = some (.slice a6 l6.length c6)) := fun V hv => by
    obtain ⟨b00, b01, b02, b03⟩ := cells4 (show V.heap[P0]? = some (.cells #[.int .i64 f0, .int .i64 d0, .int .i64 u0, .slice a0 l0.length c0] 24 (0, 0)) from (HB0.out.stay hv).1)
    obtain ⟨b10, b11, b12, b13⟩ := cells4 (show V.heap[P1]? = some (.cells #[.int .i64 f1, .int .i64 d1, .int .i64 u1, .slice a1 l1.length c1] 24 (0, 0)) from (HB1.out.stay hv).1)
    obtain ⟨b20, b21, b22, b23⟩ := cells4 (show V.heap[P2]? = some (.cells #[.int .i64 f2, .int .i64 d2, .int .i64 u2, .slice a2 l2.length c2] 24 (0, 0)) from (HB2.out.stay hv).1)
    obtain ⟨b30, b31, b32, b33⟩ := cells4 (show V.heap[P3]? = some (.cells #[.int .i64 f3, .int .i64 d3, .int .i64 u3, .slice a3 l3.length c3] 24 (0, 0)) from (HB3.out.stay hv).1)
    obtain ⟨b40, b41, b42, b43⟩ := cells4 (show V.heap[P4]? = some (.cells #[.int .i64 f4, .int .i64 d4, .int .i64 u4, .slice a4 l4.length c4] 24 (0, 0)) from (HB4.out.stay hv).1)
    obtain ⟨b50, b51, b52, b53⟩ := cells4 (show V.heap[P5]? = some (.cells #[.int .i64 f5, .int .i64 d5, .int .i64 u5, .slice a5 l5.length c5] 24 (0, 0)) from (HB5.out.stay hv).1)
    obtain ⟨b60, b61, b62, b63⟩ := cells4 (show V.heap[P6]? = some (.cells #[.int .i64 f6, .int .i64 d6, .int .i64 u6, .slice a6 l6.length c6] 24 (0, 0)) from (HB6.out.stay hv).1)
    exact ⟨b00, b01, b02, b03, b10, b11, b12, b13, b20, b21, b22, b23, b30, b31, b32, b33, b40, b41, b42, b43, b50, b51, b52, b53, b60, b61, b62, b63⟩
  generalize hn0 : l0.length = n0 at *
  generalize hn1 : l1.length = n1 at *
  generalize hn2 : l2.length = n2 at *
  generalize hn3 : l3.length = n3 at *
  generalize hn4 : l4.length = n4 at *
  generalize hn5 : l5.length = n5 at *
  generalize hn6 : l6.length = n6 at *
  clear hn0 hn1 hn2 hn3 hn4 hn5 hn6
  clear HT HSP HE1 HE2 HE3 HE4 HE5 HSL4 HSL5 HS20 HMG HML HNG HNL HTB HS4 HS5
  refine wp_region_noPanic ?_
  refine wp_region_held_drew (S := fun wz => wz.cell? ⟨P0, 0, none⟩ = some (.int .i64 f0) ∧ wz.cell? ⟨P0, 1, none⟩ = some (.int .i64 d0) ∧ wz.cell? ⟨P0, 2, none⟩ = some (.int .i64 u0) ∧ wz.cell? ⟨P0, 3, none⟩ = some (.slice a0 n0 c0) ∧ wz.cell? ⟨P1, 0, none⟩ = some (.int .i64 f1) ∧ wz.cell? ⟨P1, 1, none⟩ = some (.int .i64 d1) ∧ wz.cell? ⟨P1, 2, none⟩ = some (.int .i64 u1) ∧ wz.cell? ⟨P1, 3, none⟩ = some (.slice a1 n1 c1) ∧ wz.cell? ⟨P2, 0, none⟩ = some (.int .i64 f2) ∧ wz.cell? ⟨P2, 1, none⟩ = some (.int .i64 d2) ∧ wz.cell? ⟨P2, 2, none⟩ = some (.int .i64 u2) ∧ wz.cell? ⟨P2, 3, none⟩ = some (.slice a2 n2 c2) ∧ wz.cell? ⟨P3, 0, none⟩ = some (.int .i64 f3) ∧ wz.cell? ⟨P3, 1, none⟩ = some (.int .i64 d3) ∧ wz.cell? ⟨P3, 2, none⟩ = some (.int .i64 u3) ∧ wz.cell? ⟨P3, 3, none⟩ = some (.slice a3 n3 c3) ∧ wz.cell? ⟨P4, 0, none⟩ = some (.int .i64 f4) ∧ wz.cell? ⟨P4, 1, none⟩ = some (.int .i64 d4) ∧ wz.cell? ⟨P4, 2, none⟩ = some (.int .i64 u4) ∧ wz.cell? ⟨P4, 3, none⟩ = some (.slice a4 n4 c4) ∧ wz.cell? ⟨P5, 0, none⟩ = some (.int .i64 f5) ∧ wz.cell? ⟨P5, 1, none⟩ = some (.int .i64 d5) ∧ wz.cell? ⟨P5, 2, none⟩ = some (.int .i64 u5) ∧ wz.cell? ⟨P5, 3, none⟩ = some (.slice a5 n5 c5) ∧ wz.cell? ⟨P6, 0, none⟩ = some (.int .i64 f6) ∧ wz.cell? ⟨P6, 1, none⟩ = some (.int .i64 d6) ∧ wz.cell? ⟨P6, 2, none⟩ = some (.int .i64 u6) ∧ wz.cell? ⟨P6, 3, none⟩ = some (.slice a6 n6 c6)) mixed (HK.out W9.drew (Upd.refl [] W9).drew) (fun hS => ?_)
  generalize hwx : W9.drew = V0 at hS ⊢
  have hux : Upd [] W9 V0 := by rw [← hwx]; exact (Upd.refl [] W9).drew
  have HUX := Lib.hid hux
  clear hwx hux
  show wpAnyH _ _ _ _ _ 69 (Array.replicate 69 false) _ _
  refine take_one (i := 0) (d := 70) (v := ?_) rfl rfl (by kernel_rfl) (by kernel_rfl) (by kernel_rfl) (fun _ _ _ _ _ h => h) (by rfl) ?_ hS ?_
  rotate_left
  · intro wz hz; (try dsimp only at hz); go_simp; (try with_reducible rfl)
  simp only [Act.put, List.setIfInBounds_toArray, List.set_cons_zero, List.set_cons_succ]
  refine take_one (i := 1) (d := 71) (v := ?_) rfl rfl (by kernel_rfl) (by kernel_rfl) (by kernel_rfl) (fun _ _ _ _ _ h => h) (by rfl) ?_ hS ?_
  rotate_left
  · intro wz hz; (try dsimp only at hz); go_simp; (try with_reducible rfl)
  simp only [Act.put, List.setIfInBounds_toArray, List.set_cons_zero, List.set_cons_succ]
  refine take_one (i := 2) (d := 72) (v := ?_) rfl rfl (by kernel_rfl) (by kernel_rfl) (by kernel_rfl) (fun _ _ _ _ _ h => h) (by rfl) ?_ hS ?_
  rotate_left
  · intro wz hz; (try dsimp only at hz); go_simp; (try with_reducible rfl)
  simp only [Act.put, List.setIfInBounds_toArray, List.set_cons_zero, List.set_cons_succ]
  refine take_one (i := 4) (d := 74) (v := ?_) rfl rfl (by kernel_rfl) (by kernel_rfl) (by kernel_rfl) (fun _ _ _ _ _ h => h) (by rfl) ?_ hS ?_
  rotate_left
  · intro wz hz; (try dsimp only at hz); go_simp; (try with_reducible rfl)
  simp only [Act.put, List.setIfInBounds_toArray, List.set_cons_zero, List.set_cons_succ]
  refine one_call (c := 3) (dc := 73) (f := 19) (args := #[.agg #[.int .i64 f0, .int .i64 d0, .int .i64 u0, .slice a0 n0 c0]]) (x := .bool vb) rfl rfl (by kernel_rfl) (by rfl) ?ec (HV0.out _ HUX.out) (fun V hu => HK.out V (HUX.out.thn hu)) (fun V1 hu => ?_)
  case ec => go_simp
  have hS := HK.out V1 (HUX.out.thn hu)
  replace HUX := Lib.hid (HUX.out.thn hu)
  clear hu
  simp only [Act.put, List.setIfInBounds_toArray, List.set_cons_zero, List.set_cons_succ]
  refine one_call (c := 5) (dc := 75) (f := 20) (args := #[.agg #[.int .i64 f0, .int .i64 d0, .int .i64 u0, .slice a0 n0 c0]]) (x := .bool vb) rfl rfl (by kernel_rfl) (by rfl) ?ec (HQ0.out _ HUX.out) (fun V hu => HK.out V (HUX.out.thn hu)) (fun V2 hu => ?_)
  case ec => go_simp
  have hS := HK.out V2 (HUX.out.thn hu)
  replace HUX := Lib.hid (HUX.out.thn hu)
  clear hu
  simp only [Act.put, List.setIfInBounds_toArray, List.set_cons_zero, List.set_cons_succ]
  refine take_one (i := 6) (d := 76) (v := ?_) rfl rfl (by kernel_rfl) (by kernel_rfl) (by kernel_rfl) (fun _ _ _ _ _ h => h) (by rfl) ?_ hS ?_
  rotate_left
  · intro wz hz; (try dsimp only at hz); go_simp; (try with_reducible rfl)
  simp only [Act.put, List.setIfInBounds_toArray, List.set_cons_zero, List.set_cons_succ]
  refine take_one (i := 7) (d := 77) (v := ?_) rfl rfl (by kernel_rfl) (by kernel_rfl) (by kernel_rfl) (fun _ _ _ _ _ h => h) (by rfl) ?_ hS ?_
  rotate_left
  · intro wz hz; (try dsimp only at hz); go_simp; (try with_reducible rfl)
  simp only [Act.put, List.setIfInBounds_toArray, List.set_cons_zero, List.set_cons_succ]
  refine take_one (i := 8) (d := 78) (v := ?_) rfl rfl (by kernel_rfl) (by kernel_rfl) (by kernel_rfl) (fun _ _ _ _ _ h => h) (by rfl) ?_ hS ?_
  rotate_left
  · intro wz hz; (try dsimp only at hz); go_simp; (try with_reducible rfl)
  simp only [Act.put, List.setIfInBounds_toArray, List.set_cons_zero, List.set_cons_succ]
  refine take_one (i := 9) (d := 79) (v := ?_) rfl rfl (by kernel_rfl) (by kernel_rfl) (by kernel_rfl) (fun _ _ _ _ _ h => h) (by rfl) ?_ hS ?_
  rotate_left
  · intro wz hz; (try dsimp only at hz); go_simp; (try with_reducible rfl)
  simp only [Act.put, List.setIfInBounds_toArray, List.set_cons_zero, List.set_cons_succ]
  refine take_one (i := 10) (d := 80) (v := ?_) rfl rfl (by kernel_rfl) (by kernel_rfl) (by kernel_rfl) (fun _ _ _ _ _ h => h) (by rfl) ?_ hS ?_
  rotate_left
  · intro wz hz; (try dsimp only at hz); go_simp; (try with_reducible rfl)
  simp only [Act.put, List.setIfInBounds_toArray, List.set_cons_zero, List.set_cons_succ]
  refine take_one (i := 12) (d := 82) (v := ?_) rfl rfl (by kernel_rfl) (by kernel_rfl) (by kernel_rfl) (fun _ _ _ _ _ h => h) (by rfl) ?_ hS ?_
  rotate_left
  · intro wz hz; (try dsimp only at hz); go_simp; (try with_reducible rfl)
  simp only [Act.put, List.setIfInBounds_toArray, List.set_cons_zero, List.set_cons_succ]
  refine one_call (c := 11) (dc := 81) (f := 17) (args := #[.int .u64 x0]) (x := .int .i64 tf) rfl rfl (by kernel_rfl) (by rfl) ?ec (HTI.out _) (fun V hu => HK.out V (HUX.out.thn hu)) (fun V3 hu => ?_)
  case ec => go_simp
  have hS := HK.out V3 (HUX.out.thn hu)
  replace HUX := Lib.hid (HUX.out.thn hu)
  clear hu
  simp only [Act.put, List.setIfInBounds_toArray, List.set_cons_zero, List.set_cons_succ]
  refine one_call (c := 13) (dc := 83) (f := 18) (args := #[.int .u64 x1]) (x := .int .i64 tw) rfl rfl (by kernel_rfl) (by rfl) ?ec (HSI.out _) (fun V hu => HK.out V (HUX.out.thn hu)) (fun V4 hu => ?_)
  case ec => go_simp
  have hS := HK.out V4 (HUX.out.thn hu)
  replace HUX := Lib.hid (HUX.out.thn hu)
  clear hu
  simp only [Act.put, List.setIfInBounds_toArray, List.set_cons_zero, List.set_cons_succ]
  refine one_callR (c := 14) (dc := 84) (f := 22) (args := #[.int .i64 tf, .int .i64 tw]) (R := fun v w' => ∃ r', v = encR r' ∧ Born V4 (newR tf tw) w' r') rfl rfl (by kernel_rfl) (by rfl) ?ec (HRN.out _) (fun v V h => by obtain ⟨r', _, hb⟩ := h; exact HK.out V (HUX.out.thn hb.upd)) (fun v V5 h => ?_)
  case ec => go_simp
  obtain ⟨⟨f7, d7, u7, l7, a7, c7⟩, rfl, hb⟩ := h
  unfold encR
  have hS := HK.out V5 (HUX.out.thn hb.upd)
  have HUX2 := Lib.hid (HUX.out.thn hb.upd)
  have hS6 := HS6N.out _ V5 HUX2.out hb.has hb.eq
  rw [HS6E.out _ hb.eq] at hS6
  simp only at hS6
  have HS6 := Lib.hid hS6
  clear hS6 hb
  replace HUX := HUX2
  clear HUX2
  simp only [Act.put, List.setIfInBounds_toArray, List.set_cons_zero, List.set_cons_succ]
  refine one_call (c := 15) (dc := 85) (f := 21) (args := #[.agg #[.int .i64 f6, .int .i64 d6, .int .i64 u6, .slice a6 n6 c6], .agg #[.int .i64 f7, .int .i64 d7, .int .i64 u7, .slice a7 l7.length c7]]) (x := .bool true) rfl rfl (by kernel_rfl) (by rfl) ?ec (HS6.out) (fun V hu => HK.out V (HUX.out.thn hu)) (fun V6 hu => ?_)
  case ec => go_simp
  have hS := HK.out V6 (HUX.out.thn hu)
  replace HUX := Lib.hid (HUX.out.thn hu)
  clear hu
  simp only [Act.put, List.setIfInBounds_toArray, List.set_cons_zero, List.set_cons_succ]
  refine take_one (i := 16) (d := 86) (v := ?_) rfl rfl (by kernel_rfl) (by kernel_rfl) (by kernel_rfl) (fun _ _ _ _ _ h => h) (by rfl) ?_ hS ?_
  rotate_left
  · intro wz hz; (try dsimp only at hz); go_simp; (try with_reducible rfl)
  simp only [Act.put, List.setIfInBounds_toArray, List.set_cons_zero, List.set_cons_succ]
  refine take_one (i := 17) (d := 87) (v := ?_) rfl rfl (by kernel_rfl) (by kernel_rfl) (by kernel_rfl) (fun _ _ _ _ _ h => h) (by rfl) ?_ hS ?_
  rotate_left
  · intro wz hz; (try dsimp only at hz); go_simp; (try with_reducible rfl)
  simp only [Act.put, List.setIfInBounds_toArray, List.set_cons_zero, List.set_cons_succ]
  refine take_one (i := 18) (d := 88) (v := ?_) rfl rfl (by kernel_rfl) (by kernel_rfl) (by kernel_rfl) (fun _ _ _ _ _ h => h) (by rfl) ?_ hS ?_
  rotate_left
  · intro wz hz; (try dsimp only at hz); go_simp; (try with_reducible rfl)
  simp only [Act.put, List.setIfInBounds_toArray, List.set_cons_zero, List.set_cons_succ]
  refine take_one (i := 19) (d := 89) (v := ?_) rfl rfl (by kernel_rfl) (by kernel_rfl) (by kernel_rfl) (fun _ _ _ _ _ h => h) (by rfl) ?_ hS ?_
  rotate_left
  · intro wz hz; (try dsimp only at hz); go_simp; (try with_reducible rfl)
  simp only [Act.put, List.setIfInBounds_toArray, List.set_cons_zero, List.set_cons_succ]
  refine one_call (c := 20) (dc := 90) (f := 21) (args := #[.agg #[.int .i64 f2, .int .i64 d2, .int .i64 u2, .slice a2 n2 c2], .agg #[.int .i64 f3, .int .i64 d3, .int .i64 u3, .slice a3 n3 c3]]) (x := .bool true) rfl rfl (by kernel_rfl) (by rfl) ?ec (HS23.out _ HUX.out) (fun V hu => HK.out V (HUX.out.thn hu)) (fun V7 hu => ?_)
  case ec => go_simp
  have hS := HK.out V7 (HUX.out.thn hu)
  replace HUX := Lib.hid (HUX.out.thn hu)
  clear hu
  simp only [Act.put, List.setIfInBounds_toArray, List.set_cons_zero, List.set_cons_succ]
  refine take_one (i := 21) (d := 91) (v := ?_) rfl rfl (by kernel_rfl) (by kernel_rfl) (by kernel_rfl) (fun _ _ _ _ _ h => h) (by rfl) ?_ hS ?_
  rotate_left
  · intro wz hz; (try dsimp only at hz); go_simp; (try with_reducible rfl)
  simp only [Act.put, List.setIfInBounds_toArray, List.set_cons_zero, List.set_cons_succ]
  refine take_one (i := 22) (d := 92) (v := ?_) rfl rfl (by kernel_rfl) (by kernel_rfl) (by kernel_rfl) (fun _ _ _ _ _ h => h) (by rfl) ?_ hS ?_
  rotate_left
  · intro wz hz; (try dsimp only at hz); go_simp; (try with_reducible rfl)
  simp only [Act.put, List.setIfInBounds_toArray, List.set_cons_zero, List.set_cons_succ]
  refine take_one (i := 23) (d := 93) (v := ?_) rfl rfl (by kernel_rfl) (by kernel_rfl) (by kernel_rfl) (fun _ _ _ _ _ h => h) (by rfl) ?_ hS ?_
  rotate_left
  · intro wz hz; (try dsimp only at hz); go_simp; (try with_reducible rfl)
  simp only [Act.put, List.setIfInBounds_toArray, List.set_cons_zero, List.set_cons_succ]
  refine take_one (i := 24) (d := 94) (v := ?_) rfl rfl (by kernel_rfl) (by kernel_rfl) (by kernel_rfl) (fun _ _ _ _ _ h => h) (by rfl) ?_ hS ?_
  rotate_left
  · intro wz hz; (try dsimp only at hz); go_simp; (try with_reducible rfl)
  simp only [Act.put, List.setIfInBounds_toArray, List.set_cons_zero, List.set_cons_succ]
  refine take_one (i := 25) (d := 95) (v := ?_) rfl rfl (by kernel_rfl) (by kernel_rfl) (by kernel_rfl) (fun _ _ _ _ _ h => h) (by rfl) ?_ hS ?_
  rotate_left
  · intro wz hz; (try dsimp only at hz); go_simp; (try with_reducible rfl)
  simp only [Act.put, List.setIfInBounds_toArray, List.set_cons_zero, List.set_cons_succ]
  refine take_one (i := 26) (d := 96) (v := ?_) rfl rfl (by kernel_rfl) (by kernel_rfl) (by kernel_rfl) (fun _ _ _ _ _ h => h) (by rfl) ?_ hS ?_
  rotate_left
  · intro wz hz; (try dsimp only at hz); go_simp; (try with_reducible rfl)
  simp only [Act.put, List.setIfInBounds_toArray, List.set_cons_zero, List.set_cons_succ]
  refine take_one (i := 27) (d := 97) (v := ?_) rfl rfl (by kernel_rfl) (by kernel_rfl) (by kernel_rfl) (fun _ _ _ _ _ h => h) (by rfl) ?_ hS ?_
  rotate_left
  · intro wz hz; (try dsimp only at hz); go_simp; (try with_reducible rfl)
  simp only [Act.put, List.setIfInBounds_toArray, List.set_cons_zero, List.set_cons_succ]
  refine take_one (i := 28) (d := 98) (v := ?_) rfl rfl (by kernel_rfl) (by kernel_rfl) (by kernel_rfl) (fun _ _ _ _ _ h => h) (by rfl) ?_ hS ?_
  rotate_left
  · intro wz hz; (try dsimp only at hz); go_simp; (try with_reducible rfl)
  simp only [Act.put, List.setIfInBounds_toArray, List.set_cons_zero, List.set_cons_succ]
  refine take_one (i := 29) (d := 99) (v := ?_) rfl rfl (by kernel_rfl) (by kernel_rfl) (by kernel_rfl) (fun _ _ _ _ _ h => h) (by rfl) ?_ hS ?_
  rotate_left
  · intro wz hz; (try dsimp only at hz); go_simp; (try with_reducible rfl)
  simp only [Act.put, List.setIfInBounds_toArray, List.set_cons_zero, List.set_cons_succ]
  refine one_call (c := 30) (dc := 100) (f := 21) (args := #[.agg #[.int .i64 f4, .int .i64 d4, .int .i64 u4, .slice a4 n4 c4], .agg #[.int .i64 f5, .int .i64 d5, .int .i64 u5, .slice a5 n5 c5]]) (x := .bool true) rfl rfl (by kernel_rfl) (by rfl) ?ec (HS45.out _ HUX.out) (fun V hu => HK.out V (HUX.out.thn hu)) (fun V8 hu => ?_)
  case ec => go_simp
  have hS := HK.out V8 (HUX.out.thn hu)
  replace HUX := Lib.hid (HUX.out.thn hu)
  clear hu
  simp only [Act.put, List.setIfInBounds_toArray, List.set_cons_zero, List.set_cons_succ]
  refine take_one (i := 31) (d := 101) (v := ?_) rfl rfl (by kernel_rfl) (by kernel_rfl) (by kernel_rfl) (fun _ _ _ _ _ h => h) (by rfl) ?_ hS ?_
  rotate_left
  · intro wz hz; (try dsimp only at hz); go_simp; (try with_reducible rfl)
  simp only [Act.put, List.setIfInBounds_toArray, List.set_cons_zero, List.set_cons_succ]
  refine take_one (i := 32) (d := 102) (v := ?_) rfl rfl (by kernel_rfl) (by kernel_rfl) (by kernel_rfl) (fun _ _ _ _ _ h => h) (by rfl) ?_ hS ?_
  rotate_left
  · intro wz hz; (try dsimp only at hz); go_simp; (try with_reducible rfl)
  simp only [Act.put, List.setIfInBounds_toArray, List.set_cons_zero, List.set_cons_succ]
  refine take_one (i := 33) (d := 103) (v := ?_) rfl rfl (by kernel_rfl) (by kernel_rfl) (by kernel_rfl) (fun _ _ _ _ _ h => h) (by rfl) ?_ hS ?_
  rotate_left
  · intro wz hz; (try dsimp only at hz); go_simp; (try with_reducible rfl)
  simp only [Act.put, List.setIfInBounds_toArray, List.set_cons_zero, List.set_cons_succ]
  refine take_one (i := 34) (d := 104) (v := ?_) rfl rfl (by kernel_rfl) (by kernel_rfl) (by kernel_rfl) (fun _ _ _ _ _ h => h) (by rfl) ?_ hS ?_
  rotate_left
  · intro wz hz; (try dsimp only at hz); go_simp; (try with_reducible rfl)
  simp only [Act.put, List.setIfInBounds_toArray, List.set_cons_zero, List.set_cons_succ]
  refine one_call (c := 35) (dc := 105) (f := 23) (args := #[.slice sa4 m4 sc4, .slice sa5 m5 sc5]) (x := .bool true) rfl rfl (by kernel_rfl) (by rfl) ?ec (HSIT.out _ HUX.out) (fun V hu => HK.out V (HUX.out.thn hu)) (fun V9 hu => ?_)
  case ec => go_simp
  have hS := HK.out V9 (HUX.out.thn hu)
  replace HUX := Lib.hid (HUX.out.thn hu)
  clear hu
  simp only [Act.put, List.setIfInBounds_toArray, List.set_cons_zero, List.set_cons_succ]
  refine take_one (i := 36) (d := 106) (v := ?_) rfl rfl (by kernel_rfl) (by kernel_rfl) (by kernel_rfl) (fun _ _ _ _ _ h => h) (by rfl) ?_ hS ?_
  rotate_left
  · intro wz hz; (try dsimp only at hz); go_simp; (try with_reducible rfl)
  simp only [Act.put, List.setIfInBounds_toArray, List.set_cons_zero, List.set_cons_succ]
  refine take_one (i := 37) (d := 107) (v := ?_) rfl rfl (by kernel_rfl) (by kernel_rfl) (by kernel_rfl) (fun _ _ _ _ _ h => h) (by rfl) ?_ hS ?_
  rotate_left
  · intro wz hz; (try dsimp only at hz); go_simp; (try with_reducible rfl)
  simp only [Act.put, List.setIfInBounds_toArray, List.set_cons_zero, List.set_cons_succ]
  refine take_one (i := 38) (d := 108) (v := ?_) rfl rfl (by kernel_rfl) (by kernel_rfl) (by kernel_rfl) (fun _ _ _ _ _ h => h) (by rfl) ?_ hS ?_
  rotate_left
  · intro wz hz; (try dsimp only at hz); go_simp; (try with_reducible rfl)
  simp only [Act.put, List.setIfInBounds_toArray, List.set_cons_zero, List.set_cons_succ]
  refine take_one (i := 39) (d := 109) (v := ?_) rfl rfl (by kernel_rfl) (by kernel_rfl) (by kernel_rfl) (fun _ _ _ _ _ h => h) (by rfl) ?_ hS ?_
  rotate_left
  · intro wz hz; (try dsimp only at hz); go_simp; (try with_reducible rfl)
  simp only [Act.put, List.setIfInBounds_toArray, List.set_cons_zero, List.set_cons_succ]
  refine take_one (i := 40) (d := 110) (v := ?_) rfl rfl (by kernel_rfl) (by kernel_rfl) (by kernel_rfl) (fun _ _ _ _ _ h => h) (by rfl) ?_ hS ?_
  rotate_left
  · intro wz hz; (try dsimp only at hz); go_simp; (try with_reducible rfl)
  simp only [Act.put, List.setIfInBounds_toArray, List.set_cons_zero, List.set_cons_succ]
  refine take_one (i := 41) (d := 111) (v := ?_) rfl rfl (by kernel_rfl) (by kernel_rfl) (by kernel_rfl) (fun _ _ _ _ _ h => h) (by rfl) ?_ hS ?_
  rotate_left
  · intro wz hz; (try dsimp only at hz); go_simp; (try with_reducible rfl)
  simp only [Act.put, List.setIfInBounds_toArray, List.set_cons_zero, List.set_cons_succ]
  refine take_one (i := 42) (d := 112) (v := ?_) rfl rfl (by kernel_rfl) (by kernel_rfl) (by kernel_rfl) (fun _ _ _ _ _ h => h) (by rfl) ?_ hS ?_
  rotate_left
  · intro wz hz; (try dsimp only at hz); go_simp; (try with_reducible rfl)
  simp only [Act.put, List.setIfInBounds_toArray, List.set_cons_zero, List.set_cons_succ]
  refine take_one (i := 43) (d := 113) (v := ?_) rfl rfl (by kernel_rfl) (by kernel_rfl) (by kernel_rfl) (fun _ _ _ _ _ h => h) (by rfl) ?_ hS ?_
  rotate_left
  · intro wz hz; (try dsimp only at hz); go_simp; (try with_reducible rfl)
  simp only [Act.put, List.setIfInBounds_toArray, List.set_cons_zero, List.set_cons_succ]
  refine take_one (i := 44) (d := 114) (v := ?_) rfl rfl (by kernel_rfl) (by kernel_rfl) (by kernel_rfl) (fun _ _ _ _ _ h => h) (by rfl) ?_ hS ?_
  rotate_left
  · intro wz hz; (try dsimp only at hz); go_simp; (try with_reducible rfl)
  simp only [Act.put, List.setIfInBounds_toArray, List.set_cons_zero, List.set_cons_succ]
  refine take_one (i := 45) (d := 115) (v := ?_) rfl rfl (by kernel_rfl) (by kernel_rfl) (by kernel_rfl) (fun _ _ _ _ _ h => h) (by rfl) ?_ hS ?_
  rotate_left
  · intro wz hz; (try dsimp only at hz); go_simp; (try with_reducible rfl)
  simp only [Act.put, List.setIfInBounds_toArray, List.set_cons_zero, List.set_cons_succ]
  refine take_one (i := 46) (d := 116) (v := ?_) rfl rfl (by kernel_rfl) (by kernel_rfl) (by kernel_rfl) (fun _ _ _ _ _ h => h) (by rfl) ?_ hS ?_
  rotate_left
  · intro wz hz; (try dsimp only at hz); go_simp; (try with_reducible rfl)
  simp only [Act.put, List.setIfInBounds_toArray, List.set_cons_zero, List.set_cons_succ]
  refine take_one (i := 47) (d := 117) (v := ?_) rfl rfl (by kernel_rfl) (by kernel_rfl) (by kernel_rfl) (fun _ _ _ _ _ h => h) (by rfl) ?_ hS ?_
  rotate_left
  · intro wz hz; (try dsimp only at hz); go_simp; (try with_reducible rfl)
  simp only [Act.put, List.setIfInBounds_toArray, List.set_cons_zero, List.set_cons_succ]
  refine take_one (i := 48) (d := 118) (v := ?_) rfl rfl (by kernel_rfl) (by kernel_rfl) (by kernel_rfl) (fun _ _ _ _ _ h => h) (by rfl) ?_ hS ?_
  rotate_left
  · intro wz hz; (try dsimp only at hz); go_simp; (try with_reducible rfl)
  simp only [Act.put, List.setIfInBounds_toArray, List.set_cons_zero, List.set_cons_succ]
  refine take_one (i := 50) (d := 120) (v := ?_) rfl rfl (by kernel_rfl) (by kernel_rfl) (by kernel_rfl) (fun _ _ _ _ _ h => h) (by rfl) ?_ hS ?_
  rotate_left
  · intro wz hz; (try dsimp only at hz); go_simp; (try with_reducible rfl)
  simp only [Act.put, List.setIfInBounds_toArray, List.set_cons_zero, List.set_cons_succ]
  refine one_call (c := 49) (dc := 119) (f := 24) (args := #[.agg #[.int .i64 f1, .int .i64 d1, .int .i64 u1, .slice a1 n1 c1]]) (x := .int .i64 (gn : Nat)) rfl rfl (by kernel_rfl) (by rfl) ?ec (HLN.out _ HUX.out) (fun V hu => HK.out V (HUX.out.thn hu)) (fun V10 hu => ?_)
  case ec => go_simp
  have hS := HK.out V10 (HUX.out.thn hu)
  replace HUX := Lib.hid (HUX.out.thn hu)
  clear hu
  simp only [Act.put, List.setIfInBounds_toArray, List.set_cons_zero, List.set_cons_succ]
  refine one_call (c := 51) (dc := 121) (f := 25) (args := #[.agg #[.int .i64 f1, .int .i64 d1, .int .i64 u1, .slice a1 n1 c1]]) (x := .int .i64 (gn : Nat)) rfl rfl (by kernel_rfl) (by rfl) ?ec (HRL.out _ HUX.out) (fun V hu => HK.out V (HUX.out.thn hu)) (fun V11 hu => ?_)
  case ec => go_simp
  have hS := HK.out V11 (HUX.out.thn hu)
  replace HUX := Lib.hid (HUX.out.thn hu)
  clear hu
  simp only [Act.put, List.setIfInBounds_toArray, List.set_cons_zero, List.set_cons_succ]
  refine take_one (i := 52) (d := 122) (v := ?_) rfl rfl (by kernel_rfl) (by kernel_rfl) (by kernel_rfl) (fun _ _ _ _ _ h => h) (by rfl) ?_ hS ?_
  rotate_left
  · intro wz hz; (try dsimp only at hz); go_simp; (try with_reducible rfl)
  simp only [Act.put, List.setIfInBounds_toArray, List.set_cons_zero, List.set_cons_succ]
  refine take_one (i := 53) (d := 123) (v := ?_) rfl rfl (by kernel_rfl) (by kernel_rfl) (by kernel_rfl) (fun _ _ _ _ _ h => h) (by rfl) ?_ hS ?_
  rotate_left
  · intro wz hz; (try dsimp only at hz); go_simp; (try with_reducible rfl)
  simp only [Act.put, List.setIfInBounds_toArray, List.set_cons_zero, List.set_cons_succ]
  refine take_one (i := 54) (d := 124) (v := ?_) rfl rfl (by kernel_rfl) (by kernel_rfl) (by kernel_rfl) (fun _ _ _ _ _ h => h) (by rfl) ?_ hS ?_
  rotate_left
  · intro wz hz; (try dsimp only at hz); go_simp; (try with_reducible rfl)
  simp only [Act.put, List.setIfInBounds_toArray, List.set_cons_zero, List.set_cons_succ]
  refine take_one (i := 55) (d := 125) (v := ?_) rfl rfl (by kernel_rfl) (by kernel_rfl) (by kernel_rfl) (fun _ _ _ _ _ h => h) (by rfl) ?_ hS ?_
  rotate_left
  · intro wz hz; (try dsimp only at hz); go_simp; (try with_reducible rfl)
  simp only [Act.put, List.setIfInBounds_toArray, List.set_cons_zero, List.set_cons_succ]
  refine take_one (i := 57) (d := 127) (v := ?_) rfl rfl (by kernel_rfl) (by kernel_rfl) (by kernel_rfl) (fun _ _ _ _ _ h => h) (by rfl) ?_ hS ?_
  rotate_left
  · intro wz hz; (try dsimp only at hz); go_simp; (try with_reducible rfl)
  simp only [Act.put, List.setIfInBounds_toArray, List.set_cons_zero, List.set_cons_succ]
  refine one_call (c := 56) (dc := 126) (f := 26) (args := #[.agg #[.int .i64 f1, .int .i64 d1, .int .i64 u1, .slice a1 n1 c1]]) (x := .int .i64 gc) rfl rfl (by kernel_rfl) (by rfl) ?ec (HCU.out _ HUX.out) (fun V hu => HK.out V (HUX.out.thn hu)) (fun V12 hu => ?_)
  case ec => go_simp
  have hS := HK.out V12 (HUX.out.thn hu)
  replace HUX := Lib.hid (HUX.out.thn hu)
  clear hu
  simp only [Act.put, List.setIfInBounds_toArray, List.set_cons_zero, List.set_cons_succ]
  refine one_call (c := 58) (dc := 128) (f := 27) (args := #[.agg #[.int .i64 f1, .int .i64 d1, .int .i64 u1, .slice a1 n1 c1]]) (x := .int .i64 gc) rfl rfl (by kernel_rfl) (by rfl) ?ec (HRC.out _ HUX.out) (fun V hu => HK.out V (HUX.out.thn hu)) (fun V13 hu => ?_)
  case ec => go_simp
  have hS := HK.out V13 (HUX.out.thn hu)
  replace HUX := Lib.hid (HUX.out.thn hu)
  clear hu
  simp only [Act.put, List.setIfInBounds_toArray, List.set_cons_zero, List.set_cons_succ]
  refine take_one (i := 59) (d := 129) (v := ?_) rfl rfl (by kernel_rfl) (by kernel_rfl) (by kernel_rfl) (fun _ _ _ _ _ h => h) (by rfl) ?_ hS ?_
  rotate_left
  · intro wz hz; (try dsimp only at hz); go_simp; (try with_reducible rfl)
  simp only [Act.put, List.setIfInBounds_toArray, List.set_cons_zero, List.set_cons_succ]
  refine take_one (i := 60) (d := 130) (v := ?_) rfl rfl (by kernel_rfl) (by kernel_rfl) (by kernel_rfl) (fun _ _ _ _ _ h => h) (by rfl) ?_ hS ?_
  rotate_left
  · intro wz hz; (try dsimp only at hz); go_simp; (try with_reducible rfl)
  simp only [Act.put, List.setIfInBounds_toArray, List.set_cons_zero, List.set_cons_succ]
  refine take_one (i := 61) (d := 131) (v := ?_) rfl rfl (by kernel_rfl) (by kernel_rfl) (by kernel_rfl) (fun _ _ _ _ _ h => h) (by rfl) ?_ hS ?_
  rotate_left
  · intro wz hz; (try dsimp only at hz); go_simp; (try with_reducible rfl)
  simp only [Act.put, List.setIfInBounds_toArray, List.set_cons_zero, List.set_cons_succ]
  refine take_one (i := 62) (d := 132) (v := ?_) rfl rfl (by kernel_rfl) (by kernel_rfl) (by kernel_rfl) (fun _ _ _ _ _ h => h) (by rfl) ?_ hS ?_
  rotate_left
  · intro wz hz; (try dsimp only at hz); go_simp; (try with_reducible rfl)
  simp only [Act.put, List.setIfInBounds_toArray, List.set_cons_zero, List.set_cons_succ]
  refine take_one (i := 64) (d := 134) (v := ?_) rfl rfl (by kernel_rfl) (by kernel_rfl) (by kernel_rfl) (fun _ _ _ _ _ h => h) (by rfl) ?_ hS ?_
  rotate_left
  · intro wz hz; (try dsimp only at hz); go_simp; (try with_reducible rfl)
  simp only [Act.put, List.setIfInBounds_toArray, List.set_cons_zero, List.set_cons_succ]
  refine one_call (c := 63) (dc := 133) (f := 28) (args := #[.agg #[.int .i64 f1, .int .i64 d1, .int .i64 u1, .slice a1 n1 c1]]) (x := .int .i64 ge) rfl rfl (by kernel_rfl) (by rfl) ?ec (HEN.out _ HUX.out) (fun V hu => HK.out V (HUX.out.thn hu)) (fun V14 hu => ?_)
  case ec => go_simp
  have hS := HK.out V14 (HUX.out.thn hu)
  replace HUX := Lib.hid (HUX.out.thn hu)
  clear hu
  simp only [Act.put, List.setIfInBounds_toArray, List.set_cons_zero, List.set_cons_succ]
  refine one_call (c := 65) (dc := 135) (f := 29) (args := #[.agg #[.int .i64 f1, .int .i64 d1, .int .i64 u1, .slice a1 n1 c1]]) (x := .int .i64 ge) rfl rfl (by kernel_rfl) (by rfl) ?ec (HRE.out _ HUX.out) (fun V hu => HK.out V (HUX.out.thn hu)) (fun V15 hu => ?_)
  case ec => go_simp
  have hS := HK.out V15 (HUX.out.thn hu)
  replace HUX := Lib.hid (HUX.out.thn hu)
  clear hu
  simp only [Act.put, List.setIfInBounds_toArray, List.set_cons_zero, List.set_cons_succ]
  refine take_one (i := 66) (d := 136) (v := ?_) rfl rfl (by kernel_rfl) (by kernel_rfl) (by kernel_rfl) (fun _ _ _ _ _ h => h) (by rfl) ?_ hS ?_
  rotate_left
  · intro wz hz; (try dsimp only at hz); go_simp; (try with_reducible rfl)
  simp only [Act.put, List.setIfInBounds_toArray, List.set_cons_zero, List.set_cons_succ]
  refine take_one (i := 67) (d := 137) (v := ?_) rfl rfl (by kernel_rfl) (by kernel_rfl) (by kernel_rfl) (fun _ _ _ _ _ h => h) (by rfl) ?_ hS ?_
  rotate_left
  · intro wz hz; (try dsimp only at hz); go_simp; (try with_reducible rfl)
  simp only [Act.put, List.setIfInBounds_toArray, List.set_cons_zero, List.set_cons_succ]
  refine take_one (i := 68) (d := 10) (v := ?_) rfl rfl (by kernel_rfl) (by kernel_rfl) (by kernel_rfl) (fun _ _ _ _ _ h => h) (by rfl) ?_ hS ?_
  rotate_left
  · intro wz hz; (try dsimp only at hz); go_simp; (try with_reducible rfl)
  simp only [Act.put, List.setIfInBounds_toArray, List.set_cons_zero, List.set_cons_succ]
  refine wpAnyH_done (by kernel_rfl) ?_ _
  refine NoPanic.normal ?_
  go_wp2_with fail
  go_ret
  exact ⟨by first | rfl | (simp; done), HUW.out.thn HUX.out⟩
end Go.Proofs.Ytmfijhophaeljaa
