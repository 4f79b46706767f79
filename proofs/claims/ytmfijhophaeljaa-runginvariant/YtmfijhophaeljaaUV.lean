/- RungInvariant: the law's walk. -/
import Derived.Test.YtmfijhophaeljaaUU
namespace Go.Proofs.Ytmfijhophaeljaa
open Go.RowKit Go.Lib

set_option maxRecDepth 100000 in
set_option maxHeartbeats 8000000 in
theorem Invariant_any (x0 x1 : Int) (la : Option Addr) (lc : Nat) (os : List Oz) (o : Oz) (w : World) (h0 : U64 x0) (h1 : U64 x1) (hlm : os.length ≤ maxLen) (ho : Row LO w la os) (hoa : ∀ o ∈ os, U64 o.a) (hk : U64 o.a) :
    Calls Try.prog 4 #[.int .u64 x0, .int .u64 x1, .slice la os.length lc, aggO o] w fun e w' => e = .returned (.bool true) ∧ Upd [] w w' := by
  have HHD := Lib.hid head_true
  have HMD := Lib.hid (fun W (hu : Upd [] w W) => Made_has x0 x1 la lc os W h0 h1 (ho.stay hu) hoa (by simp only [maxLen] at hlm; omega))
  have hmg := made_good h0 h1 os
  have HMG := Lib.hid hmg.1; have HML := Lib.hid hmg.2
  generalize madeR x0 x1 os = g at *
  generalize os.length = L at *
  clear h0 h1 hlm ho hoa hmg
  obtain ⟨on, oa, oq⟩ := o
  unfold aggO
  simp only at hk ⊢
  have HK := Lib.hid hk
  go_enter Try.func4, Try.ntmps4
  go_upto_region 1 with (fail)
  have hu := (Upd.refl [] w).alloc (.cells #[.bool on, .int .u64 oa, .int .i64 oq] 28)
  have bo := heap_alloc1 w (.cells #[.bool on, .int .u64 oa, .int .i64 oq] 28)
  generalize w.alloc (.cells #[.bool on, .int .u64 oa, .int .i64 oq] 28) = W0 at *
  generalize w.heap.size = PO at *
  have HBO := Lib.hid bo; have HUW := Lib.hid hu
  clear hu bo hk
  go_upto_region 2 with (go_at_call 8; (with_reducible refine (HHD.out _).mono ?_); rintro e W1 ⟨rfl, hu0⟩)
  replace HBO := Lib.hid (hu0.at HBO.out (by simp))
  replace HUW := Lib.hid (HUW.out.thn hu0)
  clear hu0 HHD
  go_upto_region 3 with (go_at_call 10; (with_reducible refine (HMD.out _ HUW.out).mono ?_); rintro e w1 ⟨⟨f1, d1, u1, l1, a1, c1⟩, rfl, hN1⟩; unfold encR)
  have HE1 : Hid (Std ⟨f1, d1, u1, ⟨l1, a1, c1⟩⟩ g) := ⟨hN1.eq, HMG.out, by have := HML.out; omega⟩
  have hal := (Upd.refl [] w1).alloc (.cells #[.int .i64 f1, .int .i64 d1, .int .i64 u1, .slice a1 l1.length c1] 24)
  have hIB : InBox w1.heap.size ⟨f1, d1, u1, ⟨l1, a1, c1⟩⟩ (w1.alloc (.cells #[.int .i64 f1, .int .i64 d1, .int .i64 u1, .slice a1 l1.length c1] 24)) := ⟨heap_alloc1 _ _, hN1.has.stay hal⟩
  have hu1 := hN1.upd.thn hal
  have HB1 := Lib.hid hIB
  generalize w1.alloc (.cells #[.int .i64 f1, .int .i64 d1, .int .i64 u1, .slice a1 l1.length c1] 24) = W2 at *
  generalize w1.heap.size = P1 at *
  replace HBO := Lib.hid (hu1.at HBO.out (by simp))
  replace HUW := Lib.hid (HUW.out.thn hu1)
  clear hal hIB hu1
  clear hN1 HMD
  have HLEN := Lib.hid (fun V (hv : Upd [] W2 V) => Len_has ⟨f1, d1, u1, ⟨l1, a1, c1⟩⟩ V (HB1.out.2.stay hv) HE1.out.n (by have := HE1.out.l; omega) HE1.out.m)
  rw [HE1.out.eq] at HLEN
  unfold encR at HLEN
  simp only at HLEN
  obtain ⟨b10, b11, b12, b13⟩ := cells4 (show W2.heap[P1]? = some (.cells #[.int .i64 f1, .int .i64 d1, .int .i64 u1, .slice a1 l1.length c1] 24 (0, 0)) from HB1.out.1)
  go_upto_region 4 with (go_at_call 24; (with_reducible refine (HLEN.out _ (Upd.refl [] _)).mono ?_); rintro e W3 ⟨rfl, huL⟩)
  clear b10 b11 b12 b13
  replace HB1 := Lib.hid (HB1.out.stay huL)
  replace HBO := Lib.hid (huL.at HBO.out (by simp))
  replace HUW := Lib.hid (HUW.out.thn huL)
  clear huL HLEN
  have hCI := fun W' (_ : Upd [] W3 W') => item_has ⟨f1, d1, u1, ⟨l1, a1, c1⟩⟩ ⟨on, oa, oq⟩ W' HE1.out.g HK.out
  have hCP := fun it W' (hu : Upd [] W3 W') => Put_has ⟨f1, d1, u1, ⟨l1, a1, c1⟩⟩ it W' (HB1.out.2.stay hu) HE1.out.g HE1.out.l
  have hCN := Next_has ⟨f1, d1, u1, ⟨l1, a1, c1⟩⟩
  have HPS := Lib.hid (fun (r' : RgR) (it : It) (e : r'.rg = (putR (⟨f1, d1, u1, ⟨l1, a1, c1⟩⟩ : RgR).rg it).1) => HE1.out.put HML.out e)
  rw [HE1.out.eq] at hCI
  obtain ⟨⟨it, iq, is⟩, hit⟩ : ∃ it, it = itemR g ⟨on, oa, oq⟩ := ⟨_, rfl⟩
  rw [← hit] at hCI
  have hCP := hCP ⟨it, iq, is⟩
  have HPS := Lib.hid (fun r' => HPS.out r' ⟨it, iq, is⟩)
  rw [HE1.out.eq] at hCP HPS
  unfold encR aggO aggI at hCI
  unfold encR aggI at hCP
  simp only at hCI hCP
  obtain ⟨pp, hpp⟩ : ∃ pp, pp = putR g ⟨it, iq, is⟩ := ⟨_, rfl⟩
  rw [← hpp] at hCP HPS
  have HCI := Lib.hid hCI; have HCP := Lib.hid hCP; have HPP := Lib.hid hpp
  clear hit hCI hCP hpp hCN
  obtain ⟨o0, o1, o2⟩ := cells3 HBO.out
  obtain ⟨b10, b11, b12, b13⟩ := cells4 (show W3.heap[P1]? = some (.cells #[.int .i64 f1, .int .i64 d1, .int .i64 u1, .slice a1 l1.length c1] 24 (0, 0)) from HB1.out.1)
  go_cut [12, 13] (fun vA vB wx => ∃ Q r', vA = .pointer (some ⟨Q, 0, none⟩) ∧ vB = .bool pp.2 ∧ Hid (Boxed W3 ⟨f1, d1, u1, ⟨l1, a1, c1⟩⟩ pp.1 Q wx r'))
  case first =>
    have HKP : Hid (∀ wz, Upd [] W3 wz → wz.cell? ⟨P1, 0, none⟩ = some (.int .i64 f1) ∧ wz.cell? ⟨P1, 1, none⟩ = some (.int .i64 d1) ∧ wz.cell? ⟨P1, 2, none⟩ = some (.int .i64 u1) ∧ wz.cell? ⟨P1, 3, none⟩ = some (.slice a1 l1.length c1) ∧ wz.cell? ⟨PO, 0, none⟩ = some (.bool on) ∧ wz.cell? ⟨PO, 1, none⟩ = some (.int .u64 oa) ∧ wz.cell? ⟨PO, 2, none⟩ = some (.int .i64 oq)) := fun W' hu => ⟨hu.cell b10 (by simp), hu.cell b11 (by simp), hu.cell b12 (by simp), hu.cell b13 (by simp), hu.cell o0 (by simp), hu.cell o1 (by simp), hu.cell o2 (by simp)⟩
    go_region_held3 (fun wz => wz.cell? ⟨P1, 0, none⟩ = some (.int .i64 f1) ∧ wz.cell? ⟨P1, 1, none⟩ = some (.int .i64 d1) ∧ wz.cell? ⟨P1, 2, none⟩ = some (.int .i64 u1) ∧ wz.cell? ⟨P1, 3, none⟩ = some (.slice a1 l1.length c1) ∧ wz.cell? ⟨PO, 0, none⟩ = some (.bool on) ∧ wz.cell? ⟨PO, 1, none⟩ = some (.int .u64 oa) ∧ wz.cell? ⟨PO, 2, none⟩ = some (.int .i64 oq)) (first | exact ⟨b10, b11, b12, b13, o0, o1, o2⟩ | (refine HKP.out _ ?_; (repeat (first | exact Upd.refl [] _ | refine Upd.setCell ?_ (fun hl => absurd hl (Nat.not_lt.2 (by first | exact Nat.le_refl _ | exact hui.size | exact Nat.le_trans hui.size hN.upd.size))) _ | refine Upd.drew ?_ | refine Upd.alloc ?_ _ | refine Upd.trans (T := []) ?_ (by assumption) (by simp))))) (first
      | (go_at_call 11; (with_reducible refine (HCI.out _ ?_).mono ?_); (repeat (first | exact Upd.refl [] _ | refine Upd.drew ?_ | refine Upd.alloc ?_ _ | refine Upd.trans (T := []) ?_ (by assumption) (by simp))); rintro e wi ⟨rfl, hui⟩)
      | (go_at_call 12; (with_reducible refine (HCP.out _ ?_).mono ?_); (repeat (first | exact Upd.refl [] _ | refine Upd.drew ?_ | refine Upd.alloc ?_ _ | refine Upd.trans (T := []) ?_ (by assumption) (by simp))); rintro e w' ⟨⟨fr', wd', cu', bl', ba', bc'⟩, rfl, hN⟩; unfold encR; have hu := hN.upd; try (first | (have pb := hu.at (hui.at (heap_alloc1 W3 (.cells #[.int .i64 0, .int .i64 0, .int .i64 0, .slice none 0 0] 24)) (by simp)) (by simp); obtain ⟨x0, x1, x2, x3⟩ := cells4 pb; obtain ⟨y0, y1, y2, y3⟩ := free4 pb; clear pb) | (have pb := hu.at (heap_alloc1 wi (.cells #[.int .i64 0, .int .i64 0, .int .i64 0, .slice none 0 0] 24)) (by simp); obtain ⟨x0, x1, x2, x3⟩ := cells4 pb; obtain ⟨y0, y1, y2, y3⟩ := free4 pb; clear pb))))
    all_goals go_wp2_with fail
    all_goals go_meet
    all_goals case rel =>
      first
        | (have hx0 := x0
           first
             | (have hN2 : Nxt (wi.alloc (.cells #[.int .i64 0, .int .i64 0, .int .i64 0, .slice none 0 0] 24)) ⟨f1, d1, u1, ⟨l1, a1, c1⟩⟩ pp.1 w' ⟨fr', wd', cu', ⟨bl', ba', bc'⟩⟩ := hN
                refine ⟨wi.heap.size, ⟨fr', wd', cu', ⟨bl', ba', bc'⟩⟩, rfl, rfl, ?_⟩
                have hb := boxed_at (w := W3) (w1 := wi.alloc (.cells #[.int .i64 0, .int .i64 0, .int .i64 0, .slice none 0 0] 24)) HB1.out.2 (heap_alloc1 wi (.cells #[.int .i64 0, .int .i64 0, .int .i64 0, .slice none 0 0] 24)) hN2 (((Upd.refl [] W3).drew.thn hui).alloc (.cells #[.int .i64 0, .int .i64 0, .int .i64 0, .slice none 0 0] 24)) hui.size
                simp only at hb
                exact Lib.hid hb)
             | (refine ⟨W3.heap.size, ⟨fr', wd', cu', ⟨bl', ba', bc'⟩⟩, rfl, rfl, ?_⟩
                have hb := boxed_at (w := W3) (w1 := wi) HB1.out.2 (hui.at (heap_alloc1 W3 (.cells #[.int .i64 0, .int .i64 0, .int .i64 0, .slice none 0 0] 24)) (by simp)) hN (((Upd.refl [] W3).alloc (.cells #[.int .i64 0, .int .i64 0, .int .i64 0, .slice none 0 0] 24)).drew.thn hui) (Nat.le_refl _)
                simp only at hb
                exact Lib.hid hb))
        | (refine ⟨w'.heap.size, ⟨fr', wd', cu', ⟨bl', ba', bc'⟩⟩, rfl, rfl, ?_⟩
           have hb := boxed_last (w := W3) (w1 := wi) hN ((Upd.refl [] W3).drew.thn hui)
           simp only [cellsR] at hb
           exact Lib.hid hb)
  case rest =>
  obtain ⟨P2, r', rfl, rfl, HBX⟩ := hcut
  obtain ⟨f2, d2, u2, l2, a2, c2⟩ := r'
  obtain ⟨W4, hWn⟩ : ∃ x, x = wc := ⟨_, rfl⟩
  subst hWn
  have HB2 : Hid (InBox P2 ⟨f2, d2, u2, ⟨l2, a2, c2⟩⟩ W4) := ⟨HBX.out.blk, HBX.out.nxt.has⟩
  have HE2 := Lib.hid HBX.out.nxt.eq
  have hu2 := HBX.out.nxt.upd
  clear HBX
  clear b10 b11 b12 b13
  clear o0 o1 o2
  replace HB1 := Lib.hid (HB1.out.stay hu2)
  replace HBO := Lib.hid (hu2.at HBO.out (by simp))
  replace HUW := Lib.hid (HUW.out.thn hu2)
  clear hu2 HCI HCP
  have HE2 : Hid (Std ⟨f2, d2, u2, ⟨l2, a2, c2⟩⟩ pp.1) := HPS.out _ HE2.out
  have hP3 := Next_has ⟨f1, d1, u1, ⟨l1, a1, c1⟩⟩ W4 HB1.out.2 HE1.out.g HE1.out.l
  have HXS := Lib.hid (fun (r' : RgR) (e : r'.rg = (nextR (⟨f1, d1, u1, ⟨l1, a1, c1⟩⟩ : RgR).rg).1) => HE1.out.next e)
  rw [HE1.out.eq] at hP3 HXS
  obtain ⟨nx, hnx⟩ : ∃ nx, nx = nextR g := ⟨_, rfl⟩
  rw [← hnx] at hP3 HXS
  unfold encR at hP3
  simp only at hP3
  have HP3 := Lib.hid hP3; have HNX := Lib.hid hnx
  clear hP3 hnx
  obtain ⟨b10, b11, b12, b13⟩ := cells4 (show W4.heap[P1]? = some (.cells #[.int .i64 f1, .int .i64 d1, .int .i64 u1, .slice a1 l1.length c1] 24 (0, 0)) from HB1.out.1)
  go_upto_region 6 with (go_at_call 14; (with_reducible refine HP3.out.mono ?_); rintro e w3 ⟨⟨f3, d3, u3, l3, a3, c3⟩, ⟨sl3, sa3, sc3⟩, rfl, hN3, hG3⟩; unfold encR)
  clear b10 b11 b12 b13
  have HE3 : Hid (Std ⟨f3, d3, u3, ⟨l3, a3, c3⟩⟩ nx.1) := HXS.out _ hN3.eq
  have HSL : Hid (sl3 = nx.2.1) := hG3.eq
  have hal := (Upd.refl [] w3).alloc (.cells #[.int .i64 f3, .int .i64 d3, .int .i64 u3, .slice a3 l3.length c3] 24)
  have hIB : InBox w3.heap.size ⟨f3, d3, u3, ⟨l3, a3, c3⟩⟩ (w3.alloc (.cells #[.int .i64 f3, .int .i64 d3, .int .i64 u3, .slice a3 l3.length c3] 24)) := ⟨heap_alloc1 _ _, hN3.has.stay hal⟩
  have hu3 := hN3.upd.thn hal
  have HB3 := Lib.hid hIB
  have HS3 := Lib.hid (hG3.has.stay hal)
  generalize w3.alloc (.cells #[.int .i64 f3, .int .i64 d3, .int .i64 u3, .slice a3 l3.length c3] 24) = W5 at *
  generalize w3.heap.size = P3 at *
  replace HB1 := Lib.hid (HB1.out.stay hu3)
  replace HB2 := Lib.hid (HB2.out.stay hu3)
  replace HBO := Lib.hid (hu3.at HBO.out (by simp))
  replace HUW := Lib.hid (HUW.out.thn hu3)
  clear hal hIB hu3
  clear hN3 hG3 HP3
  have HV1 := Lib.hid (fun V (hv : Upd [] W5 V) => Valid_has ⟨f1, d1, u1, ⟨l1, a1, c1⟩⟩ V (HB1.out.2.stay hv) HE1.out.n HE1.out.m)
  rw [HE1.out.eq, validR_yes.2 HE1.out.good] at HV1
  unfold encR at HV1
  simp only at HV1
  have HV2 := Lib.hid (fun V (hv : Upd [] W5 V) => Valid_has ⟨f2, d2, u2, ⟨l2, a2, c2⟩⟩ V (HB2.out.2.stay hv) HE2.out.n HE2.out.m)
  rw [HE2.out.eq, validR_yes.2 HE2.out.good] at HV2
  unfold encR at HV2
  simp only at HV2
  have HV3 := Lib.hid (fun V (hv : Upd [] W5 V) => Valid_has ⟨f3, d3, u3, ⟨l3, a3, c3⟩⟩ V (HB3.out.2.stay hv) HE3.out.n HE3.out.m)
  rw [HE3.out.eq, validR_yes.2 HE3.out.good] at HV3
  unfold encR at HV3
  simp only at HV3
  have HL2 := Lib.hid (fun V (hv : Upd [] W5 V) => Len_has ⟨f2, d2, u2, ⟨l2, a2, c2⟩⟩ V (HB2.out.2.stay hv) HE2.out.n (by have := HE2.out.l; omega) HE2.out.m)
  rw [HE2.out.eq] at HL2
  unfold encR at HL2
  simp only at HL2
  have HL3 := Lib.hid (fun V (hv : Upd [] W5 V) => Len_has ⟨f3, d3, u3, ⟨l3, a3, c3⟩⟩ V (HB3.out.2.stay hv) HE3.out.n (by have := HE3.out.l; omega) HE3.out.m)
  rw [HE3.out.eq] at HL3
  unfold encR at HL3
  simp only at HL3
  have HSM := Lib.hid (fun V (hv : Upd [] W5 V) => Same_has ⟨f2, d2, u2, ⟨l2, a2, c2⟩⟩ ⟨f1, d1, u1, ⟨l1, a1, c1⟩⟩ V (HB2.out.2.stay hv) (HB1.out.2.stay hv) HE2.out.n HE2.out.m)
  unfold encR at HSM
  simp only at HSM
  have HA1 : Hid (pp.2 = true → (lenL pp.1.bs : Int) = (lenL g.bs : Int) + 1) := fun e => by
    have hf : Fits g it := by
      apply Classical.byContradiction
      intro h
      rw [HPP.out, putR_no (it := ⟨it, iq, is⟩) h] at e
      simp at e
    rw [HPP.out, putR_yes (it := ⟨it, iq, is⟩) hf]
    have := put_len HMG.out (it := ⟨it, iq, is⟩) hf
    simp only
    omega
  have HA2 : Hid (pp.2 = false → decide ((⟨f2, d2, u2, ⟨l2, a2, c2⟩⟩ : RgR).rg = (⟨f1, d1, u1, ⟨l1, a1, c1⟩⟩ : RgR).rg) = true) := fun e => by
    refine same_std HE2.out.eq HE1.out.eq ?_
    by_cases h : Fits g it
    · rw [HPP.out, putR_yes (it := ⟨it, iq, is⟩) h] at e
      simp at e
    · rw [HPP.out, putR_no (it := ⟨it, iq, is⟩) h]
  have HA3 : Hid ((lenL nx.1.bs : Int) = (lenL g.bs : Int) - (sl3.length : Int)) := by
    show _ = _
    rw [HSL.out, HNX.out]
    have := next_len g
    omega
  have hbd := HML.out
  have hbd3 : sl3.length ≤ 100 := by have h1 := HA3.out; omega
  have hw1 : IntKind.i64.wrap ((lenL g.bs : Int) + 1) = (lenL g.bs : Int) + 1 := by rw [IntKind.wrap_i64]; omega
  have hw2 : IntKind.i64.wrap ((lenL g.bs : Int) - (sl3.length : Int)) = (lenL g.bs : Int) - (sl3.length : Int) := by rw [IntKind.wrap_i64]; omega
  generalize hb : decide ((⟨f2, d2, u2, ⟨l2, a2, c2⟩⟩ : RgR).rg = (⟨f1, d1, u1, ⟨l1, a1, c1⟩⟩ : RgR).rg) = sb at HSM HA2
  generalize pp.2 = ok at *
  generalize lenL pp.1.bs = n2 at *
  generalize lenL nx.1.bs = n3 at *
  generalize lenL g.bs = n1 at *
  generalize sl3.length = m3 at *
  clear hb
  obtain ⟨b10, b11, b12, b13⟩ := cells4 (show W5.heap[P1]? = some (.cells #[.int .i64 f1, .int .i64 d1, .int .i64 u1, .slice a1 l1.length c1] 24 (0, 0)) from HB1.out.1)
  go_wp2_with fail
  (with_reducible refine (HV1.out _ (Upd.refl [] _)).mono ?_)
  rintro e v1 ⟨rfl, hv1⟩
  have HU1 := Lib.hid hv1
  clear b10 b11 b12 b13
  obtain ⟨b20, b21, b22, b23⟩ := cells4 (show v1.heap[P2]? = some (.cells #[.int .i64 f2, .int .i64 d2, .int .i64 u2, .slice a2 l2.length c2] 24 (0, 0)) from (HB2.out.stay HU1.out).1)
  clear hv1
  go_wp2_with fail
  (with_reducible refine (HV2.out _ HU1.out).mono ?_)
  rintro e v2 ⟨rfl, hv2⟩
  have HU2 := Lib.hid (HU1.out.thn hv2)
  clear b20 b21 b22 b23
  obtain ⟨b30, b31, b32, b33⟩ := cells4 (show v2.heap[P3]? = some (.cells #[.int .i64 f3, .int .i64 d3, .int .i64 u3, .slice a3 l3.length c3] 24 (0, 0)) from (HB3.out.stay HU2.out).1)
  clear hv2
  go_wp2_with fail
  (with_reducible refine (HV3.out _ HU2.out).mono ?_)
  rintro e v3 ⟨rfl, hv3⟩
  have HU3 := Lib.hid (HU2.out.thn hv3)
  clear hv3
  clear b30 b31 b32 b33
  cases ok with
  | true =>
    obtain ⟨b20, b21, b22, b23⟩ := cells4 (show v3.heap[P2]? = some (.cells #[.int .i64 f2, .int .i64 d2, .int .i64 u2, .slice a2 l2.length c2] 24 (0, 0)) from (HB2.out.stay HU3.out).1)
    have HN2 := Lib.hid (HA1.out (by first | rfl | trivial))
    have hq2 : ((n2 : Int) == (n1 : Int) + 1) = true := by simp only [beq_iff_eq]; exact HN2.out
    go_wp2_with fail
    (with_reducible refine (HL2.out _ HU3.out).mono ?_)
    rintro e v4 ⟨rfl, hv4⟩
    have HU4 := Lib.hid (HU3.out.thn hv4)
    clear b20 b21 b22 b23
    obtain ⟨b30, b31, b32, b33⟩ := cells4 (show v4.heap[P3]? = some (.cells #[.int .i64 f3, .int .i64 d3, .int .i64 u3, .slice a3 l3.length c3] 24 (0, 0)) from (HB3.out.stay HU4.out).1)
    have hq3 : ((n3 : Int) == (n1 : Int) - (m3 : Int)) = true := by simp only [beq_iff_eq]; exact HA3.out
    clear hv4
    go_wp2_with fail
    (with_reducible refine (HL3.out _ HU4.out).mono ?_)
    rintro e v5 ⟨rfl, hv5⟩
    go_wp2_with fail
    go_ret
    exact ⟨rfl, HUW.out.thn (HU4.out.thn hv5)⟩
  | false =>
    obtain ⟨b20, b21, b22, b23⟩ := cells4 (show v3.heap[P2]? = some (.cells #[.int .i64 f2, .int .i64 d2, .int .i64 u2, .slice a2 l2.length c2] 24 (0, 0)) from (HB2.out.stay HU3.out).1)
    obtain ⟨b10, b11, b12, b13⟩ := cells4 (show v3.heap[P1]? = some (.cells #[.int .i64 f1, .int .i64 d1, .int .i64 u1, .slice a1 l1.length c1] 24 (0, 0)) from (HB1.out.stay HU3.out).1)
    have HSB := Lib.hid (HA2.out (by first | rfl | trivial))
    rw [HSB.out] at HSM
    go_wp2_with fail
    (with_reducible refine (HSM.out _ HU3.out).mono ?_)
    rintro e v4 ⟨rfl, hv4⟩
    have HU4 := Lib.hid (HU3.out.thn hv4)
    clear b20 b21 b22 b23
    clear b10 b11 b12 b13
    obtain ⟨b30, b31, b32, b33⟩ := cells4 (show v4.heap[P3]? = some (.cells #[.int .i64 f3, .int .i64 d3, .int .i64 u3, .slice a3 l3.length c3] 24 (0, 0)) from (HB3.out.stay HU4.out).1)
    have hq3 : ((n3 : Int) == (n1 : Int) - (m3 : Int)) = true := by simp only [beq_iff_eq]; exact HA3.out
    clear hv4
    go_wp2_with fail
    (with_reducible refine (HL3.out _ HU4.out).mono ?_)
    rintro e v5 ⟨rfl, hv5⟩
    go_wp2_with fail
    go_ret
    exact ⟨rfl, HUW.out.thn (HU4.out.thn hv5)⟩
end Go.Proofs.Ytmfijhophaeljaa
