/- ShmemMatchesReference: the walk. -/
import Derived.Test.YtbalfkdeemgclaaRG
namespace Go.Proofs.Ytbalfkdeemgclaa
open Go.RowKit

/-- The memory and the reference beside it, both in the same state after k operations. -/
def Both (w : World) (p bw bm pr br : Nat) (k : Nat) (s : St) (wr : World) : Prop :=
  ∃ F G, Mem F p bw bm s wr ∧ RMem G pr br s wr ∧ Four k s ∧ (∀ x ∈ F, w.heap.size ≤ x) ∧ (∀ x ∈ G, w.heap.size ≤ x) ∧ (∀ x ∈ F, x ∉ G) ∧ Upd [] w wr
def BoRel (w : World) (p bw bm pr br n : Nat) (g : Nat) (i : Value) (wr : World) : Prop :=
  ∃ k s, i = .int .i64 (k : Nat) ∧ k + g = n ∧ Both w p bw bm pr br k s wr
theorem Both.stay {w wr w2 : World} {p bw bm pr br k : Nat} {s : St} (h : Both w p bw bm pr br k s wr) (hu : Upd [] wr w2) : Both w p bw bm pr br k s w2 := by
  obtain ⟨F, G, hM, hR, h4, hF, hG, hd, hU⟩ := h
  exact ⟨F, G, hM.stay hu, hR.stay hu, h4, hF, hG, hd, hU.trans hu (by simp)⟩

set_option maxRecDepth 100000 in
set_option maxHeartbeats 4000000 in
theorem Matches_any (m n : Int) (ad : Option Addr) (rs : List Rw) (cap : Nat) (w : World) (hr : Raws w ad rs) (hlen : rs.length ≤ maxLen) :
    Calls Try.prog 3 #[.int .i64 m, .int .i64 n, .slice ad rs.length cap] w fun e w' => e = .returned (.bool true) ∧ Upd [] w w' := by
  unfold maxLen at hlen
  have HR := Lib.hid hr; clear hr
  by_cases hn : 200 < rs.length
  · go_enter Try.func3, Try.ntmps3
    go_wp2_with fail
    refine (head_any _).mono ?_
    rintro e w0 ⟨rfl, hu0⟩
    go_wp2_with fail
    go_ret
    exact ⟨rfl, hu0⟩
  · have hn0 : decide (200 < (rs.length : Int)) = false := by simp; omega
    go_enter Try.func3, Try.ntmps3
    go_wp2_with fail
    refine (head_any _).mono ?_
    rintro e w0 ⟨rfl, hu0⟩
    go_upto_region 4 with (fail)
    go_cut [30] (fun v30 wx => v30 = .bool false ∧ Upd [] w wx)
    case first =>
      by_cases hv : 0 ≤ m ∧ m ≤ 256 ∧ 0 ≤ n ∧ n ≤ 256
      · obtain ⟨m, rfl⟩ := Int.eq_ofNat_of_zero_le hv.1
        obtain ⟨n, rfl⟩ := Int.eq_ofNat_of_zero_le hv.2.2.1
        have hm : m ≤ 256 := by omega
        have hn' : n ≤ 256 := by omega
        clear hv
        go_wp2_with fail
        refine (New_yes m n hm hn' _).mono ?_
        rintro e w1 ⟨p, bw, bm, F, rfl, hM, hF, hu1⟩
        clear hM hF
        go_wp2_with fail
        refine (RNew_yes m n hm hn' _).mono ?_
        rintro e w2 ⟨pr, br, G, rfl, hM, hF, hu2⟩
        clear hM hF
        go_wp2_with fail
        go_meet
        case rel => exact ⟨rfl, (hu0.trans hu1 (by simp)).trans hu2 (by simp)⟩
      · have HV := Lib.hid hv; clear hv
        go_wp2_with fail
        refine (New_no m n HV.out _).mono ?_
        rintro e w1 ⟨rfl, rfl⟩
        go_wp2_with fail
        refine (RNew_no m n HV.out _).mono ?_
        rintro e w1 ⟨rfl, rfl⟩
        go_wp2_with fail
        go_meet
        case rel => exact ⟨rfl, hu0⟩
    case rest =>
      obtain ⟨rfl, huc⟩ := hcut
      clear hu0
      go_wp2_with fail
      refine (New_yes 4 4 (by omega) (by omega) _).mono ?_
      rintro e w1 ⟨p, bw, bm, F, rfl, hM, hF, hu1⟩
      have HM := Lib.hid hM; have HF := Lib.hid hF; clear hM hF
      go_wp2_with fail
      refine (RNew_yes 4 4 (by omega) (by omega) _).mono ?_
      rintro e w2 ⟨pr, br, G, rfl, hMr, hG, hu2⟩
      have HB : Hid (Both w p bw bm pr br 0 (zeroSt 4 4) w2) := ⟨F, G, HM.out.stay hu2, hMr, four_zero, fun x hx => Nat.le_trans huc.size (HF.out x hx), fun x hx => Nat.le_trans (Nat.le_trans huc.size hu1.size) (hG x hx), fun x hx hx' => by have := HM.out.lt x hx; have := hG x hx'; omega, (huc.trans hu1 (by simp)).trans hu2 (by simp)⟩
      clear hMr hG HM HF
      go_wp2_with fail
      go_loopg [10] rs.length (fun g i wr => BoRel w p bw bm pr br rs.length g i wr)
      case atStart => exact ⟨0, zeroSt 4 4, rfl, by omega, HB.out⟩
      case round =>
        obtain ⟨k, s, rfl, hkg, hB⟩ := hrel
        have HBk := Lib.hid hB; clear hB
        by_cases hk : k < rs.length
        · obtain ⟨F, G, hM, hRM, h4, hF, hG, hd, hU⟩ := HBk.out
          have HMk := Lib.hid hM; have HRk := Lib.hid hRM; have H4 := Lib.hid h4; have HF := Lib.hid hF; have HG := Lib.hid hG; have HD := Lib.hid hd; have HU := Lib.hid hU
          clear hM hRM h4 hF hG hd hU
          obtain ⟨hok, bl, off, rfl, c0, c1, c2, c3, c4⟩ := (HR.out.keep HU.out) k hk
          obtain ⟨k0, k1, t0, t1, i0, i1⟩ := hok
          go_wp2_with fail
          refine (Op_any _ _ _ _ _ ⟨k0, k1⟩ ⟨t0, t1⟩ ⟨i0, i1⟩ _).mono ?_
          rintro e w3 ⟨rfl, hu3⟩
          clear c0 c1 c2 c3 c4
          have kk0 : 1 ≤ rs[k].k % 7 + 1 ∧ rs[k].k % 7 + 1 ≤ 7 := by omega
          have tt0 : 0 ≤ rs[k].t % 4 := by omega
          clear k0 k1 t0 t1 i0 i1
          generalize rs[k].k % 7 + 1 = kk at *
          generalize rs[k].t % 4 = tt at *
          generalize rs[k].i % 6 - 1 = ii at *
          generalize rs[k].a = aa at *
          generalize rs[k].b = bb at *
          go_wp2_with fail
          have hu3' := hu3.alloc (.cells #[.int .i64 kk, .int .i64 tt, .int .i64 ii, .int .i64 aa, .int .i64 bb] 29)
          have hob := heap_alloc1 w3 (.cells #[.int .i64 kk, .int .i64 tt, .int .i64 ii, .int .i64 aa, .int .i64 bb] 29)
          refine (do_any (HMk.out.stay hu3') (H4.out.small (by omega)) kk tt ii aa bb kk0).mono ?_
          rintro e w4 ⟨rfl, F4, hM4, hG4⟩
          have hob4 := hG4.1.at hob (fun hx => by have := HMk.out.lt _ hx; have := hu3.size; omega)
          have d0 := cell_block hob4 0
          have d1 := cell_block hob4 1
          have d2 := cell_block hob4 2
          have d3 := cell_block hob4 3
          have d4 := cell_block hob4 4
          simp only [List.getElem?_toArray, List.getElem?_cons_zero, List.getElem?_cons_succ] at d0 d1 d2 d3 d4
          have hR4 := (HRk.out.stay hu3').keep hG4.1 (fun x hx hx' => HD.out x hx' hx)
          have HM4 := Lib.hid hM4; have HR4 := Lib.hid hR4
          clear hob hob4 hM4 hR4
          go_wp2_with fail
          refine (Do_step HR4.out H4.out (by omega) kk tt ii aa bb kk0 tt0).mono ?_
          rintro e w5 ⟨rfl, G5, hR5, hG5⟩
          clear d0 d1 d2 d3 d4
          have hF4 : ∀ x ∈ F4, x ∉ G := fun x hx hx' => (hG4.2 x hx).elim (fun h => HD.out x h hx') (fun h => by have := HRk.out.lt x hx'; have := hu3'.size; omega)
          have hM5 := HM4.out.keep hG5.1 hF4
          have HB5 : Hid (Both w p bw bm pr br (k + 1) (s.step ⟨kk, tt, ii, aa, bb⟩).1 w5) := by
            refine ⟨F4, G5, hM5, hR5, H4.out.step _ tt0, ?_, ?_, ?_, ?_⟩
            · exact fun x hx => (hG4.2 x hx).elim (HF.out x) (fun h => Nat.le_trans (Nat.le_trans HU.out.size hu3'.size) h)
            · exact fun x hx => (hG5.2 x hx).elim (HG.out x) (fun h => Nat.le_trans (Nat.le_trans (Nat.le_trans HU.out.size hu3'.size) hG4.1.size) h)
            · exact fun x hx hx' => (hG5.2 x hx').elim (hF4 x hx) (fun h => by have := HM4.out.lt x hx; omega)
            · exact ((HU.out.trans hu3' (by simp)).trans hG4.1 (fun x hx hl => absurd (HF.out x hx) (by omega))).trans hG5.1 (fun x hx hl => absurd (HG.out x hx) (by omega))
          clear hR5 hM5 hF4
          generalize (s.step ⟨kk, tt, ii, aa, bb⟩).2.1 = xx at *
          generalize (s.step ⟨kk, tt, ii, aa, bb⟩).2.2 = ok at *
          go_wp2_with fail
          go_roundg (gk - 1)
          case measure => omega
          case rel => exact ⟨k + 1, _, by go_num, by omega, HB5.out⟩
        · have hk200 : k ≤ 200 := by omega
          have hsm := ((HBk.out).choose_spec.choose_spec.2.2.1).small (by omega)
          go_wp2_with fail
          go_loopg [16] 4 (fun g i wy => ∃ k3 : Nat, i = .int .i64 (k3 : Nat) ∧ k3 + g = 4 ∧ Both w p bw bm pr br k s wy)
          case atStart => exact ⟨0, rfl, rfl, HBk.out⟩
          case round =>
            obtain ⟨k3, rfl, hk3, hB⟩ := hrel
            have HBy := Lib.hid hB; clear hB
            obtain ⟨F, G, hM, hRM, h4, hF, hG, hd, hU⟩ := HBy.out
            have HMy := Lib.hid hM; have HRy := Lib.hid hRM
            have hw4 := h4.ws
            have hm4 := h4.ms
            have HW4 := Lib.hid hw4; have HM4 := Lib.hid hm4
            clear hM hF hG hd h4 hw4 hm4
            by_cases hk34 : k3 < 4
            · have hkw : k3 < s.ws.length := by rw [HW4.out]; exact hk34
              have hkm : k3 < s.ms.length := by rw [HM4.out]; exact hk34
              have hwl := hsm.ws
              have hml := hsm.ms
              obtain ⟨z0, _⟩ := hRM.cells
              have z1 := hRM.word hkw
              obtain ⟨g, c, z2, z3, _, _, _⟩ := hRM.held hkm
              clear hRM
              go_wp2_with fail
              go_region_held3 (fun wz => wz.cell? ⟨pr, 0, none⟩ = some (.slice (some ⟨br, 0, none⟩) s.ws.length s.ws.length) ∧ wz.cell? ⟨br, k3, none⟩ = some (.int .i64 s.ws[k3]) ∧ wz.cell? ⟨pr, 1, none⟩ = some (.slice (some ⟨g, 0, none⟩) s.ms.length c) ∧ wz.cell? ⟨g, k3, none⟩ = some (.int .i64 (hold s.ms[k3]))) (first | exact ⟨z0, z1, z2, z3⟩ | exact ⟨hu.cell z0 (by simp), hu.cell z1 (by simp), hu.cell z2 (by simp), hu.cell z3 (by simp)⟩) (first | (go_at_call 15; refine (Word_in (HMy.out.stay (Upd.refl [] _).drew) hsm k3 hkw).mono ?_; rintro e w' ⟨rfl, rfl⟩) | (go_at_call 16; refine (Holder_in (HMy.out.stay (Upd.refl [] _).drew) hsm k3 hkm).mono ?_; rintro e w' ⟨rfl, hu⟩))
              all_goals
                go_wp2_with fail
                go_roundg (3 - k3)
                case measure => omega
                case rel => exact ⟨k3 + 1, by go_num, by omega, HBy.out.stay ((Upd.refl [] _).drew.trans hu (by simp))⟩
            · obtain rfl : k3 = 4 := by omega
              obtain ⟨vl, zz, hol⟩ := hRM.log
              obtain ⟨vb, vbc, rfl, hlb⟩ := lgAt_of hol
              obtain ⟨_, z3⟩ := hRM.cells
              have HLB := Lib.hid hlb; have HUy := Lib.hid hU
              have hlog := hsm.big
              clear hol hlb hRM hU
              go_wp2_with fail
              go_region_held3 (fun wz => wz.cell? ⟨pr, 2, none⟩ = some (.slice vb s.log.length vbc) ∧ wz.cell? ⟨pr, 3, none⟩ = some (.int .i64 s.v)) (first | exact ⟨zz, z3⟩ | exact ⟨hL.cell zz (by simp), hL.cell z3 (by simp)⟩ | exact ⟨hS.cell (hL.cell zz (by simp)) (by simp), hS.cell (hL.cell z3 (by simp)) (by simp)⟩ | exact ⟨hH.cell (hS.cell (hL.cell zz (by simp)) (by simp)) (by simp), hH.cell (hS.cell (hL.cell z3 (by simp)) (by simp)) (by simp)⟩) (first | (go_at_call 18; refine (Log_any (HMy.out.stay (Upd.refl [] _).drew) hsm).mono ?_; rintro e wL ⟨v, rfl, ho, hL⟩; obtain ⟨va, vc, rfl, hla⟩ := lgAt_of ho; have HLA := Lib.hid hla; clear ho hla) | (go_at_call 17; refine (Same_any va vb vc vbc s.log _ HLA.out (HLB.out.keep ((Upd.refl [] wr).drew.trans hL (by simp))) hlog).mono ?_; rintro e wS ⟨rfl, hS⟩) | (go_at_call 19; refine (Violations_any (HMy.out.stay (((Upd.refl [] wr).drew.trans hL (by simp)).trans hS (by simp)))).mono ?_; rintro e w' ⟨rfl, rfl⟩) | (go_at_call 15; refine (Word_out (HMy.out.stay (((Upd.refl [] wr).drew.trans hL (by simp)).trans hS (by simp))) hsm _ (by rw [HW4.out]; omega)).mono ?_; rintro e w' ⟨rfl, rfl⟩) | (go_at_call 16; refine (Holder_out (HMy.out.stay (((Upd.refl [] wr).drew.trans hL (by simp)).trans hS (by simp))) hsm _ (by rw [HM4.out]; omega)).mono ?_; rintro e wH ⟨rfl, hH⟩))
              all_goals
                go_wp2_with fail
                go_ret
                exact ⟨rfl, (((HUy.out.drew).trans hL (by simp)).trans hS (by simp)).trans hH (by simp)⟩
end Go.Proofs.Ytbalfkdeemgclaa
