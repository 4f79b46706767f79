/- RungOrder: the law's walk. -/
import Derived.Test.YtmfijhophaeljaaUU
namespace Go.Proofs.Ytmfijhophaeljaa
open Go.RowKit Go.Lib

/-- The law's loop: i rounds are over, the last item was at last. -/
structure OrdAt (w : World) (P : Nat) (i : Nat) (last : Int) (r : RgR) (wr : World) : Prop where
  good : GoodR r.rg
  cu : (i : Int) ≤ r.cu
  len : lenL r.rg.bs ≤ 100
  lo : -1 ≤ last
  lt : last < curT r.rg
  bx : InBox P r wr
  av : AvR r P
  upd : Upd [] w wr
  pw : w.heap.size ≤ P
theorem ord_no {r : Rg} (h : (nextR r).2.2.2 = false) : lenL r.bs = 0 ∧ (nextR r).2.1 = [] := by
  rcases nextR_cases r with ⟨i, _, _, _, e⟩ | ⟨h0, e⟩
  · rw [e] at h; simp at h
  · rw [e]; exact ⟨lenL_zero h0, rfl⟩
theorem ord_yes {r : Rg} (hg : GoodR r) (h : (nextR r).2.2.2 = true) : (nextR r).2.1 ≠ [] ∧ r.cu + 1 ≤ (nextR r).1.cu ∧ r.cu + 1 ≤ 8 ∧ curT r ≤ (nextR r).2.2.1 ∧ (nextR r).2.2.1 ≤ 2305843009213693960 ∧ curT (nextR r).1 = (nextR r).2.2.1 + r.wd ∧ ∀ it ∈ (nextR r).2.1, (nextR r).2.2.1 ≤ it.t ∧ it.t < (nextR r).2.2.1 + r.wd := by
  rcases nextR_cases r with ⟨i, hi, hne, _, e⟩ | ⟨_, e⟩
  · rw [e]
    have h8 : i < 8 := by rw [hg.len] at hi; exact hi
    have hp := hg.prod (i := i) (by omega) (by omega)
    have h1 := hg.fr0; have h2 := hg.fr1; have h3 := hg.wd1; have h4 := hg.wd0
    have hc : r.cu ≤ (i : Int) := by
      apply Classical.byContradiction
      intro hlt
      exact hne (hg.low i h8 (by omega))
    have hm : ((i : Int) + 1) * r.wd = (i : Int) * r.wd + r.wd := by rw [Int.add_mul]; omega
    have hmm := mul_mono (a := r.cu) (b := (i : Int)) (w := r.wd) hc h4
    refine ⟨hne, by simp only [takeR]; omega, by omega, by simp only [curT]; omega, by simp only; omega, by simp only [curT, takeR]; omega, fun it hit => ?_⟩
    have hb := hg.inb i h8 it hit
    exact ⟨hb.1, by have := hb.2; simp only; omega⟩
  · rw [e] at h; simp at h
theorem OrdAt.step {w wr w2 w5 : World} {P : Nat} {i : Nat} {last high : Int} {r r' : RgR} (h : OrdAt w P i last r wr) (hok : (nextR r.rg).2.2.2 = true) (hN : Nxt wr r (nextR r.rg).1 w2 r') (hu : Upd [P] w2 w5) (hb : w5.heap[P]? = some (.cells (cellsR r') 24 (0, 0))) (h1 : -1 ≤ high) (h2 : high < (nextR r.rg).2.2.1 + r.wd) : OrdAt w P (i + 1) high r' w5 := by
  obtain ⟨_, q2, _, _, _, q6, _⟩ := ord_yes h.good hok
  have hPP := hN.av P (lt_block h.bx.1) h.av
  have e := hN.eq
  refine ⟨by rw [e]; exact h.good.next, ?_, ?_, h1, ?_, ⟨hb, hN.has.keep1 hu hPP⟩, hPP, (h.upd.thn hN.upd).new hu h.pw, h.pw⟩
  · have h3 : r'.cu = (nextR r.rg).1.cu := congrArg Rg.cu e
    have h4 : (r.rg).cu = r.cu := rfl
    have := h.cu
    omega
  · rw [e]; have h3 := next_len r.rg; have h4 := h.len; omega
  · rw [e, q6]; exact h2
set_option maxRecDepth 100000 in
set_option maxHeartbeats 8000000 in
theorem Order_any (x0 x1 : Int) (la : Option Addr) (lc : Nat) (os : List Oz)  (w : World) (h0 : U64 x0) (h1 : U64 x1) (hlm : os.length ≤ maxLen) (ho : Row LO w la os) (hoa : ∀ o ∈ os, U64 o.a) :
    Calls Try.prog 5 #[.int .u64 x0, .int .u64 x1, .slice la os.length lc] w fun e w' => e = .returned (.bool true) ∧ Upd [] w w' := by
  have HHD := Lib.hid head_true
  have HMD := Lib.hid (fun W (hu : Upd [] w W) => Made_has x0 x1 la lc os W h0 h1 (ho.stay hu) hoa (by simp only [maxLen] at hlm; omega))
  have hmg := made_good h0 h1 os
  have HMG := Lib.hid hmg.1; have HML := Lib.hid hmg.2
  generalize madeR x0 x1 os = g at *
  generalize os.length = L at *
  clear h0 h1 hlm ho hoa hmg
  have HUW : Hid (Upd [] w w) := Upd.refl [] w
  go_enter Try.func5, Try.ntmps5
  go_upto_region 2 with (go_at_call 8; (with_reducible refine (HHD.out _).mono ?_); rintro e W1 ⟨rfl, hu0⟩)
  replace HUW := Lib.hid (HUW.out.thn hu0)
  clear hu0 HHD
  go_upto_region 3 with (go_at_call 10; (with_reducible refine (HMD.out _ HUW.out).mono ?_); rintro e w1 ⟨⟨f1, d1, u1, l1, a1, c1⟩, rfl, hN1⟩; unfold encR)
  have HE1 : Hid (Std ⟨f1, d1, u1, ⟨l1, a1, c1⟩⟩ g) := ⟨hN1.eq, HMG.out, by have := HML.out; omega⟩
  have hav1 : AvR ⟨f1, d1, u1, ⟨l1, a1, c1⟩⟩ w1.heap.size := hN1.has.avoids (Nat.le_refl _)
  have hpw : w.heap.size ≤ w1.heap.size := Nat.le_trans HUW.out.size hN1.upd.size
  have HAV := Lib.hid hav1; have HPW := Lib.hid hpw
  clear hav1 hpw
  have hal := (Upd.refl [] w1).alloc (.cells #[.int .i64 f1, .int .i64 d1, .int .i64 u1, .slice a1 l1.length c1] 24)
  have hIB : InBox w1.heap.size ⟨f1, d1, u1, ⟨l1, a1, c1⟩⟩ (w1.alloc (.cells #[.int .i64 f1, .int .i64 d1, .int .i64 u1, .slice a1 l1.length c1] 24)) := ⟨heap_alloc1 _ _, hN1.has.stay hal⟩
  have hu1 := hN1.upd.thn hal
  have HB1 := Lib.hid hIB
  generalize w1.alloc (.cells #[.int .i64 f1, .int .i64 d1, .int .i64 u1, .slice a1 l1.length c1] 24) = W2 at *
  generalize w1.heap.size = P1 at *
  replace HUW := Lib.hid (HUW.out.thn hu1)
  clear hal hIB hu1
  clear hN1 HMD
  have HLEN := Lib.hid (fun V (hv : Upd [] W2 V) => Len_has ⟨f1, d1, u1, ⟨l1, a1, c1⟩⟩ V (HB1.out.2.stay hv) HE1.out.n (by have := HE1.out.l; omega) HE1.out.m)
  
  unfold encR at HLEN
  simp only at HLEN
  obtain ⟨b10, b11, b12, b13⟩ := cells4 (show W2.heap[P1]? = some (.cells #[.int .i64 f1, .int .i64 d1, .int .i64 u1, .slice a1 l1.length c1] 24 (0, 0)) from HB1.out.1)
  go_upto_region 4 with (go_at_call 24; (with_reducible refine (HLEN.out _ (Upd.refl [] _)).mono ?_); rintro e W3 ⟨rfl, huL⟩)
  clear b10 b11 b12 b13
  replace HB1 := Lib.hid (HB1.out.stay huL)
  replace HUW := Lib.hid (HUW.out.thn huL)
  clear huL HLEN
  have HO0 : Hid (OrdAt w P1 0 (-1) ⟨f1, d1, u1, ⟨l1, a1, c1⟩⟩ W3) := ⟨HE1.out.g, by have := HE1.out.g.cu0; exact this, by rw [HE1.out.eq]; exact HML.out, by decide, by have := HE1.out.g.times; omega, HB1.out, HAV.out, HUW.out, HPW.out⟩
  go_wp2_with fail
  go_loopg [9, 10, 11] 8 (fun gk vn vl vi wr => ∃ (i : Nat) (last : Int) (r : RgR), vn = .int .i64 (lenL r.rg.bs : Nat) ∧ vl = .int .i64 last ∧ vi = .int .i64 i ∧ i + gk = 8 ∧ Hid (OrdAt w P1 i last r wr))
  case atStart => exact ⟨0, -1, _, rfl, rfl, rfl, by omega, HO0⟩
  case round =>
    obtain ⟨i, last, r, rfl, rfl, rfl, hig, HO⟩ := hrel
    have hi9 : (i : Int) < 9 := by omega
    have hi9n : decide (i < 9) = true := by simp; omega
    have hP2 := Next_has r wr HO.out.bx.2 HO.out.good (by have := HO.out.len; omega)
    have HNO := Lib.hid (ord_no (r := r.rg))
    have HYE := Lib.hid (ord_yes HO.out.good)
    have HSTP := Lib.hid (fun (r' : RgR) w2 w5 high hok hN hu hb h1 h2 => HO.out.step (r' := r') (w2 := w2) (w5 := w5) (high := high) hok hN hu hb h1 h2)
    have HNL := Lib.hid (next_len r.rg)
    have hlo := HO.out.lo; have hlt := HO.out.lt; have htm := HO.out.good.times; have hw0 := HO.out.good.wd0; have hw1 := HO.out.good.wd1; have hll := HO.out.len; have hcu := HO.out.cu; have hcu8 := HO.out.good.cu1
    have bx := HO.out.bx.1
    obtain ⟨f2, d2, u2, l2, a2, c2⟩ := r
    have hgw : (⟨f2, d2, u2, ⟨l2, a2, c2⟩⟩ : RgR).rg.wd = d2 := rfl
    have hgu : (⟨f2, d2, u2, ⟨l2, a2, c2⟩⟩ : RgR).rg.cu = u2 := rfl
    rw [hgw] at hw0 hw1 HYE
    simp only at HSTP
    rw [hgu] at hcu8 HYE
    simp only at hcu
    simp only [cellsR] at bx
    unfold encR at hP2
    simp only at hP2
    obtain ⟨rg, hrg⟩ : ∃ rg, rg = (⟨f2, d2, u2, ⟨l2, a2, c2⟩⟩ : RgR).rg := ⟨_, rfl⟩
    rw [← hrg] at hP2 HNO HYE HSTP HNL hlt htm hll ⊢
    obtain ⟨nx, hnx⟩ : ∃ nx, nx = nextR rg := ⟨_, rfl⟩
    rw [← hnx] at hP2 HNO HYE HSTP HNL
    have HP2 := Lib.hid hP2; have HBX := Lib.hid bx
    clear hP2 hrg hnx hgw hgu
    obtain ⟨b20, b21, b22, b23⟩ := cells4 bx
    clear bx
    go_upto_region 9 with (go_at_call 14; (with_reducible refine HP2.out.mono ?_); rintro e w3 ⟨⟨f3, d3, u3, l3, a3, c3⟩, ⟨sl3, sa3, sc3⟩, rfl, hN3, hG3⟩; unfold encR)
    have hal := (Upd.refl [] w3).alloc (.cells #[.int .i64 f3, .int .i64 d3, .int .i64 u3, .slice a3 l3.length c3] 24)
    have hN4 := hN3.up hal
    have b3 := heap_alloc1 w3 (.cells #[.int .i64 f3, .int .i64 d3, .int .i64 u3, .slice a3 l3.length c3] 24)
    have hs3 := hG3.has.stay hal
    have HSL : Hid (sl3 = nx.2.1) := hG3.eq
    have hP3 : w3.heap.size ≠ P1 := by have h1 := lt_block HBX.out; have h2 := hN3.upd.size; omega
    generalize w3.alloc (.cells #[.int .i64 f3, .int .i64 d3, .int .i64 u3, .slice a3 l3.length c3] 24) = W4 at *
    generalize w3.heap.size = P3 at *
    have HN4 := Lib.hid hN4; have HB3 := Lib.hid b3; have HS3 := Lib.hid hs3
    have HBX4 := Lib.hid (hN4.upd.at HBX.out (by simp))
    clear b20 b21 b22 b23 hN3 hG3 hal hN4 b3 hs3 HP2
    have HUW4 : Hid (Upd [] w W4) := HO.out.upd.thn HN4.out.upd
    obtain ⟨m, hm⟩ : ∃ m, m = sl3.length := ⟨_, rfl⟩
    have HM := Lib.hid hm
    rw [← hm]
    clear hm
    by_cases hok : nx.2.2.2 = true
    case neg =>
      have hok : nx.2.2.2 = false := by simpa using hok
      obtain ⟨q1, q2⟩ := HNO.out hok
      rw [hok, q1]
      have hm0 : m = 0 := by rw [HM.out, HSL.out, q2]; rfl
      subst hm0
      clear q1 q2 hok
      go_wp2_with fail
      go_ret
      exact ⟨rfl, HUW4.out⟩
    obtain ⟨q1, q2, q3, q4, q5, q6, q7⟩ := HYE.out hok
    have HSTP2 := Lib.hid (fun r' w2 w5 high => HSTP.out r' w2 w5 high hok)
    rw [hok]
    have hm0 : 0 < m := by rw [HM.out, HSL.out]; exact List.length_pos_iff.2 q1
    have hmle : m ≤ 100 := by rw [HM.out, HSL.out]; have := HNL.out; omega
    have HIT : Hid (∀ k (hk : k < sl3.length), nx.2.2.1 ≤ sl3[k].t ∧ sl3[k].t < nx.2.2.1 + d2) := fun k hk => q7 _ (by rw [← HSL.out]; exact List.getElem_mem hk)
    have HLN : Hid ((lenL nx.1.bs : Int) = (lenL rg.bs : Int) - (m : Int)) := by
      show _ = _
      rw [HM.out, HSL.out]
      have := HNL.out
      omega
    have hi8 : i + 1 ≤ 8 := by omega
    have z0 : (m == 0) = false := by simp; omega
    have z1 : ((m : Int) == 0) = false := by simp; omega
    have z2 : IntKind.i64.wrap (last - d2) = last - d2 := by rw [IntKind.wrap_i64]; omega
    have z3 : decide (nx.2.2.1 ≤ last - d2) = false := by simp; omega
    have z4 : IntKind.i64.wrap (nx.2.2.1 + d2) = nx.2.2.1 + d2 := by rw [IntKind.wrap_i64]; omega
    have z5 : IntKind.i64.wrap ((lenL rg.bs : Int) - (m : Int)) = (lenL rg.bs : Int) - (m : Int) := by rw [IntKind.wrap_i64]; omega
    have hst0 : last < nx.2.2.1 := by omega
    have hlo2 : last < nx.2.2.1 + d2 := by omega
    obtain ⟨b20, b21, b22, b23⟩ := cells4 HBX4.out
    clear b20 b22 b23 q1 q2 q3 q4 q6 q7 hok hlt htm hcu hcu8 HNO HYE HSTP HNL
    generalize nx.2.2.1 = st at *
    go_upto_region 15 with (fail)
    go_loopg [16, 17] m (fun gj vh vk wi => ∃ (k : Nat) (high : Int), vh = .int .i64 high ∧ vk = .int .i64 k ∧ k + gj = m ∧ Hid (-1 ≤ high ∧ high < st + d2) ∧ Hid (Upd [] W4 wi))
    case atStart => exact ⟨0, last, rfl, rfl, by omega, ⟨hlo, hlo2⟩, Lib.hid (Upd.refl _ _)⟩
    case round =>
      obtain ⟨k, high, rfl, rfl, hkg, HH, HUI⟩ := hrel
      by_cases hkm : k < m
      · have hkz : (k : Int) < (m : Int) := by omega
        have hk1 : k < sl3.length := by have := HM.out; omega
        obtain ⟨b, off, hbo, k0, k1, k2⟩ := (HS3.out.stay HUI.out).row.item k hk1
        simp only at hbo k0
        subst hbo
        have hit := HIT.out k hk1
        generalize sl3[k].t = t at *
        clear k1 k2
        have y0 : decide (t ≤ last) = false := by simp; omega
        have y1 : decide (t < st) = false := by simp; omega
        have y2 : decide (st + d2 ≤ t) = false := by simp; omega
        have HY : Hid (-1 ≤ max high t ∧ max high t < st + d2) := by
          have h1 := HH.out.1; have h2 := HH.out.2
          have h3 := hit.1; have h4 := hit.2
          show _ ∧ _
          rw [Int.max_def]
          split
          · exact ⟨by omega, by omega⟩
          · exact ⟨h1, h2⟩
        have e1 := HUI.out.cell b21 (by simp)
        have j0 := kept_at k0; have j1 := kept_at e1
        clear hit e1
        go_upto_region 17 with (fail)
        refine wp_region_quiet_kept mixed (by kernel_rfl) ?_
        repeat (go_big_quiet_step (fail))
        refine wpQuiet_nil ?_
        intro V3 hw'
        obtain ⟨⟨Vx, huq⟩, hw''⟩ := hw'
        simp only at hw''
        subst hw''
        have k0 := huq.cell k0 (by simp)
        have HUI2 := Lib.hid (HUI.out.thn huq)
        clear j0 j1 huq
        go_wp2_with fail
        go_roundg (m - (k + 1))
        case measure => omega
        case rel => exact ⟨k + 1, max high t, rfl, by go_num, by omega, HY, HUI2⟩
      · have hkz : ¬ (k : Int) < (m : Int) := by omega
        have HBXI := Lib.hid (HUI.out.at HBX4.out (by simp))
        have HB3I := Lib.hid (HUI.out.at HB3.out (by simp))
        have hNI := HN4.out.up HUI.out
        obtain ⟨q0, q1, q2, q3⟩ := cells4 HBXI.out
        obtain ⟨x0, x1, x2, x3⟩ := free4 HBXI.out
        obtain ⟨s0, s1, s2, s3⟩ := cells4 HB3I.out
        have HNI := Lib.hid hNI
        have HEQ : Hid ((⟨f3, d3, u3, ⟨l3, a3, c3⟩⟩ : RgR).rg = nx.1) := hNI.eq
        clear hNI b21
        go_upto_region 7 with (fail)
        have pf := stored4 HBXI.out (.int .i64 f3) (.int .i64 d3) (.int .i64 u3) (.slice a3 l3.length c3)
        have hU5 := upd_set4 wr P1 (.int .i64 f3) (.int .i64 d3) (.int .i64 u3) (.slice a3 l3.length c3)
        generalize ((((wr.setCell ⟨P1, 0, none⟩ (.int .i64 f3)).setCell ⟨P1, 1, none⟩ (.int .i64 d3)).setCell ⟨P1, 2, none⟩ (.int .i64 u3)).setCell ⟨P1, 3, none⟩ (.slice a3 l3.length c3)) = w5 at pf hU5 ⊢
        have HO2 := Lib.hid (HSTP2.out ⟨f3, d3, u3, ⟨l3, a3, c3⟩⟩ _ w5 high HNI.out hU5 pf HH.out.1 HH.out.2)
        clear q0 q1 q2 q3 x0 x1 x2 x3 s0 s1 s2 s3 pf hU5
        go_wp2_with fail
        go_roundg (8 - (i + 1))
        case measure => omega
        case rel => exact ⟨i + 1, high, _, by rw [HEQ.out, HLN.out], rfl, by go_num, by omega, HO2⟩
end Go.Proofs.Ytmfijhophaeljaa
