/- Contract: the reference's Valid. -/
import Derived.Test.YtneodiemgemhfaaGreatUG
namespace Go.Proofs.YtneodiemgemhfaaGreat
open Go.RowKit Go.Lib

set_option maxRecDepth 100000 in
set_option maxHeartbeats 8000000 in
theorem RValid_has (r : RgR) (w : World) (ha : HasR w r) (hl : r.bk.l.length ≤ 1000000) (hs : ∀ s ∈ r.bk.l, s.l.length ≤ 1000000) :
    Calls Tryz.prog 41 #[encR r] w fun e w' => e = .returned (.bool (validR r.rg)) ∧ Upd [] w w' := by
  obtain ⟨fr, wd, cu, bl, ba, bc⟩ := r
  have HA := Lib.hid ha
  have HSL := Lib.hid hs
  unfold encR
  simp only at hl HSL
  obtain ⟨g, hg⟩ : ∃ g, g = (⟨fr, wd, cu, ⟨bl, ba, bc⟩⟩ : RgR).rg := ⟨_, rfl⟩
  have HG1 : Hid (g.fr = fr) := by rw [hg]; exact Lib.hid rfl
  have HG2 : Hid (g.wd = wd) := by rw [hg]; exact Lib.hid rfl
  have HG3 : Hid (g.cu = cu) := by rw [hg]; exact Lib.hid rfl
  have HG4 : Hid (g.bs = rowsOf bl) := by rw [hg]; exact Lib.hid rfl
  rw [← hg]
  clear ha hs hg
  simp only
  generalize hn : bl.length = n at hl ⊢
  have HN := Lib.hid hn
  have HG5 : Hid (g.bs.length = n) := by show _ = _; rw [HG4.out, rowsOf_length, HN.out]
  clear hn
  have HSN : Hid (¬ (0 ≤ fr ∧ fr ≤ 1152921504606846976 ∧ 1 ≤ wd ∧ wd ≤ 144115188075855873 ∧ 0 ≤ cu ∧ cu ≤ 8 ∧ n = 8) → false = validR g) := fun h => bad_shp (fun k => h ⟨HG1.out ▸ k.fr0, HG1.out ▸ k.fr1, HG2.out ▸ k.wd0, HG2.out ▸ k.wd1, HG3.out ▸ k.cu0, HG3.out ▸ k.cu1, HG5.out ▸ k.len⟩)
  have HSY : Hid ((0 ≤ fr ∧ fr ≤ 1152921504606846976 ∧ 1 ≤ wd ∧ wd ≤ 144115188075855873 ∧ 0 ≤ cu ∧ cu ≤ 8 ∧ n = 8) → Shp g) := fun ⟨h1, h2, h3, h4, h5, h6, h7⟩ => ⟨HG1.out.symm ▸ h1, HG1.out.symm ▸ h2, HG2.out.symm ▸ h3, HG2.out.symm ▸ h4, HG3.out.symm ▸ h5, HG3.out.symm ▸ h6, HG5.out.symm ▸ h7⟩
  go_enter Tryz.func41, Tryz.ntmps41
  go_upto_region 1 with (fail)
  have hu := (Upd.refl [] w).alloc (.cells #[.int .i64 fr, .int .i64 wd, .int .i64 cu, .slice ba n bc] 53)
  obtain ⟨c0, c1, c2, c3⟩ := cells4 (heap_alloc1 w (.cells #[.int .i64 fr, .int .i64 wd, .int .i64 cu, .slice ba n bc] 53))
  generalize w.alloc (.cells #[.int .i64 fr, .int .i64 wd, .int .i64 cu, .slice ba n bc] 53) = W at *
  generalize w.heap.size = H at *
  have HU := Lib.hid hu
  clear hu
  by_cases q0 : fr < 0
  · have d0 : decide (fr < 0) = true := by simpa using q0
    have HX := Lib.hid (HSN.out (by omega))
    go_wp2_with fail
    go_ret
    exact ⟨ret_valid HX.out, HU.out⟩
  have d0 : decide (fr < 0) = false := by simpa using q0
  by_cases q1 : 1152921504606846976 < fr
  · have d1 : decide (1152921504606846976 < fr) = true := by simpa using q1
    have HX := Lib.hid (HSN.out (by omega))
    go_wp2_with fail
    go_ret
    exact ⟨ret_valid HX.out, HU.out⟩
  have d1 : decide (1152921504606846976 < fr) = false := by simpa using q1
  by_cases q2 : wd < 1
  · have d2 : decide (wd < 1) = true := by simpa using q2
    have HX := Lib.hid (HSN.out (by omega))
    go_wp2_with fail
    go_ret
    exact ⟨ret_valid HX.out, HU.out⟩
  have d2 : decide (wd < 1) = false := by simpa using q2
  by_cases q3 : 144115188075855873 < wd
  · have d3 : decide (144115188075855873 < wd) = true := by simpa using q3
    have HX := Lib.hid (HSN.out (by omega))
    go_wp2_with fail
    go_ret
    exact ⟨ret_valid HX.out, HU.out⟩
  have d3 : decide (144115188075855873 < wd) = false := by simpa using q3
  by_cases q4 : cu < 0
  · have d4 : decide (cu < 0) = true := by simpa using q4
    have HX := Lib.hid (HSN.out (by omega))
    go_wp2_with fail
    go_ret
    exact ⟨ret_valid HX.out, HU.out⟩
  have d4 : decide (cu < 0) = false := by simpa using q4
  by_cases q5 : 8 < cu
  · have d5 : decide (8 < cu) = true := by simpa using q5
    have HX := Lib.hid (HSN.out (by omega))
    go_wp2_with fail
    go_ret
    exact ⟨ret_valid HX.out, HU.out⟩
  have d5 : decide (8 < cu) = false := by simpa using q5
  by_cases q6 : n = 8
  case neg =>
    have d6 : ((n : Int) != 8) = true := by simp; omega
    have HX := Lib.hid (HSN.out (by omega))
    go_wp2_with fail
    go_ret
    exact ⟨ret_valid HX.out, HU.out⟩
  subst q6
  have HSH := Lib.hid (HSY.out (by omega))
  go_wp2_with fail
  clear d0 d1 d2 d3 d4 d5
  go_loopg [3] 8 (fun gk vi wr => ∃ k : Nat, vi = .int .i64 k ∧ k + gk = 8 ∧ Hid (∀ j, j < k → BOk g j) ∧ Hid (Upd [] W wr))
  case atStart => exact ⟨0, rfl, by omega, fun j hj => by omega, Lib.hid (Upd.refl _ _)⟩
  case round =>
    obtain ⟨k, rfl, hkg, HK, HUR⟩ := hrel
    have m0 := HUR.out.cell c0 (by simp); have m1 := HUR.out.cell c1 (by simp); have m2 := HUR.out.cell c2 (by simp); have m3 := HUR.out.cell c3 (by simp)
    by_cases hlt : k < 8
    · have hltz : (k : Int) < 8 := by omega
      have hk1 : k < bl.length := by have := HN.out; omega
      have hA3 := HA.out.stay (HU.out.thn HUR.out)
      obtain ⟨b, off, hbo, bk0⟩ := hA3.bk.row.bucket k hk1
      simp only at hbo bk0
      subst hbo
      have hir := hA3.at hk1
      simp only at hir
      have hro := rowsOf_at hk1
      have hbl := HSL.out _ (List.getElem_mem hk1)
      obtain ⟨bi, hbi⟩ : ∃ x, x = bl[k]'hk1 := ⟨_, rfl⟩
      rw [← hbi] at hro bk0 hir hbl
      obtain ⟨il, am, cm⟩ := bi
      have HIR := Lib.hid hir.row
      have HRO : Hid (bAt g.bs k = il) := by show _ = _; rw [HG4.out]; exact hro
      simp only at bk0 hbl HIR
      generalize hlm : il.length = m at *
      have HLM := Lib.hid hlm
      have hirw := (HA.out.stay HU.out).at hk1
      simp only at hirw
      rw [← hbi] at hirw
      have HIRX : Hid (Row LI W am il) := hirw.row
      clear hir hbi hlm hA3 hro hirw HIR
      have HP0 : 0 ≤ (k : Int) * wd := Int.mul_nonneg (by omega) (by omega)
      have HP1 : (k : Int) * wd ≤ 8 * wd := mul_mono (by omega) (by omega)
      have HP2 : ((k : Int) + 1) * wd = (k : Int) * wd + wd := by rw [Int.add_mul]; omega
      have HS0 := Lib.hid (fun W => (RStart_in fr wd k (by omega) (by omega) W).mono (R' := fun e w' => e = .returned (.int .i64 (fr + k * wd)) ∧ Upd [] W w') (fun _ _ h => ⟨h.1, h.2 ▸ Upd.refl _ _⟩))
      have HS1 := Lib.hid (fun W => (RStart_in fr wd (k + 1) (by omega) (by omega) W).mono (R' := fun e w' => e = .returned (.int .i64 (fr + (k + 1) * wd)) ∧ Upd [] W w') (fun _ _ h => ⟨h.1, h.2 ▸ Upd.refl _ _⟩))
      have hwk : IntKind.i64.wrap ((k : Int) + 1) = (k : Int) + 1 := by rw [IntKind.wrap_i64]; omega
      clear HP0 HP1 HP2
      have HBO : Hid (((k : Int) < cu → il = []) → (∀ j (hj : j < il.length), fr + k * wd ≤ il[j].t ∧ il[j].t < fr + (k + 1) * wd) → BOk g k) := fun h1 h2 => bok_of HRO.out (by rw [HG3.out]; exact h1) (fun j hj => by unfold InB; rw [HG1.out, HG2.out]; exact h2 j hj)
      have HNB : Hid (∀ j (hj : j < il.length), ¬ (fr + k * wd ≤ il[j].t ∧ il[j].t < fr + (k + 1) * wd) → false = validR g) := fun j hj h => bad_bok hlt (not_bok2 HRO.out hj (by unfold InB; rw [HG1.out, HG2.out]; exact h))
      have HNC : Hid ((k : Int) < cu → il ≠ [] → false = validR g) := fun h1 h2 => bad_bok hlt (not_bok1 HRO.out (by rw [HG3.out]; exact h1) h2)
      generalize fr + (k : Int) * wd = s0 at *
      generalize fr + ((k : Int) + 1) * wd = s1 at *
      by_cases hkc : (k : Int) < cu ∧ m ≠ 0
      · have e1 : decide ((k : Int) < cu) = true := by simp; omega
        have e2 : decide (0 < m) = true := by simp; omega
        have HX := Lib.hid (HNC.out hkc.1 (fun e => hkc.2 (by rw [← HLM.out, e]; rfl)))
        clear hkc
        go_wp2_with fail
        go_ret
        exact ⟨ret_valid HX.out, HU.out.thn HUR.out⟩
      have HKC : Hid ((k : Int) < cu → il = []) := fun h => List.eq_nil_of_length_eq_zero (by rw [HLM.out]; omega)
      have HIRW : Hid (Row LI W am il) := HIRX
      by_cases hkc2 : (k : Int) < cu
      · have e1 : decide ((k : Int) < cu) = true := by simp; omega
        have e2 : decide (0 < m) = false := by simp; omega
        clear hkc hkc2
        go_wp2_with fail
        go_loopg [5] m (fun gj vj wi => ∃ j : Nat, vj = .int .i64 j ∧ j + gj = m ∧ Hid (∀ i (hi : i < il.length), i < j → s0 ≤ il[i].t ∧ il[i].t < s1) ∧ Hid (Upd [] W wi))
        case atStart => exact ⟨0, rfl, by omega, fun i hi h => by omega, HUR⟩
        case round =>
          obtain ⟨j, rfl, hjg, HJ, HUI⟩ := hrel
          by_cases hjm : j < m
          · have hjz : (j : Int) < (m : Int) := by omega
            have hj1 : j < il.length := by have := HLM.out; omega
            obtain ⟨b1, o1, hbo1, a0, a1, a2⟩ := (HIRW.out.stay HUI.out).item j hj1
            subst hbo1
            clear a1 a2
            have HNJ := Lib.hid (HNB.out j hj1)
            have HOJ : Hid (s0 ≤ il[j].t ∧ il[j].t < s1 → ∀ i (hi : i < il.length), i < j + 1 → s0 ≤ il[i].t ∧ il[i].t < s1) := fun h i hi hij => by
              by_cases hij2 : i = j
              · subst hij2; exact h
              · exact HJ.out i hi (by omega)
            generalize il[j].t = t at *
            have k0 := kept_at (HUI.out.cell c0 (by simp)); have k1 := kept_at (HUI.out.cell c1 (by simp)); have k2 := kept_at (HUI.out.cell c2 (by simp)); have k3 := kept_at (HUI.out.cell c3 (by simp)); have a0 := kept_at a0
            by_cases ht0 : t < s0
            · have g0 : decide (t < s0) = true := by simpa using ht0
              have HX := Lib.hid (HNJ.out (by omega))
              clear ht0
              go_wp2_with fail
              refine wp_region_quiet_kept mixed (by kernel_rfl) ?_
              repeat (go_big_quiet_step (first | (go_at_call 54; with_reducible exact calls_kept (HS0.out _)) | (go_at_call 54; with_reducible exact calls_kept (HS1.out _))))
              refine wpQuiet_nil ?_
              intro W3 hw'
              obtain ⟨⟨Wx, hu⟩, hw''⟩ := hw'
              simp only at hw''
              subst hw''
              have HU2 : Hid (Upd [] W W3) := HUI.out.thn hu
              clear k0 k1 k2 k3 a0 hu
              go_wp2_with fail
              go_ret
              exact ⟨ret_valid HX.out, HU.out.thn HU2.out⟩
            have g0 : decide (t < s0) = false := by simpa using ht0
            by_cases ht1 : s1 ≤ t
            · have g1 : decide (s1 ≤ t) = true := by simpa using ht1
              have HX := Lib.hid (HNJ.out (by omega))
              clear ht0 ht1
              go_wp2_with fail
              refine wp_region_quiet_kept mixed (by kernel_rfl) ?_
              repeat (go_big_quiet_step (first | (go_at_call 54; with_reducible exact calls_kept (HS0.out _)) | (go_at_call 54; with_reducible exact calls_kept (HS1.out _))))
              refine wpQuiet_nil ?_
              intro W3 hw'
              obtain ⟨⟨Wx, hu⟩, hw''⟩ := hw'
              simp only at hw''
              subst hw''
              have HU2 : Hid (Upd [] W W3) := HUI.out.thn hu
              clear k0 k1 k2 k3 a0 hu
              go_wp2_with fail
              go_ret
              exact ⟨ret_valid HX.out, HU.out.thn HU2.out⟩
            have g1 : decide (s1 ≤ t) = false := by simpa using ht1
            have HX := Lib.hid (HOJ.out (by omega))
            clear ht0 ht1
            go_wp2_with fail
            refine wp_region_quiet_kept mixed (by kernel_rfl) ?_
            repeat (go_big_quiet_step (first | (go_at_call 54; with_reducible exact calls_kept (HS0.out _)) | (go_at_call 54; with_reducible exact calls_kept (HS1.out _))))
            refine wpQuiet_nil ?_
            intro W3 hw'
            obtain ⟨⟨Wx, hu⟩, hw''⟩ := hw'
            simp only at hw''
            subst hw''
            have HU2 : Hid (Upd [] W W3) := HUI.out.thn hu
            clear k0 k1 k2 k3 a0 hu
            go_wp2_with fail
            go_roundg (m - (j + 1))
            case measure => omega
            case rel => exact ⟨j + 1, by go_num, by omega, HX, HU2⟩
          · have hjz : ¬ (j : Int) < (m : Int) := by omega
            go_wp2_with fail
            go_roundg (8 - (k + 1))
            case measure => omega
            case rel => exact ⟨k + 1, by go_num, by omega, fun i hi => by
              by_cases hik : i = k
              · subst hik
                exact HBO.out HKC.out (fun q hq => HJ.out q hq (by have := HLM.out; omega))
              · exact HK.out i (by omega), HUI⟩
      · have e1 : decide ((k : Int) < cu) = false := by simp; omega
        clear hkc hkc2
        go_wp2_with fail
        go_loopg [5] m (fun gj vj wi => ∃ j : Nat, vj = .int .i64 j ∧ j + gj = m ∧ Hid (∀ i (hi : i < il.length), i < j → s0 ≤ il[i].t ∧ il[i].t < s1) ∧ Hid (Upd [] W wi))
        case atStart => exact ⟨0, rfl, by omega, fun i hi h => by omega, HUR⟩
        case round =>
          obtain ⟨j, rfl, hjg, HJ, HUI⟩ := hrel
          by_cases hjm : j < m
          · have hjz : (j : Int) < (m : Int) := by omega
            have hj1 : j < il.length := by have := HLM.out; omega
            obtain ⟨b1, o1, hbo1, a0, a1, a2⟩ := (HIRW.out.stay HUI.out).item j hj1
            subst hbo1
            clear a1 a2
            have HNJ := Lib.hid (HNB.out j hj1)
            have HOJ : Hid (s0 ≤ il[j].t ∧ il[j].t < s1 → ∀ i (hi : i < il.length), i < j + 1 → s0 ≤ il[i].t ∧ il[i].t < s1) := fun h i hi hij => by
              by_cases hij2 : i = j
              · subst hij2; exact h
              · exact HJ.out i hi (by omega)
            generalize il[j].t = t at *
            have k0 := kept_at (HUI.out.cell c0 (by simp)); have k1 := kept_at (HUI.out.cell c1 (by simp)); have k2 := kept_at (HUI.out.cell c2 (by simp)); have k3 := kept_at (HUI.out.cell c3 (by simp)); have a0 := kept_at a0
            by_cases ht0 : t < s0
            · have g0 : decide (t < s0) = true := by simpa using ht0
              have HX := Lib.hid (HNJ.out (by omega))
              clear ht0
              go_wp2_with fail
              refine wp_region_quiet_kept mixed (by kernel_rfl) ?_
              repeat (go_big_quiet_step (first | (go_at_call 54; with_reducible exact calls_kept (HS0.out _)) | (go_at_call 54; with_reducible exact calls_kept (HS1.out _))))
              refine wpQuiet_nil ?_
              intro W3 hw'
              obtain ⟨⟨Wx, hu⟩, hw''⟩ := hw'
              simp only at hw''
              subst hw''
              have HU2 : Hid (Upd [] W W3) := HUI.out.thn hu
              clear k0 k1 k2 k3 a0 hu
              go_wp2_with fail
              go_ret
              exact ⟨ret_valid HX.out, HU.out.thn HU2.out⟩
            have g0 : decide (t < s0) = false := by simpa using ht0
            by_cases ht1 : s1 ≤ t
            · have g1 : decide (s1 ≤ t) = true := by simpa using ht1
              have HX := Lib.hid (HNJ.out (by omega))
              clear ht0 ht1
              go_wp2_with fail
              refine wp_region_quiet_kept mixed (by kernel_rfl) ?_
              repeat (go_big_quiet_step (first | (go_at_call 54; with_reducible exact calls_kept (HS0.out _)) | (go_at_call 54; with_reducible exact calls_kept (HS1.out _))))
              refine wpQuiet_nil ?_
              intro W3 hw'
              obtain ⟨⟨Wx, hu⟩, hw''⟩ := hw'
              simp only at hw''
              subst hw''
              have HU2 : Hid (Upd [] W W3) := HUI.out.thn hu
              clear k0 k1 k2 k3 a0 hu
              go_wp2_with fail
              go_ret
              exact ⟨ret_valid HX.out, HU.out.thn HU2.out⟩
            have g1 : decide (s1 ≤ t) = false := by simpa using ht1
            have HX := Lib.hid (HOJ.out (by omega))
            clear ht0 ht1
            go_wp2_with fail
            refine wp_region_quiet_kept mixed (by kernel_rfl) ?_
            repeat (go_big_quiet_step (first | (go_at_call 54; with_reducible exact calls_kept (HS0.out _)) | (go_at_call 54; with_reducible exact calls_kept (HS1.out _))))
            refine wpQuiet_nil ?_
            intro W3 hw'
            obtain ⟨⟨Wx, hu⟩, hw''⟩ := hw'
            simp only at hw''
            subst hw''
            have HU2 : Hid (Upd [] W W3) := HUI.out.thn hu
            clear k0 k1 k2 k3 a0 hu
            go_wp2_with fail
            go_roundg (m - (j + 1))
            case measure => omega
            case rel => exact ⟨j + 1, by go_num, by omega, HX, HU2⟩
          · have hjz : ¬ (j : Int) < (m : Int) := by omega
            go_wp2_with fail
            go_roundg (8 - (k + 1))
            case measure => omega
            case rel => exact ⟨k + 1, by go_num, by omega, fun i hi => by
              by_cases hik : i = k
              · subst hik
                exact HBO.out HKC.out (fun q hq => HJ.out q hq (by have := HLM.out; omega))
              · exact HK.out i (by omega), HUI⟩
    · have hltz : ¬ (k : Int) < 8 := by omega
      obtain rfl : k = 8 := by omega
      have HX := Lib.hid (good_all HSH.out HK.out)
      go_wp2_with fail
      go_ret
      exact ⟨ret_valid HX.out, HU.out.thn HUR.out⟩
end Go.Proofs.YtneodiemgemhfaaGreat
