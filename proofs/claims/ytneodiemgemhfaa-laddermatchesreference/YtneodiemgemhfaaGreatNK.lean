/- Contract: the reference's below. -/
/- Contract: the reference's Same of two ladders. -/
import Derived.Test.YtneodiemgemhfaaGreatNI
namespace Go.Proofs.YtneodiemgemhfaaGreat
open Go.RowKit Go.Lib

def belowB (l : List It) (bd : Int) : Bool := l.all fun x => decide (x.t < bd) && decide (0 ≤ x.t) && decide (x.t ≤ 1152921504606846976)

set_option maxRecDepth 100000 in
set_option maxHeartbeats 2000000 in
theorem below_has (a : SlR It) (bd : Int) (w : World) (ha : Row LI w a.ad a.l) (hl : a.l.length ≤ 1000000) :
    Calls Tryz.prog 40 #[.slice a.ad a.l.length a.cap, .int .i64 bd] w fun e w' => e = .returned (.bool (belowB a.l bd)) ∧ Upd [] w w' := by
  obtain ⟨l1, a1, c1⟩ := a
  obtain ⟨res, hres⟩ : ∃ b, b = belowB l1 bd := ⟨_, rfl⟩
  have HRES := Lib.hid hres
  have HA := Lib.hid ha
  simp only at hl HA ⊢
  rw [← hres]
  clear hres ha
  generalize hn1 : l1.length = n1 at hl ⊢
  have HN1 := Lib.hid hn1
  clear hn1
  have HR0 : Hid (res = belowB (l1.drop 0) bd) := by
    show res = _
    rw [HRES.out, List.drop_zero]
  go_enter Tryz.func40, Tryz.ntmps40
  go_wp2_with fail
  go_loopg [5] n1 (fun gk vi wr => ∃ k : Nat, vi = .int .i64 k ∧ k + gk = n1 ∧ Hid (res = belowB (l1.drop k) bd) ∧ Hid (Upd [] w wr))
  case atStart => exact ⟨0, rfl, by omega, HR0, Lib.hid (Upd.refl _ _)⟩
  case round =>
    obtain ⟨k, rfl, hkg, HK, HUR⟩ := hrel
    by_cases hlt : k < n1
    · have hltz : (k : Int) < (n1 : Int) := by omega
      have hk1 : k < l1.length := by have := HN1.out; omega
      obtain ⟨b1, o1, rfl, k0, k1, k2⟩ := (HA.out.stay HUR.out).item k hk1
      have HKK : Hid (res = ((decide (l1[k].t < bd) && decide (0 ≤ l1[k].t) && decide (l1[k].t ≤ 1152921504606846976)) && belowB (l1.drop (k + 1)) bd)) := by
        show res = _
        rw [HK.out, List.drop_eq_getElem_cons hk1]; rfl
      generalize l1[k] = y1 at *
      obtain ⟨t, q, s⟩ := y1
      simp only at HKK k0 k1 k2
      by_cases q1 : bd ≤ t
      · have d1 : decide (bd ≤ t) = true := by simpa using q1
        have QF : Hid (¬ t < bd) := by show ¬ _; omega
        clear q1
        go_wp2_with fail
        go_ret
        exact ⟨ret_bool (by rw [HKK.out]; have hq := QF.out; simp; intros; omega), HUR.out⟩
      have d1 : decide (bd ≤ t) = false := by simpa using q1
      by_cases q2 : t < 0
      · have d2 : decide (t < 0) = true := by simpa using q2
        have QF : Hid (¬ 0 ≤ t) := by show ¬ _; omega
        clear q1 q2
        go_wp2_with fail
        go_ret
        exact ⟨ret_bool (by rw [HKK.out]; have hq := QF.out; simp; intros; omega), HUR.out⟩
      have d2 : decide (t < 0) = false := by simpa using q2
      by_cases q3 : 1152921504606846976 < t
      · have d3 : decide (1152921504606846976 < t) = true := by simpa using q3
        have QF : Hid (¬ t ≤ 1152921504606846976) := by show ¬ _; omega
        clear q1 q2 q3
        go_wp2_with fail
        go_ret
        exact ⟨ret_bool (by rw [HKK.out]; have hq := QF.out; simp; intros; omega), HUR.out⟩
      have d3 : decide (1152921504606846976 < t) = false := by simpa using q3
      have QA : Hid (t < bd) := Lib.hid (by omega)
      have QB : Hid (0 ≤ t) := Lib.hid (by omega)
      have QC : Hid (t ≤ 1152921504606846976) := Lib.hid (by omega)
      clear q1 q2 q3
      go_wp2_with fail
      go_roundg (gk - 1)
      case measure => omega
      case rel => exact ⟨k + 1, by go_num, by omega, Lib.hid (by rw [HKK.out]; simp [QA.out, QB.out, QC.out]), HUR⟩
    · have hltz : ¬ (k : Int) < (n1 : Int) := by omega
      have HKE : Hid (res = true) := by
        show res = _
        rw [HK.out, List.drop_of_length_le (by have := HN1.out; omega)]; rfl
      go_wp2_with fail
      go_ret
      exact ⟨ret_bool (by rw [HKE.out]), HUR.out⟩
end Go.Proofs.YtneodiemgemhfaaGreat
namespace Go.Proofs.YtneodiemgemhfaaGreat
open Go.RowKit Go.Lib

deriving instance DecidableEq for Ld

set_option maxRecDepth 100000 in
set_option maxHeartbeats 4000000 in
theorem LSame_has (r s : LdR) (w : World) (hr : HasD w r) (hs : HasD w s) (ht : r.top.l.length ≤ 1000000) (hbt : r.bot.l.length ≤ 1000000) (hrl : r.rs.l.length ≤ 1000000) (hb1 : ∀ x ∈ r.rs.l, x.bk.l.length ≤ 1000000 ∧ ∀ b ∈ x.bk.l, b.l.length ≤ 1000000) :
    Calls Tryz.prog 18 #[encD r, encD s] w fun e w' => e = .returned (.bool (decide (r.ld = s.ld))) ∧ Upd [] w w' := by
  obtain ⟨res, hres⟩ : ∃ b, b = decide (r.ld = s.ld) := ⟨_, rfl⟩
  have HRES := Lib.hid hres
  rw [← hres]
  clear hres
  obtain ⟨f1, ⟨tl1, ta1, tc1⟩, ⟨l1, a1, c1⟩, ⟨bl1, ba1, bc1⟩, d1, u1⟩ := r
  obtain ⟨f2, ⟨tl2, ta2, tc2⟩, ⟨l2, a2, c2⟩, ⟨bl2, ba2, bc2⟩, d2, u2⟩ := s
  have HR := Lib.hid hr; have HS := Lib.hid hs; have HB1 := Lib.hid hb1
  unfold encD cellsD
  simp only at ht hbt hrl HB1 ⊢
  have HCT : Hid (∀ W', Upd [] w W' → Calls Tryz.prog 28 #[.slice ta1 tl1.length tc1, .slice ta2 tl2.length tc2] W' fun e w' => e = .returned (.bool (decide (tl1 = tl2))) ∧ Upd [] W' w') := fun W' hu => SameItems_has ⟨tl1, ta1, tc1⟩ ⟨tl2, ta2, tc2⟩ W' (HR.out.top.row.stay hu) (HS.out.top.row.stay hu) ht
  have HCB : Hid (∀ W', Upd [] w W' → Calls Tryz.prog 28 #[.slice ba1 bl1.length bc1, .slice ba2 bl2.length bc2] W' fun e w' => e = .returned (.bool (decide (bl1 = bl2))) ∧ Upd [] W' w') := fun W' hu => SameItems_has ⟨bl1, ba1, bc1⟩ ⟨bl2, ba2, bc2⟩ W' (HR.out.bot.row.stay hu) (HS.out.bot.row.stay hu) hbt
  clear hr hs hb1 ht hbt
  have hno : ¬ (f1 = f2 ∧ d1 = d2 ∧ u1 = u2 ∧ l1.length = l2.length) → Hid (res = false) := fun h => by
    show res = false
    rw [HRES.out, decide_eq_false]
    intro e
    simp only [LdR.ld, Ld.mk.injEq] at e
    exact h ⟨e.1, e.2.2.2.2.1, e.2.2.2.2.2, by simpa using congrArg List.length e.2.2.1⟩
  have hyes : f1 = f2 → d1 = d2 → u1 = u2 → Hid (res = (decide (tl1 = tl2) && decide (bl1 = bl2) && decide ((l1.map RgR.rg).drop 0 = (l2.map RgR.rg).drop 0))) := fun e1 e2 e3 => by
    show res = _
    rw [HRES.out, List.drop_zero, List.drop_zero, ← Bool.decide_and, ← Bool.decide_and]
    exact decide_eq_decide.2 (by simp only [LdR.ld, Ld.mk.injEq]; exact ⟨fun h => ⟨⟨h.2.1, h.2.2.2.1⟩, h.2.2.1⟩, fun h => ⟨e1, h.1.1, h.2, h.1.2, e2, e3⟩⟩)
  generalize decide (tl1 = tl2) = bt at *
  generalize decide (bl1 = bl2) = bb at *
  generalize hn1 : l1.length = n1 at hrl hno ⊢
  generalize hn2 : l2.length = n2 at hno ⊢
  have HN1 := Lib.hid hn1; have HN2 := Lib.hid hn2
  clear hn1 hn2
  generalize tl1.length = t1 at *
  generalize tl2.length = t2 at *
  generalize bl1.length = s1 at *
  generalize bl2.length = s2 at *
  go_enter Tryz.func18, Tryz.ntmps18
  go_upto_region 1 with (fail)
  generalize hA : (Obj.cells #[.int .i64 f1, .slice ta1 t1 tc1, .slice a1 n1 c1, .slice ba1 s1 bc1, .int .i64 d1, .int .i64 u1] 25 : Obj) = A
  generalize hB : (Obj.cells #[.int .i64 f2, .slice ta2 t2 tc2, .slice a2 n2 c2, .slice ba2 s2 bc2, .int .i64 d2, .int .i64 u2] 25 : Obj) = B
  obtain ⟨hu, b0, b1, hsz⟩ := two_boxes w A B
  generalize (w.alloc A).alloc B = W at *
  generalize w.heap.size = H at *
  rw [← hA] at b0
  rw [← hB] at b1
  have HU := Lib.hid hu
  have HM := Lib.hid b0; have HE := Lib.hid b1
  obtain ⟨m0, m1, m2, m3, m4, m5⟩ := cells6 b0
  obtain ⟨e0, e1, e2, e3, e4, e5⟩ := cells6 b1
  clear hu hA hB b0 b1 hsz
  by_cases q1 : f1 = f2
  case neg =>
    have h1 : (f1 != f2) = true := by simpa using q1
    have HX := hno (by omega)
    clear q1 hno
    go_wp2_with fail
    go_ret
    exact ⟨ret_bool HX.out.symm, HU.out⟩
  have g1 : (f1 != f2) = false := by simpa using q1
  by_cases q2 : d1 = d2
  case neg =>
    have h1 : (d1 != d2) = true := by simpa using q2
    have HX := hno (by omega)
    clear q1 q2 hno
    go_wp2_with fail
    go_ret
    exact ⟨ret_bool HX.out.symm, HU.out⟩
  have g2 : (d1 != d2) = false := by simpa using q2
  by_cases q3 : u1 = u2
  case neg =>
    have h1 : (u1 != u2) = true := by simpa using q3
    have HX := hno (by omega)
    clear q1 q2 q3 hno
    go_wp2_with fail
    go_ret
    exact ⟨ret_bool HX.out.symm, HU.out⟩
  have g3 : (u1 != u2) = false := by simpa using q3
  by_cases q4 : n1 = n2
  case neg =>
    have h1 : ((n1 : Int) != (n2 : Int)) = true := by simp; omega
    have HX := hno (by omega)
    clear q1 q2 q3 q4 hno
    go_wp2_with fail
    go_ret
    exact ⟨ret_bool HX.out.symm, HU.out⟩
  subst q4
  have HR0 := hyes q1 q2 q3
  clear q1 q2 q3 hno hyes
  cases bt with
  | false =>
    go_wp2_with (go_at_call 28; (with_reducible refine (HCT.out _ HU.out).mono ?_); rintro e w1 ⟨rfl, hu1⟩)
    go_ret
    exact ⟨ret_bool (by rw [HR0.out]; simp), HU.out.thn hu1⟩
  | true =>
  cases bb with
  | false =>
    go_wp2_with (first | (go_at_call 28; (with_reducible refine (HCT.out _ HU.out).mono ?_); rintro e w1 ⟨rfl, hu1⟩; have m3k := hu1.cell m3 (by simp); have e3k := hu1.cell e3 (by simp)) | (go_at_call 28; (with_reducible refine (HCB.out _ (HU.out.thn (by assumption))).mono ?_); rintro e w2 ⟨rfl, hu2⟩))
    go_ret
    exact ⟨ret_bool (by rw [HR0.out]; simp), (HU.out.thn hu1).thn hu2⟩
  | true =>
  simp only [Bool.true_and] at HR0
  go_upto_region 2 with (first | (go_at_call 28; (with_reducible refine (HCT.out _ HU.out).mono ?_); rintro e w1 ⟨rfl, hu1⟩; have m3k := hu1.cell m3 (by simp); have e3k := hu1.cell e3 (by simp)) | (go_at_call 28; (with_reducible refine (HCB.out _ (HU.out.thn (by assumption))).mono ?_); rintro e w2 ⟨rfl, hu2⟩))
  have HU2 : Hid (Upd [] W w2) := hu1.thn hu2
  clear m0 m1 m2 m3 m4 m5 e0 e1 e2 e3 e4 e5 g1 g2 g3 m3k e3k hu1 hu2
  go_wp2_with fail
  go_loopg [5] n1 (fun gk vi wr => ∃ k : Nat, vi = .int .i64 k ∧ k + gk = n1 ∧ Hid (res = decide ((l1.map RgR.rg).drop k = (l2.map RgR.rg).drop k)) ∧ Hid (Upd [] W wr))
  case atStart => exact ⟨0, rfl, by omega, HR0, HU2⟩
  case round =>
    obtain ⟨k, rfl, hkg, HK, HUR⟩ := hrel
    have HUW : Hid (Upd [] w wr) := HU.out.thn HUR.out
    have m2r := HUR.out.cell (cells6 HM.out).2.2.1 (by simp)
    have e2r := HUR.out.cell (cells6 HE.out).2.2.1 (by simp)
    by_cases hlt : k < n1
    · have hltz : (k : Int) < (n1 : Int) := by omega
      have hk1 : k < l1.length := by have := HN1.out; omega
      have hk2 : k < l2.length := by have := HN2.out; omega
      have hD1 := HR.out.stay HUW.out
      have hD2 := HS.out.stay HUW.out
      obtain ⟨b1, o1, hx1, k0, k1, k2, k3⟩ := hD1.rs.row.rung k hk1
      obtain ⟨b2, o2, hx2, j0, j1, j2, j3⟩ := hD2.rs.row.rung k hk2
      simp only at hx1 hx2 k0 k1 k2 k3 j0 j1 j2 j3
      subst hx1 hx2
      have HKK : Hid (res = (decide (l1[k].rg = l2[k].rg) && decide ((l1.map RgR.rg).drop (k + 1) = (l2.map RgR.rg).drop (k + 1)))) := by
        show res = _
        rw [HK.out, drop_dec (by rw [List.length_map]; exact hk1) (by rw [List.length_map]; exact hk2)]
        simp only [List.getElem_map]
      have hbk := HB1.out l1[k] (List.getElem_mem hk1)
      have hC := fun W' (hu : Upd [] wr W') => Same_has l1[k] l2[k] W' ((hD1.rg _ (List.getElem_mem hk1)).stay hu) ((hD2.rg _ (List.getElem_mem hk2)).stay hu) hbk.1 hbk.2
      clear hbk hD1 hD2
      unfold encR at hC
      generalize decide (l1[k].rg = l2[k].rg) = bq at hC HKK
      generalize l1[k].bk.l.length = nn1 at *
      generalize l1[k].bk.ad = ad1 at *
      generalize l1[k].bk.cap = cp1 at *
      generalize l1[k].fr = x1 at *
      generalize l1[k].wd = y1 at *
      generalize l1[k].cu = z1 at *
      generalize l2[k].bk.l.length = nn2 at *
      generalize l2[k].bk.ad = ad2 at *
      generalize l2[k].bk.cap = cp2 at *
      generalize l2[k].fr = x2 at *
      generalize l2[k].wd = y2 at *
      generalize l2[k].cu = z2 at *
      have HC := Lib.hid hC
      clear hC
      go_wp2_with fail
      have m2k := kept_at m2r; have e2k := kept_at e2r
      have k0k := kept_at k0; have k1k := kept_at k1; have k2k := kept_at k2; have k3k := kept_at k3
      have j0k := kept_at j0; have j1k := kept_at j1; have j2k := kept_at j2; have j3k := kept_at j3
      clear k0 k1 k2 k3 j0 j1 j2 j3 m2r e2r
      refine wp_region_quiet_kept mixed (by kernel_rfl) ?_
      repeat (go_big_quiet_step (first | (go_at_call 43; exact calls_kept (HC.out _ (Kept.up _)))))
      refine wpQuiet_nil ?_
      intro W3 hw'
      obtain ⟨⟨Wx, hu⟩, hw''⟩ := hw'
      simp only at hw''
      subst hw''
      have HU3 : Hid (Upd [] W W3) := HUR.out.thn hu
      clear m2k e2k k0k k1k k2k k3k j0k j1k j2k j3k hu
      cases bq with
      | true =>
        go_wp2_with fail
        go_roundg (gk - 1)
        case measure => omega
        case rel => exact ⟨k + 1, by go_num, by omega, by rw [HKK.out]; exact Lib.hid rfl, HU3⟩
      | false =>
        go_wp2_with fail
        go_ret
        exact ⟨ret_bool (by rw [HKK.out]; rfl), HU.out.thn HU3.out⟩
    · have hltz : ¬ (k : Int) < (n1 : Int) := by omega
      go_wp2_with fail
      go_ret
      exact ⟨ret_bool (by rw [HK.out, List.drop_eq_nil_of_le (by rw [List.length_map]; have := HN1.out; omega), List.drop_eq_nil_of_le (by rw [List.length_map]; have := HN2.out; omega)]; simp), HU.out.thn HUR.out⟩
end Go.Proofs.YtneodiemgemhfaaGreat
