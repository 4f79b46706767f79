
/- Contract of layer 10: the reference's Same. -/
import Derived.Test.YtpneljhplbkdkaaAI
namespace Go.Proofs.Ytpneljhplbkdkaa
open Go.RowKit Go.Lib

set_option maxRecDepth 100000 in
set_option maxHeartbeats 8000000 in
theorem RSame_has (a b : MdR) (w : World) (ha : HasM w a) (hb : HasM w b) (hl : a.es.l.length ≤ 1000000) (hi : a.is.l.length ≤ 1000000) :
    Calls Try.prog 20 #[encM a, encM b] w fun e w' => e = .returned (.bool (decide (a.md = b.md))) ∧ Upd [] w w' := by
  obtain ⟨e1, ⟨l1, a1, k1⟩, h1, ⟨i1, d1, f1⟩⟩ := a
  obtain ⟨e2, ⟨l2, a2, k2⟩, h2, ⟨i2, d2, f2⟩⟩ := b
  obtain ⟨res, hres⟩ : ∃ r, r = decide ((⟨e1, l1, h1, i1⟩ : Md) = ⟨e2, l2, h2, i2⟩) := ⟨_, rfl⟩
  have HRES := Lib.hid hres
  have HA := Lib.hid ha.es.row; have HB := Lib.hid hb.es.row
  have HC := Lib.hid ha.is.row; have HD := Lib.hid hb.is.row
  unfold encM cellsM MdR.md
  simp only at hl hi HA HB HC HD ⊢
  rw [← hres]
  clear hres ha hb
  generalize hn1 : l1.length = n1 at hl ⊢
  generalize hn2 : l2.length = n2
  generalize hm1 : i1.length = m1 at hi ⊢
  generalize hm2 : i2.length = m2
  have HN1 := Lib.hid hn1; have HN2 := Lib.hid hn2; have HM1 := Lib.hid hm1; have HM2 := Lib.hid hm2
  clear hn1 hn2 hm1 hm2
  obtain ⟨hu0, b0, b1, hs0⟩ := two_boxes w (.cells #[.int .i64 e1, .slice a1 n1 k1, .int .i64 h1, .slice d1 m1 f1] 25) (.cells #[.int .i64 e2, .slice a2 n2 k2, .int .i64 h2, .slice d2 m2 f2] 25)
  have HU0 := Lib.hid hu0; have HB0 := Lib.hid b0; have HB1 := Lib.hid b1
  clear hu0 b0 b1 hs0
  by_cases q1 : e1 = e2
  · subst q1
    by_cases q2 : h1 = h2
    · subst q2
      by_cases q3 : n1 = n2
      · subst q3
        by_cases q4 : m1 = m2
        · subst q4
          have HR0 : Hid (res = (decide (l1.drop 0 = l2.drop 0) && decide (i1 = i2))) := Lib.hid (by rw [HRES.out, List.drop_zero, List.drop_zero, ← Bool.decide_and]; simp)
          go_enter Try.func20, Try.ntmps20
          go_upto_region 1 with (fail)
          generalize (w.alloc (.cells #[.int .i64 e1, .slice a1 n1 k1, .int .i64 h1, .slice d1 m1 f1] 25)).alloc (.cells #[.int .i64 e1, .slice a2 n1 k2, .int .i64 h1, .slice d2 m1 f2] 25) = W0 at *
          generalize w.heap.size = P at *
          obtain ⟨x0, x1, x2, x3⟩ := cells4 HB0.out
          obtain ⟨p0, p1, p2, p3⟩ := cells4 HB1.out
          go_wp2_with fail
          clear x0 x1 x2 x3 p0 p1 p2 p3
          go_loopg [5] n1 (fun gk vi wr => ∃ k : Nat, vi = .int .i64 k ∧ k + gk = n1 ∧ Hid (res = (decide (l1.drop k = l2.drop k) && decide (i1 = i2))) ∧ Hid (Upd [] W0 wr))
          case atStart => exact ⟨0, rfl, by omega, HR0, Upd.refl _ _⟩
          case round =>
            obtain ⟨k, rfl, hkg, HK, HUR⟩ := hrel
            obtain ⟨x0, x1, x2, x3⟩ := cells4 (HUR.out.at HB0.out (by simp))
            obtain ⟨p0, p1, p2, p3⟩ := cells4 (HUR.out.at HB1.out (by simp))
            by_cases hlt : k < n1
            · have hltz : (k : Int) < (n1 : Int) := by omega
              have hk1 : k < l1.length := by have := HN1.out; omega
              have hk2 : k < l2.length := by have := HN2.out; omega
              obtain ⟨b1, o1, rfl, s0, s1, s2, s3⟩ := (HA.out.stay (HU0.out.thn HUR.out)).ent k hk1
              obtain ⟨b2, o2, rfl, t0, t1, t2, t3⟩ := (HB.out.stay (HU0.out.thn HUR.out)).ent k hk2
              have HKK : Hid (res = ((decide (l1[k] = l2[k]) && decide (l1.drop (k + 1) = l2.drop (k + 1))) && decide (i1 = i2))) := Lib.hid (by rw [HK.out, drop_dec hk1 hk2])
              generalize l1[k] = z1 at *
              generalize l2[k] = z2 at *
              have hgd := guardEn
              have hq := neqEn z1 z2
              generalize decide (z1 = z2) = bq at hq HKK
              clear hk1 hk2
              have hwk : IntKind.i64.wrap ((k : Int) + 1) = (k : Int) + 1 := by rw [IntKind.wrap_i64]; omega
              go_upto_region 6 with (fail)
              go_quiet (fail)
              have HU2 : Hid (Upd [] W0 (wr.drewN nq)) := HUR.out.drewN nq
              generalize wr.drewN nq = w2 at HU2 ⊢
              clear s0 t0 s1 t1 s2 t2 s3 t3 hq hgd x0 x1 x2 x3 p0 p1 p2 p3
              cases bq with
              | true =>
                have HK2 : Hid (res = (decide (l1.drop (k + 1) = l2.drop (k + 1)) && decide (i1 = i2))) := Lib.hid (by rw [HKK.out, Bool.true_and])
                go_wp2_with fail
                go_roundg (n1 - (k + 1))
                case measure => omega
                case rel => exact ⟨k + 1, by go_num, by omega, HK2, HU2⟩
              | false =>
                have HF : Hid (res = false) := Lib.hid (by rw [HKK.out]; simp)
                go_wp2_with fail
                go_ret
                exact ⟨ret_bool HF.out.symm, HU0.out.thn HU2.out⟩
            · have hltz : ¬ (k : Int) < (n1 : Int) := by omega
              have HK1 : Hid (res = decide (i1.drop 0 = i2.drop 0)) := Lib.hid (by rw [HK.out, List.drop_eq_nil_of_le (by have := HN1.out; omega), List.drop_eq_nil_of_le (by have := HN2.out; omega)]; simp)
              go_wp2_with fail
              clear x0 x1 x2 x3 p0 p1 p2 p3 HK
              have HUA := HUR
              clear HUR
              obtain ⟨W1, hW1⟩ : ∃ W1, W1 = wr := ⟨_, rfl⟩
              rw [← hW1] at HUA ⊢
              clear hW1
              go_loopg [6] m1 (fun gk vi wr => ∃ k : Nat, vi = .int .i64 k ∧ k + gk = m1 ∧ Hid (res = decide (i1.drop k = i2.drop k)) ∧ Hid (Upd [] W0 wr))
              case atStart => exact ⟨0, rfl, by omega, HK1, HUA⟩
              case round =>
                obtain ⟨k, rfl, hkg, HK, HUR⟩ := hrel
                obtain ⟨x0, x1, x2, x3⟩ := cells4 (HUR.out.at HB0.out (by simp))
                obtain ⟨p0, p1, p2, p3⟩ := cells4 (HUR.out.at HB1.out (by simp))
                by_cases hlt : k < m1
                · have hltz : (k : Int) < (m1 : Int) := by omega
                  have hk1 : k < i1.length := by have := HM1.out; omega
                  have hk2 : k < i2.length := by have := HM2.out; omega
                  obtain ⟨b1, o1, rfl, s0⟩ := (HC.out.stay (HU0.out.thn HUR.out)).num k hk1
                  obtain ⟨b2, o2, rfl, t0⟩ := (HD.out.stay (HU0.out.thn HUR.out)).num k hk2
                  have HKK : Hid (res = ((decide (i1[k] = i2[k]) && decide (i1.drop (k + 1) = i2.drop (k + 1))))) := Lib.hid (by rw [HK.out, drop_dec hk1 hk2])
                  generalize i1[k] = z1 at *
                  generalize i2[k] = z2 at *
                  have hq : (z1 != z2) = !decide (z1 = z2) := by by_cases h : z1 = z2 <;> simp [h]
                  have hq2 : decide (¬ z1 = z2) = !decide (z1 = z2) := by by_cases h : z1 = z2 <;> simp [h]
                  generalize decide (z1 = z2) = bq at hq hq2 HKK
                  clear hk1 hk2
                  have hwk : IntKind.i64.wrap ((k : Int) + 1) = (k : Int) + 1 := by rw [IntKind.wrap_i64]; omega
                  go_upto_region 11 with (fail)
                  go_quiet (fail)
                  have HU2 : Hid (Upd [] W0 (wr.drewN nq)) := HUR.out.drewN nq
                  generalize wr.drewN nq = w2 at HU2 ⊢
                  clear s0 t0 hq hq2 x0 x1 x2 x3 p0 p1 p2 p3
                  cases bq with
                  | true =>
                    have HK2 : Hid (res = (decide (i1.drop (k + 1) = i2.drop (k + 1)))) := Lib.hid (by rw [HKK.out, Bool.true_and])
                    go_wp2_with fail
                    go_roundg (m1 - (k + 1))
                    case measure => omega
                    case rel => exact ⟨k + 1, by go_num, by omega, HK2, HU2⟩
                  | false =>
                    have HF : Hid (res = false) := Lib.hid (by rw [HKK.out]; simp)
                    go_wp2_with fail
                    go_ret
                    exact ⟨ret_bool HF.out.symm, HU0.out.thn HU2.out⟩
                · have hltz : ¬ (k : Int) < (m1 : Int) := by omega
                  have HT : Hid (res = true) := Lib.hid (by rw [HK.out, List.drop_eq_nil_of_le (by have := HM1.out; omega), List.drop_eq_nil_of_le (by have := HM2.out; omega)]; simp)
                  go_wp2_with fail
                  go_ret
                  exact ⟨ret_bool HT.out.symm, HU0.out.thn HUR.out⟩
        · have g1 : ((m1 : Int) != (m2 : Int)) = true := by simp; omega
          have HQ4 := Lib.hid q4
          clear q4
          have HF : Hid (res = false) := Lib.hid (by rw [HRES.out]; exact decide_eq_false (fun h => by injection h with _ _ _ h; have h1 := HM1.out; have h2 := HM2.out; have h3 := HQ4.out; rw [h] at h1; omega))
          go_enter Try.func20, Try.ntmps20
          go_upto_region 1 with (fail)
          generalize (w.alloc (.cells #[.int .i64 e1, .slice a1 n1 k1, .int .i64 h1, .slice d1 m1 f1] 25)).alloc (.cells #[.int .i64 e1, .slice a2 n1 k2, .int .i64 h1, .slice d2 m2 f2] 25) = W0 at *
          generalize w.heap.size = P at *
          obtain ⟨x0, x1, x2, x3⟩ := cells4 HB0.out
          obtain ⟨p0, p1, p2, p3⟩ := cells4 HB1.out
          go_wp2_with fail
          go_ret
          exact ⟨ret_bool HF.out.symm, HU0.out⟩
      · have g1 : ((n1 : Int) != (n2 : Int)) = true := by simp; omega
        have HQ3 := Lib.hid q3
        clear q3
        have HF : Hid (res = false) := Lib.hid (by rw [HRES.out]; exact decide_eq_false (fun h => by injection h with _ h _ _; have h1 := HN1.out; have h2 := HN2.out; have h3 := HQ3.out; rw [h] at h1; omega))
        go_enter Try.func20, Try.ntmps20
        go_upto_region 1 with (fail)
        generalize (w.alloc (.cells #[.int .i64 e1, .slice a1 n1 k1, .int .i64 h1, .slice d1 m1 f1] 25)).alloc (.cells #[.int .i64 e1, .slice a2 n2 k2, .int .i64 h1, .slice d2 m2 f2] 25) = W0 at *
        generalize w.heap.size = P at *
        obtain ⟨x0, x1, x2, x3⟩ := cells4 HB0.out
        obtain ⟨p0, p1, p2, p3⟩ := cells4 HB1.out
        go_wp2_with fail
        go_ret
        exact ⟨ret_bool HF.out.symm, HU0.out⟩
    · have g1 : (h1 != h2) = true := by simpa using q2
      have HQ2 := Lib.hid q2
      clear q2
      have HF : Hid (res = false) := Lib.hid (by rw [HRES.out]; exact decide_eq_false (fun h => by injection h with _ _ h _; exact HQ2.out h))
      go_enter Try.func20, Try.ntmps20
      go_upto_region 1 with (fail)
      generalize (w.alloc (.cells #[.int .i64 e1, .slice a1 n1 k1, .int .i64 h1, .slice d1 m1 f1] 25)).alloc (.cells #[.int .i64 e1, .slice a2 n2 k2, .int .i64 h2, .slice d2 m2 f2] 25) = W0 at *
      generalize w.heap.size = P at *
      obtain ⟨x0, x1, x2, x3⟩ := cells4 HB0.out
      obtain ⟨p0, p1, p2, p3⟩ := cells4 HB1.out
      go_wp2_with fail
      go_ret
      exact ⟨ret_bool HF.out.symm, HU0.out⟩
  · have g1 : (e1 != e2) = true := by simpa using q1
    have HQ1 := Lib.hid q1
    clear q1
    have HF : Hid (res = false) := Lib.hid (by rw [HRES.out]; exact decide_eq_false (fun h => by injection h with h _ _ _; exact HQ1.out h))
    go_enter Try.func20, Try.ntmps20
    go_upto_region 1 with (fail)
    generalize (w.alloc (.cells #[.int .i64 e1, .slice a1 n1 k1, .int .i64 h1, .slice d1 m1 f1] 25)).alloc (.cells #[.int .i64 e2, .slice a2 n2 k2, .int .i64 h2, .slice d2 m2 f2] 25) = W0 at *
    generalize w.heap.size = P at *
    obtain ⟨x0, x1, x2, x3⟩ := cells4 HB0.out
    obtain ⟨p0, p1, p2, p3⟩ := cells4 HB1.out
    go_wp2_with fail
    go_ret
    exact ⟨ret_bool HF.out.symm, HU0.out⟩
end Go.Proofs.Ytpneljhplbkdkaa
