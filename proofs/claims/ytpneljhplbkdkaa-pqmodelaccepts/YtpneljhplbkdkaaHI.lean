
/- Contracts of layer 10: slices.Equal over events, the program's Equal and New. -/
import Derived.Test.YtpneljhplbkdkaaHA
import Derived.Test.YtpneljhplbkdkaaAL
namespace Go.Proofs.Ytpneljhplbkdkaa
open Go.RowKit Go.Lib

set_option maxRecDepth 100000 in
set_option maxHeartbeats 8000000 in
theorem SEqual_has (l1 l2 : List Ev) (a1 a2 : Option Addr) (k1 k2 : Nat) (w : World) (ha : Row LV w a1 l1) (hb : Row LV w a2 l2) (hl : l1.length ≤ 1000000) :
    Calls Try.prog 35 #[.slice a1 l1.length k1, .slice a2 l2.length k2] w fun e w' => e = .returned (.bool (decide (l1 = l2))) ∧ Upd [] w w' := by
  obtain ⟨res, hres⟩ : ∃ r, r = decide (l1 = l2) := ⟨_, rfl⟩
  have HRES := Lib.hid hres
  have HA := Lib.hid ha; have HB := Lib.hid hb
  rw [← hres]
  clear hres ha hb
  generalize hn1 : l1.length = n1 at hl ⊢
  generalize hn2 : l2.length = n2
  have HN1 := Lib.hid hn1; have HN2 := Lib.hid hn2
  clear hn1 hn2
  by_cases q4 : n1 = n2
  · subst q4
    have HR0 : Hid (res = decide (l1.drop 0 = l2.drop 0)) := Lib.hid (by rw [HRES.out, List.drop_zero, List.drop_zero])
    go_enter Try.func35, Try.ntmps35
    go_wp2_with fail
    go_loopg [13] n1 (fun gk vi wr => ∃ k : Nat, vi = .int .i64 k ∧ k + gk = n1 ∧ Hid (res = decide (l1.drop k = l2.drop k)) ∧ Hid (Upd [] w wr))
    case atStart => exact ⟨0, rfl, by omega, HR0, Upd.refl _ _⟩
    case round =>
      obtain ⟨k, rfl, hkg, HK, HUR⟩ := hrel
      by_cases hlt : k < n1
      · have hltz : (k : Int) < (n1 : Int) := by omega
        have hk1 : k < l1.length := by have := HN1.out; omega
        have hk2 : k < l2.length := by have := HN2.out; omega
        obtain ⟨b1, o1, rfl, x0, x1⟩ := (HA.out.stay HUR.out).ev k hk1
        obtain ⟨b2, o2, rfl, y0, y1⟩ := (HB.out.stay HUR.out).ev k hk2
        have HKK : Hid (res = (decide (l1[k] = l2[k]) && decide (l1.drop (k + 1) = l2.drop (k + 1)))) := Lib.hid (by rw [HK.out, drop_dec hk1 hk2])
        generalize l1[k] = z1 at *
        generalize l2[k] = z2 at *
        have hgd := guardEv
        have hq := neqEv z1 z2
        generalize decide (z1 = z2) = bq at hq HKK
        clear hk1 hk2
        have hwk : IntKind.i64.wrap ((k : Int) + 1) = (k : Int) + 1 := by rw [IntKind.wrap_i64]; omega
        go_upto_region 6 with (fail)
        go_quiet (fail)
        have HU2 : Hid (Upd [] w (wr.drewN nq)) := HUR.out.drewN nq
        generalize wr.drewN nq = w2 at HU2 ⊢
        clear x0 x1 y0 y1 hq hgd
        cases bq with
        | true =>
          have HK2 : Hid (res = decide (l1.drop (k + 1) = l2.drop (k + 1))) := Lib.hid (by rw [HKK.out]; rfl)
          go_wp2_with fail
          go_roundg (n1 - (k + 1))
          case measure => omega
          case rel => exact ⟨k + 1, by go_num, by omega, HK2, HU2⟩
        | false =>
          have HF : Hid (res = false) := Lib.hid (by rw [HKK.out]; rfl)
          go_wp2_with fail
          go_ret
          exact ⟨ret_bool HF.out.symm, HU2.out⟩
      · have hltz : ¬ (k : Int) < (n1 : Int) := by omega
        have HT : Hid (res = true) := Lib.hid (by rw [HK.out, List.drop_eq_nil_of_le (by have := HN1.out; omega), List.drop_eq_nil_of_le (by have := HN2.out; omega)]; simp)
        go_wp2_with fail
        go_ret
        exact ⟨ret_bool HT.out.symm, HUR.out⟩
  · have g1 : ((n1 : Int) != (n2 : Int)) = true := by simp; omega
    have HQ4 := Lib.hid q4
    clear q4
    have HF : Hid (res = false) := Lib.hid (by rw [HRES.out]; exact decide_eq_false (fun h => by have h1 := HN1.out; have h2 := HN2.out; have h3 := HQ4.out; rw [h] at h1; omega))
    have hq4 : ¬ n1 = n2 := HQ4.out
    go_enter Try.func35, Try.ntmps35
    go_wp2_with fail
    go_ret
    exact ⟨ret_bool HF.out.symm, Upd.refl _ _⟩
set_option maxRecDepth 100000 in
set_option maxHeartbeats 8000000 in
theorem PEqual_has (a b : RsR) (w : World) (ha : HasS LV w a.ev) (hb : HasS LV w b.ev) (hl : a.ev.l.length ≤ 1000000) :
    Calls Try.prog 22 #[encR a, encR b] w fun e w' => e = .returned (.bool (decide (a.rs = b.rs))) ∧ Upd [] w w' := by
  have HSE := Lib.hid (fun W (hu : Upd [] w W) => SEqual_has a.ev.l b.ev.l a.ev.ad b.ev.ad a.ev.cap b.ev.cap W (ha.row.stay hu) (hb.row.stay hu) hl)
  obtain ⟨e1, h1, c1, ⟨l1, a1, k1⟩⟩ := a
  obtain ⟨e2, h2, c2, ⟨l2, a2, k2⟩⟩ := b
  obtain ⟨res, hres⟩ : ∃ r, r = decide ((⟨e1, h1, c1, l1⟩ : Rs) = ⟨e2, h2, c2, l2⟩) := ⟨_, rfl⟩
  have HRES := Lib.hid hres
  unfold encR cellsR RsR.rs
  simp only at HSE ⊢
  rw [← hres]
  clear hres ha hb hl
  have HLL : Hid (e1 = e2 → h1 = h2 → c1 = c2 → decide (l1 = l2) = res) := fun q1 q2 q3 => by
    subst q1; subst q2; subst q3
    rw [HRES.out]; simp
  generalize decide (l1 = l2) = bl at *
  generalize hn1 : l1.length = n1 at *
  generalize hn2 : l2.length = n2 at *
  clear hn1 hn2
  obtain ⟨hu0, b0, b1, hs0⟩ := two_boxes w (.cells #[.int .i64 e1, .int .i64 h1, .bool c1, .slice a1 n1 k1] 34) (.cells #[.int .i64 e2, .int .i64 h2, .bool c2, .slice a2 n2 k2] 34)
  have HU0 := Lib.hid hu0; have HB0 := Lib.hid b0; have HB1 := Lib.hid b1
  clear hu0 b0 b1 hs0
  by_cases q1 : e1 = e2
  · subst q1
    by_cases q2 : h1 = h2
    · subst q2
      by_cases q3 : c1 = c2
      · subst q3
        have HLB := Lib.hid (HLL.out rfl rfl rfl)
        clear HLL
        go_enter Try.func22, Try.ntmps22
        go_upto_region 1 with (fail)
        generalize (w.alloc (.cells #[.int .i64 e1, .int .i64 h1, .bool c1, .slice a1 n1 k1] 34)).alloc (.cells #[.int .i64 e1, .int .i64 h1, .bool c1, .slice a2 n2 k2] 34) = W0 at *
        generalize w.heap.size = P at *
        obtain ⟨m0, m1, m2, m3⟩ := cells4 HB0.out
        obtain ⟨p0, p1, p2, p3⟩ := cells4 HB1.out
        go_wp2_with (go_at_call 35; (with_reducible refine (HSE.out _ HU0.out).mono ?_); rintro e w1 ⟨rfl, hu1⟩; have HU1 := Lib.hid (HU0.out.thn hu1); clear hu1)
        go_ret
        exact ⟨ret_bool HLB.out, HU1.out⟩
      · have HF : Hid (res = false) := Lib.hid (by rw [HRES.out]; exact decide_eq_false (fun h => by injection h with _ _ h _; exact q3 h))
        have g3 : (c1 == c2) = false := by simpa using q3
        have g4 : decide (c1 = c2) = false := decide_eq_false q3
        clear q3
        go_enter Try.func22, Try.ntmps22
        go_upto_region 1 with (fail)
        generalize (w.alloc (.cells #[.int .i64 e1, .int .i64 h1, .bool c1, .slice a1 n1 k1] 34)).alloc (.cells #[.int .i64 e1, .int .i64 h1, .bool c2, .slice a2 n2 k2] 34) = W0 at *
        generalize w.heap.size = P at *
        obtain ⟨m0, m1, m2, m3⟩ := cells4 HB0.out
        obtain ⟨p0, p1, p2, p3⟩ := cells4 HB1.out
        go_wp2_with fail
        go_ret
        exact ⟨ret_bool HF.out.symm, HU0.out⟩
    · have HF : Hid (res = false) := Lib.hid (by rw [HRES.out]; exact decide_eq_false (fun h => by injection h with _ h _ _; exact q2 h))
      have g3 : (h1 == h2) = false := by simpa using q2
      have g4 : decide (h1 = h2) = false := decide_eq_false q2
      go_enter Try.func22, Try.ntmps22
      go_upto_region 1 with (fail)
      generalize (w.alloc (.cells #[.int .i64 e1, .int .i64 h1, .bool c1, .slice a1 n1 k1] 34)).alloc (.cells #[.int .i64 e1, .int .i64 h2, .bool c2, .slice a2 n2 k2] 34) = W0 at *
      generalize w.heap.size = P at *
      obtain ⟨m0, m1, m2, m3⟩ := cells4 HB0.out
      obtain ⟨p0, p1, p2, p3⟩ := cells4 HB1.out
      go_wp2_with fail
      go_ret
      exact ⟨ret_bool HF.out.symm, HU0.out⟩
  · have HF : Hid (res = false) := Lib.hid (by rw [HRES.out]; exact decide_eq_false (fun h => by injection h with h _ _ _; exact q1 h))
    have g3 : (e1 == e2) = false := by simpa using q1
    have g4 : decide (e1 = e2) = false := decide_eq_false q1
    go_enter Try.func22, Try.ntmps22
    go_upto_region 1 with (fail)
    generalize (w.alloc (.cells #[.int .i64 e1, .int .i64 h1, .bool c1, .slice a1 n1 k1] 34)).alloc (.cells #[.int .i64 e2, .int .i64 h2, .bool c2, .slice a2 n2 k2] 34) = W0 at *
    generalize w.heap.size = P at *
    obtain ⟨m0, m1, m2, m3⟩ := cells4 HB0.out
    obtain ⟨p0, p1, p2, p3⟩ := cells4 HB1.out
    go_wp2_with fail
    go_ret
    exact ⟨ret_bool HF.out.symm, HU0.out⟩
set_option maxRecDepth 100000 in
set_option maxHeartbeats 8000000 in
theorem PNew_has (n : Int) (w : World) :
    Calls Try.prog 18 #[.int .i64 n] w (GivesN n w) := by
  by_cases h0 : inB 1 64 n = true
  · have hh := inB_yes.1 h0
    have hres : newM n = (⟨n, [], 0, []⟩, 0) := by unfold newM; rw [if_neg (by omega)]
    have HPC := Lib.hid (PCap_has n)
    rw [h0] at HPC
    clear hh h0
    go_enter Try.func18, Try.ntmps18
    go_upto_region 1 with (fail)
    obtain ⟨hu0, b0⟩ := (one_box w (.cells #[.int .i64 0, .slice none 0 0, .int .i64 0, .slice none 0 0] 25))
    generalize w.alloc (.cells #[.int .i64 0, .slice none 0 0, .int .i64 0, .slice none 0 0] 25) = W0 at *
    have hP : w.heap.size ≤ w.heap.size := Nat.le_refl _
    generalize hPe : w.heap.size = P at b0 hP ⊢
    obtain ⟨d0, d1, d2, d3⟩ := cells4 b0
    obtain ⟨e0, e1, e2, e3⟩ := free4 b0
    go_wp2_with (go_at_call 24; (with_reducible refine (HPC.out _).mono ?_); rintro e w1 ⟨rfl, rfl⟩)
    have k8 := stored4 b0 (.int .i64 n) (.slice none 0 0) (.int .i64 0) (.slice none 0 0)
    have u8 := upd_set4 W0 P (.int .i64 n) (.slice none 0 0) (.int .i64 0) (.slice none 0 0)
    with_reducible generalize (((W0.setCell ⟨P, 0, none⟩ (.int .i64 n)).setCell ⟨P, 1, none⟩ (.slice none 0 0)).setCell ⟨P, 2, none⟩ (.int .i64 0)).setCell ⟨P, 3, none⟩ (.slice none 0 0) = W8 at k8 u8 ⊢
    obtain ⟨r0, r1, r2, r3⟩ := cells4 k8
    have hU : Upd [] w W8 := hu0.trans u8 (fun x hx hl => by simp at hx; omega)
    exact bodyPost_ret (v := .tuple #[.agg #[.int .i64 n, .slice none 0 0, .int .i64 0, .slice none 0 0], .int .i64 0]) (by simp [results, Try.results18, go_sem, r0, r1, r2, r3]) rfl ⟨⟨n, ⟨[], none, 0⟩, 0, ⟨[], none, 0⟩⟩, by rw [hres]; rfl, by rw [hres]; rfl, ⟨hasS_nil LE _, hasS_nil LN _⟩, fun b => ⟨avS_nil _ _ _, avS_nil _ _ _⟩, hU⟩
  · have hh := inB_no.1 (by simpa using h0)
    have hres : newM n = (⟨0, [], 0, []⟩, 1) := by unfold newM; rw [if_pos (by omega)]
    have HPC := Lib.hid (PCap_has n)
    rw [show inB 1 64 n = false by simpa using h0] at HPC
    clear hh h0
    go_enter Try.func18, Try.ntmps18
    go_upto_region 1 with (fail)
    obtain ⟨hu0, b0⟩ := (one_box w (.cells #[.int .i64 0, .slice none 0 0, .int .i64 0, .slice none 0 0] 25))
    generalize w.alloc (.cells #[.int .i64 0, .slice none 0 0, .int .i64 0, .slice none 0 0] 25) = W0 at *
    have hP : w.heap.size ≤ w.heap.size := Nat.le_refl _
    generalize hPe : w.heap.size = P at b0 hP ⊢
    obtain ⟨d0, d1, d2, d3⟩ := cells4 b0
    obtain ⟨e0, e1, e2, e3⟩ := free4 b0
    go_wp2_with (go_at_call 24; (with_reducible refine (HPC.out _).mono ?_); rintro e w1 ⟨rfl, rfl⟩)
    have k8 := stored4 b0 (.int .i64 0) (.slice none 0 0) (.int .i64 0) (.slice none 0 0)
    have u8 := upd_set4 W0 P (.int .i64 0) (.slice none 0 0) (.int .i64 0) (.slice none 0 0)
    with_reducible generalize (((W0.setCell ⟨P, 0, none⟩ (.int .i64 0)).setCell ⟨P, 1, none⟩ (.slice none 0 0)).setCell ⟨P, 2, none⟩ (.int .i64 0)).setCell ⟨P, 3, none⟩ (.slice none 0 0) = W8 at k8 u8 ⊢
    obtain ⟨r0, r1, r2, r3⟩ := cells4 k8
    have hU : Upd [] w W8 := hu0.trans u8 (fun x hx hl => by simp at hx; omega)
    exact bodyPost_ret (v := .tuple #[.agg #[.int .i64 0, .slice none 0 0, .int .i64 0, .slice none 0 0], .int .i64 1]) (by simp [results, Try.results18, go_sem, r0, r1, r2, r3]) rfl ⟨⟨0, ⟨[], none, 0⟩, 0, ⟨[], none, 0⟩⟩, by rw [hres]; rfl, by rw [hres]; rfl, ⟨hasS_nil LE _, hasS_nil LN _⟩, fun b => ⟨avS_nil _ _ _, avS_nil _ _ _⟩, hU⟩
end Go.Proofs.Ytpneljhplbkdkaa
