
/- P10.1 (PqmodelMatchesReference): the law's walk, over the contracts of the program and of the reference. -/
import Derived.Test.YtpneljhplbkdkaaHP
import Derived.Test.YtpneljhplbkdkaaAP
namespace Go.Proofs.Ytpneljhplbkdkaa
open Go.RowKit Go.Lib

theorem doM_ev_le (m : Md) (c : Ca) (h : Int) : (doM m c h).2.ev.length ≤ 64 := by
  unfold doM
  split
  · unfold insM
    split
    · simp [errR]
    · split
      · simp [errR]
      · split <;> simp [errR]
  · split
    · unfold canM
      split <;> simp [errR]
    · split
      · unfold batM
        split
        · simp [errR]
        · rename_i hr
          have hr := Classical.not_not.1 hr
          have := scanB_le (b := c.b) (mx := c.m) m.es [] (by simp; omega)
          simp only
          omega
      · simp [errR]
theorem accM_small {m : Md} (hm : OkM m) (c : Ca) (r : Rs) : (accM m c r).1.es.length ≤ 64 ∧ (accM m c r).1.is.length ≤ m.is.length + 1 := by
  unfold accM
  split
  · have h1 := doM_ok hm c r.h
    have h2 := h1.len
    have h3 := h1.cap.2
    exact ⟨by simp only; omega, doM_grow m c r.h⟩
  · have h2 := hm.len
    have h3 := hm.cap.2
    exact ⟨by simp only; omega, Nat.le_succ _⟩
theorem newM_small (n : Int) : (newM n).1.es = [] ∧ (newM n).1.is = [] := by
  unfold newM
  split <;> exact ⟨rfl, rfl⟩
set_option maxRecDepth 100000 in
set_option maxHeartbeats 16000000 in
theorem Matches_any (raw : MdR) (c : Int) (la : Option Addr) (lc : Nat) (l : List St) (s : St) (r : RsR) (sz : Int) (w : World) (hraw : HasM w raw) (hc : 0 ≤ c ∧ c < 256) (hr : Row LP w la l) (hlm : l.length ≤ maxLen) (hrv : HasS LV w r.ev) (hv : r.ev.l.length ≤ maxLen) :
    Calls Try.prog 3 #[encM raw, .int .u8 c, .slice la l.length lc, encS s, encR r, .int .i64 sz] w fun e w' => e = .returned (.bool true) ∧ Upd [] w w' := by
  have HHD := Lib.hid (fun W => Head_has W)
  have HMD := Lib.hid (fun W (hu : Upd [] w W) => Made_has c la lc l W hc (hr.stay hu) hlm)
  have hok0 := madeM_ok c l
  have HSM := Lib.hid (fun W => Small_has raw W)
  have HRS : Hid (smallB raw.md = true → raw.es.l.length ≤ 100 ∧ raw.is.l.length ≤ 200) := fun h => by unfold smallB at h; simp only [Bool.and_eq_true, decide_eq_true_eq] at h; exact h
  generalize smallB raw.md = bs at *
  obtain ⟨n, hn⟩ : ∃ n, n = l.length := ⟨_, rfl⟩
  rw [← hn] at HMD ⊢
  generalize madeM c l = g0 at *
  obtain ⟨hok0, hli0⟩ := hok0
  have hvm : r.ev.l.length ≤ 9223372036854775807 := hv
  have HRAW := Lib.hid hraw; have HRV := Lib.hid hrv; have HOK0 := Lib.hid hok0; have HLI0 := Lib.hid hli0
  obtain ⟨⟨ck, ct, ch, cm, cb⟩, hh⟩ := s
  unfold encS
  simp only
  clear hr hn hlm hc hraw hrv hok0 hli0 hv
  unfold encM cellsM encR cellsR
  unfold encM cellsM at HSM
  go_enter Try.func3, Try.ntmps3
  go_upto_region 1 with (fail)
  obtain ⟨hu0, b0, b1, b2, hs0⟩ := three_boxes w (.cells #[.int .i64 raw.cap, .slice raw.es.ad raw.es.l.length raw.es.cap, .int .i64 raw.nx, .slice raw.is.ad raw.is.l.length raw.is.cap] 25) (.cells #[.int .i64 ck, .int .i64 ct, .int .i64 ch, .int .i64 cm, .int .i64 cb, .int .i64 hh] 30) (.cells #[.int .i64 r.e, .int .i64 r.h, .bool r.c, .slice r.ev.ad r.ev.l.length r.ev.cap] 34)
  generalize ((w.alloc (.cells #[.int .i64 raw.cap, .slice raw.es.ad raw.es.l.length raw.es.cap, .int .i64 raw.nx, .slice raw.is.ad raw.is.l.length raw.is.cap] 25)).alloc (.cells #[.int .i64 ck, .int .i64 ct, .int .i64 ch, .int .i64 cm, .int .i64 cb, .int .i64 hh] 30)).alloc (.cells #[.int .i64 r.e, .int .i64 r.h, .bool r.c, .slice r.ev.ad r.ev.l.length r.ev.cap] 34) = W0 at *
  generalize w.heap.size = P at *
  have HU0 := Lib.hid hu0; have HB0 := Lib.hid b0; have HB1 := Lib.hid b1; have HB2 := Lib.hid b2
  clear hu0 b0 b1 b2 hs0
  go_upto_region 2 with (go_at_call 9; (with_reducible refine (HHD.out _).mono ?_); rintro e w1 ⟨rfl, hu1⟩; have HU1 := Lib.hid (HU0.out.thn hu1); have HA1 := Lib.hid (hu1.at HB0.out (by simp)); have HS1 := Lib.hid (hu1.at HB1.out (by simp)); have HR1 := Lib.hid (hu1.at HB2.out (by simp)); clear hu1)
  clear HHD HU0 HB0 HB1 HB2
  cases bs with
  | false =>
    clear HMD HOK0 HLI0 HRS hvm HRAW HRV
    obtain ⟨x0, x1, x2, x3⟩ := cells4 HA1.out
    obtain ⟨r0, r1, r2, r3⟩ := cells4 HR1.out
    have j0 := kept_at x0; have j1 := kept_at x1; have j2 := kept_at x2; have j3 := kept_at x3; have k3 := kept_at r3
    clear x0 x1 x2 x3 r0 r1 r2 r3
    refine wp_region_quiet_kept mixed (by kernel_rfl) ?_
    have HSMK := Lib.hid (fun (p : Kept w1) => HSM.out p.x)
    repeat (go_big_quiet_step (first | (go_at_call 10; exact calls_kept (HSMK.out _))))
    refine wpQuiet_nil ?_
    intro w2 hw'
    obtain ⟨⟨Wy, hd⟩, hw''⟩ := hw'
    simp only at hw''
    subst hw''
    have HU2 := Lib.hid (HU1.out.thn hd); have HA2 := Lib.hid (hd.at HA1.out (by simp)); have HS2 := Lib.hid (hd.at HS1.out (by simp)); have HR2 := Lib.hid (hd.at HR1.out (by simp))
    clear j0 j1 j2 j3 k3 hd HSMK HA1 HS1 HR1 HU1
    obtain ⟨x0, x1, x2, x3⟩ := cells4 HA2.out
    obtain ⟨r0, r1, r2, r3⟩ := cells4 HR2.out
    go_wp2_with (go_at_call 10; (with_reducible refine (HSM.out _).mono ?_); rintro e w3 ⟨rfl, hu3⟩; have HU3 := Lib.hid (HU2.out.thn hu3); have hr3 := hu3.cell r3 (by simp); clear hu3)
    go_ret
    exact ⟨rfl, HU3.out⟩
  | true =>
    obtain ⟨hs1, hs2⟩ := HRS.out rfl
    by_cases hev : 100 < r.ev.l.length
    · have g1 : decide (100 < r.ev.l.length) = true := decide_eq_true hev
      have g2 : decide ((100 : Int) < (r.ev.l.length : Int)) = true := decide_eq_true (by omega)
      clear HMD HOK0 HLI0 HRS HRAW HRV
      obtain ⟨x0, x1, x2, x3⟩ := cells4 HA1.out
      obtain ⟨r0, r1, r2, r3⟩ := cells4 HR1.out
      have j0 := kept_at x0; have j1 := kept_at x1; have j2 := kept_at x2; have j3 := kept_at x3; have k3 := kept_at r3
      clear x0 x1 x2 x3 r0 r1 r2 r3
      refine wp_region_quiet_kept mixed (by kernel_rfl) ?_
      have HSMK := Lib.hid (fun (p : Kept w1) => HSM.out p.x)
      repeat (go_big_quiet_step (first | (go_at_call 10; exact calls_kept (HSMK.out _))))
      refine wpQuiet_nil ?_
      intro w2 hw'
      obtain ⟨⟨Wy, hd⟩, hw''⟩ := hw'
      simp only at hw''
      subst hw''
      have HU2 := Lib.hid (HU1.out.thn hd); have HA2 := Lib.hid (hd.at HA1.out (by simp)); have HS2 := Lib.hid (hd.at HS1.out (by simp)); have HR2 := Lib.hid (hd.at HR1.out (by simp))
      clear j0 j1 j2 j3 k3 hd HSMK HA1 HS1 HR1 HU1
      obtain ⟨x0, x1, x2, x3⟩ := cells4 HA2.out
      obtain ⟨r0, r1, r2, r3⟩ := cells4 HR2.out
      go_wp2_with (go_at_call 10; (with_reducible refine (HSM.out _).mono ?_); rintro e w3 ⟨rfl, hu3⟩; have HU3 := Lib.hid (HU2.out.thn hu3); have hr3 := hu3.cell r3 (by simp); clear hu3)
      go_ret
      exact ⟨rfl, HU3.out⟩
    · have g1 : decide (100 < r.ev.l.length) = false := decide_eq_false hev
      have g2 : decide ((100 : Int) < (r.ev.l.length : Int)) = false := decide_eq_false (by omega)
      have hv1 := fun W (hu : Upd [] w W) => PValid_has raw W (HRAW.out.stay hu) (by omega) (by omega)
      have hv2 := fun W (hu : Upd [] w W) => RValid_has raw W (HRAW.out.stay hu) (by omega) (by omega)
      have hvi : validB raw.md = true → OkM raw.md := fun h => validB_iff.1 h
      generalize validB raw.md = bv at *
      have hbb : (bv != bv) = false := by simp
      unfold encM cellsM at hv1 hv2
      have HV1 := Lib.hid hv1; have HV2 := Lib.hid hv2; have HVI := Lib.hid hvi
      clear hv1 hv2 hvi HRS
      have HVK := Lib.hid (fun (p : Kept w1) => HV1.out p.x (HU1.out.thn p.up)); have HVR := Lib.hid (fun (p : Kept w1) => HV2.out p.x (HU1.out.thn p.up))
      obtain ⟨x0, x1, x2, x3⟩ := cells4 HA1.out
      obtain ⟨r0, r1, r2, r3⟩ := cells4 HR1.out
      have j0 := kept_at x0; have j1 := kept_at x1; have j2 := kept_at x2; have j3 := kept_at x3; have k3 := kept_at r3
      clear x0 x1 x2 x3 r0 r1 r2 r3
      refine wp_region_quiet_kept mixed (by kernel_rfl) ?_
      have HSMK := Lib.hid (fun (p : Kept w1) => HSM.out p.x)
      repeat (go_big_quiet_step (first | (go_at_call 10; exact calls_kept (HSMK.out _)) | (go_at_call 11; exact calls_kept (HVK.out _)) | (go_at_call 12; exact calls_kept (HVR.out _))))
      refine wpQuiet_nil ?_
      intro w2 hw'
      obtain ⟨⟨Wy, hd⟩, hw''⟩ := hw'
      simp only at hw''
      subst hw''
      have HU2 := Lib.hid (HU1.out.thn hd); have HA2 := Lib.hid (hd.at HA1.out (by simp)); have HS2 := Lib.hid (hd.at HS1.out (by simp)); have HR2 := Lib.hid (hd.at HR1.out (by simp))
      clear j0 j1 j2 j3 k3 hd HSMK HA1 HS1 HR1 HU1
      clear HVK HVR HV1 g1 g2 hbb
      go_upto_region 5 with (go_at_call 13; (with_reducible refine (HMD.out _ HU2.out).mono ?_); rintro e w3 ⟨x, rfl, hM⟩; unfold encM cellsM)
      have hal := (Upd.refl [] w3).alloc (.cells #[.int .i64 x.cap, .slice x.es.ad x.es.l.length x.es.cap, .int .i64 x.nx, .slice x.is.ad x.is.l.length x.is.cap] 25)
      have b3 := heap_alloc1 w3 (.cells #[.int .i64 x.cap, .slice x.es.ad x.es.l.length x.es.cap, .int .i64 x.nx, .slice x.is.ad x.is.l.length x.is.cap] 25)
      generalize w3.alloc (.cells #[.int .i64 x.cap, .slice x.es.ad x.es.l.length x.es.cap, .int .i64 x.nx, .slice x.is.ad x.is.l.length x.is.cap] 25) = W3 at *
      have HPW : Hid (w.heap.size ≤ w3.heap.size) := Lib.hid (Nat.le_trans HU2.out.size hM.upd.size)
      have HPS : Hid (P + 1 + 1 < w3.heap.size) := Lib.hid (lt_block (hM.upd.at HR2.out (by simp)))
      generalize w3.heap.size = PM at *
      have hup := hM.upd.thn hal
      have HU3 := Lib.hid (HU2.out.thn hup); have HA3 := Lib.hid (hup.at HA2.out (by simp)); have HS3 := Lib.hid (hup.at HS2.out (by simp)); have HR3 := Lib.hid (hup.at HR2.out (by simp)); have HB3 := Lib.hid b3; have HX3 := Lib.hid (hM.has.stay hal); have HXM := Lib.hid hM.md
      clear hM hal b3 hup HMD HU2 HA2 HS2 HR2
      obtain ⟨x0, x1, x2, x3⟩ := cells4 HA3.out
      cases bv with
      | false =>
        clear HVI
        go_upto_region 7 with (go_at_call 12; (with_reducible refine (HV2.out _ HU3.out).mono ?_); rintro e w4 ⟨rfl, hu4⟩; have HU4 := Lib.hid (HU3.out.thn hu4); have HA4 := Lib.hid (hu4.at HA3.out (by simp)); have HS4 := Lib.hid (hu4.at HS3.out (by simp)); have HR4 := Lib.hid (hu4.at HR3.out (by simp)); have HB4 := Lib.hid (hu4.at HB3.out (by simp)); have HX4 := Lib.hid (HX3.out.stay hu4); clear hu4 HU3 HA3 HS3 HR3 HB3 HX3)
        clear x0 x1 x2 x3 HV2
        have HOKX : Hid (OkM x.md) := Lib.hid (by rw [HXM.out]; exact HOK0.out)
        have HLIX : Hid (x.is.l.length ≤ 200) := Lib.hid (by have h := HLI0.out; rw [← HXM.out] at h; simp only [MdR.md] at h; omega)
        have HDV := Lib.hid (fun W' (hu : Upd [] w4 W') => PDo_has x ⟨ck, ct, ch, cm, cb⟩ hh W' (HX4.out.stay hu) HOKX.out (by have := HLIX.out; omega))
        have hok1 := HOKX.out
        have hl64 := ok_len hok1
        have hnx := hok1.nx
        simp only [MdR.md] at hnx
        have HRD := Lib.hid (fun W' (hu : Upd [] w4 W') => RDo_has x ⟨ck, ct, ch, cm, cb⟩ hh W' (HX4.out.stay hu) (by omega) (by have := HLIX.out; omega) (by have := HLIX.out; omega))
        have HPA := Lib.hid (fun W' (hu : Upd [] w4 W') (hrv : HasS LV W' r.ev) => PAccepts_has x ⟨ck, ct, ch, cm, cb⟩ r W' (HX4.out.stay hu) hrv HOKX.out (by have := HLIX.out; omega) (by omega))
        have HRA := Lib.hid (fun W' (hu : Upd [] w4 W') (hrv : HasS LV W' r.ev) => RAccepts_has x ⟨ck, ct, ch, cm, cb⟩ r W' (HX4.out.stay hu) hrv (by omega) (by have := HLIX.out; omega) (by have := HLIX.out; omega) (by omega))
        have hd1 := doM_ok hok1 ⟨ck, ct, ch, cm, cb⟩ hh
        have hd2 := doM_grow x.md ⟨ck, ct, ch, cm, cb⟩ hh
        have hd3 := doM_ev_le x.md ⟨ck, ct, ch, cm, cb⟩ hh
        have hd4 := accM_small hok1 ⟨ck, ct, ch, cm, cb⟩ r.rs
        have hil : x.md.is.length ≤ 200 := HLIX.out
        generalize doM x.md ⟨ck, ct, ch, cm, cb⟩ hh = gd at *
        generalize accM x.md ⟨ck, ct, ch, cm, cb⟩ r.rs = ga at *
        have HGD : Hid (∀ y : MdR, y.md = gd.1 → y.es.l.length ≤ 64 ∧ y.is.l.length ≤ 201) := fun y hy => ⟨ok_len (hy ▸ hd1), by have h := hd2; rw [← hy] at h; simp only [MdR.md] at h hil; omega⟩
        have HGE : Hid (∀ y : RsR, y.rs = gd.2 → y.ev.l.length ≤ 64) := fun y hy => by have h := hd3; rw [← hy] at h; exact h
        have HGA : Hid (∀ y : MdR, y.md = ga.1 → y.es.l.length ≤ 64 ∧ y.is.l.length ≤ 201) := fun y hy => by have h := hd4; rw [← hy] at h; simp only [MdR.md] at h hil; omega
        have hn0 := newM_small sz
        have HPN := Lib.hid (fun W' => PNew_has sz W'); have HRN := Lib.hid (fun W' => RNew_has sz W')
        unfold GivesN encM cellsM at HPN HRN
        generalize newM sz = gn at *
        have HGN : Hid (∀ y : MdR, y.md = gn.1 → y.es.l.length ≤ 64 ∧ y.is.l.length ≤ 201) := fun y hy => by have h := hn0; rw [← hy] at h; simp only [MdR.md] at h; rw [h.1, h.2]; simp
        clear hok1 hl64 hnx hd1 hd2 hd3 hd4 hil hn0
        unfold GivesM encM encC encR cellsM cellsR at HDV HRD
        unfold GivesA encM encC encR cellsM cellsR at HPA HRA
        simp only at HDV HRD HPA HRA
        have HVw4 : Hid (Upd [] w4 w4) := Lib.hid (Upd.refl [] _)
        have HREV := Lib.hid (HRV.out.stay HU4.out)
        obtain ⟨x0, x1, x2, x3⟩ := cells4 HB4.out
        obtain ⟨s0, s1, s2, s3, s4, s5⟩ := cells6 HS4.out
        go_upto_region 8 with (go_at_call 14; (with_reducible refine (HDV.out _ HVw4.out).mono ?_); rintro e w11 ⟨a, xa, rfl, hD⟩)
        obtain ⟨hal, b3, b4, -⟩ := two_boxes w11 (.cells #[.int .i64 a.cap, .slice a.es.ad a.es.l.length a.es.cap, .int .i64 a.nx, .slice a.is.ad a.is.l.length a.is.cap] 25) (.cells #[.int .i64 xa.e, .int .i64 xa.h, .bool xa.c, .slice xa.ev.ad xa.ev.l.length xa.ev.cap] 34)
        generalize (w11.alloc (.cells #[.int .i64 a.cap, .slice a.es.ad a.es.l.length a.es.cap, .int .i64 a.nx, .slice a.is.ad a.is.l.length a.is.cap] 25)).alloc (.cells #[.int .i64 xa.e, .int .i64 xa.h, .bool xa.c, .slice xa.ev.ad xa.ev.l.length xa.ev.cap] 34) = W11 at *
        generalize w11.heap.size = P11 at *
        have hup := hD.upd.thn hal
        have HV11 := Lib.hid (HVw4.out.thn hup)
        clear x0 x1 x2 x3 s0 s1 s2 s3 s4 s5
        have Bxm11 := Lib.hid (hup.at HB4.out (by simp))
        clear HB4
        have Bxs11 := Lib.hid (hup.at HS4.out (by simp))
        clear HS4
        have Bxr11 := Lib.hid (hup.at HR4.out (by simp))
        clear HR4
        have abox := Lib.hid b3; have xabox := Lib.hid b4; have ahas := Lib.hid (hD.has.stay hal); have xahas := Lib.hid (hD.ev.stay hal); have amd := Lib.hid hD.md; have xars := Lib.hid hD.rs
        clear hD hal b3 b4 hup HVw4 HDV
        obtain ⟨x0, x1, x2, x3⟩ := cells4 Bxm11.out
        obtain ⟨s0, s1, s2, s3, s4, s5⟩ := cells6 Bxs11.out
        go_upto_region 9 with (go_at_call 15; (with_reducible refine (HRD.out _ HV11.out).mono ?_); rintro e w12 ⟨b, xb, rfl, hD⟩)
        obtain ⟨hal, b3, b4, -⟩ := two_boxes w12 (.cells #[.int .i64 b.cap, .slice b.es.ad b.es.l.length b.es.cap, .int .i64 b.nx, .slice b.is.ad b.is.l.length b.is.cap] 25) (.cells #[.int .i64 xb.e, .int .i64 xb.h, .bool xb.c, .slice xb.ev.ad xb.ev.l.length xb.ev.cap] 34)
        generalize (w12.alloc (.cells #[.int .i64 b.cap, .slice b.es.ad b.es.l.length b.es.cap, .int .i64 b.nx, .slice b.is.ad b.is.l.length b.is.cap] 25)).alloc (.cells #[.int .i64 xb.e, .int .i64 xb.h, .bool xb.c, .slice xb.ev.ad xb.ev.l.length xb.ev.cap] 34) = W12 at *
        generalize w12.heap.size = P12 at *
        have hup := hD.upd.thn hal
        have HV12 := Lib.hid (HV11.out.thn hup)
        clear x0 x1 x2 x3 s0 s1 s2 s3 s4 s5
        have Bxm12 := Lib.hid (hup.at Bxm11.out (by simp))
        clear Bxm11
        have Bxs12 := Lib.hid (hup.at Bxs11.out (by simp))
        clear Bxs11
        have Bxr12 := Lib.hid (hup.at Bxr11.out (by simp))
        clear Bxr11
        have Hxa12 := Lib.hid (hup.at abox.out (by simp))
        clear abox
        have Hxxa12 := Lib.hid (hup.at xabox.out (by simp))
        clear xabox
        have Sxa12 := Lib.hid (ahas.out.stay hup)
        clear ahas
        have Sxxa12 := Lib.hid (xahas.out.stay hup)
        clear xahas
        have bbox := Lib.hid b3; have xbbox := Lib.hid b4; have bhas := Lib.hid (hD.has.stay hal); have xbhas := Lib.hid (hD.ev.stay hal); have bmd := Lib.hid hD.md; have xbrs := Lib.hid hD.rs
        clear hD hal b3 b4 hup HV11 HRD
        obtain ⟨x0, x1, x2, x3⟩ := cells4 Bxm12.out
        obtain ⟨s0, s1, s2, s3, s4, s5⟩ := cells6 Bxs12.out
        obtain ⟨r0, r1, r2, r3⟩ := cells4 Bxr12.out
        have hrv := HREV.out.stay HV12.out
        go_upto_region 10 with (go_at_call 16; (with_reducible refine (HPA.out _ HV12.out hrv).mono ?_); rintro e w13 ⟨c, rfl, hmd, hhas, -, hupd⟩)
        obtain ⟨hal, b3⟩ := one_box w13 (.cells #[.int .i64 c.cap, .slice c.es.ad c.es.l.length c.es.cap, .int .i64 c.nx, .slice c.is.ad c.is.l.length c.is.cap] 25)
        generalize w13.alloc (.cells #[.int .i64 c.cap, .slice c.es.ad c.es.l.length c.es.cap, .int .i64 c.nx, .slice c.is.ad c.is.l.length c.is.cap] 25) = W13 at *
        generalize w13.heap.size = P13 at *
        have hup := hupd.thn hal
        have HV13 := Lib.hid (HV12.out.thn hup)
        clear hrv x0 x1 x2 x3 s0 s1 s2 s3 s4 s5 r0 r1 r2 r3
        have Bxm13 := Lib.hid (hup.at Bxm12.out (by simp))
        clear Bxm12
        have Bxs13 := Lib.hid (hup.at Bxs12.out (by simp))
        clear Bxs12
        have Bxr13 := Lib.hid (hup.at Bxr12.out (by simp))
        clear Bxr12
        have Hxa13 := Lib.hid (hup.at Hxa12.out (by simp))
        clear Hxa12
        have Hxxa13 := Lib.hid (hup.at Hxxa12.out (by simp))
        clear Hxxa12
        have Hxb13 := Lib.hid (hup.at bbox.out (by simp))
        clear bbox
        have Hxxb13 := Lib.hid (hup.at xbbox.out (by simp))
        clear xbbox
        have Sxa13 := Lib.hid (Sxa12.out.stay hup)
        clear Sxa12
        have Sxxa13 := Lib.hid (Sxxa12.out.stay hup)
        clear Sxxa12
        have Sxb13 := Lib.hid (bhas.out.stay hup)
        clear bhas
        have Sxxb13 := Lib.hid (xbhas.out.stay hup)
        clear xbhas
        have cbox := Lib.hid b3; have chas := Lib.hid (hhas.stay hal); have cmd := Lib.hid hmd
        clear hmd hhas hupd hal b3 hup HV12 HPA
        obtain ⟨x0, x1, x2, x3⟩ := cells4 Bxm13.out
        obtain ⟨s0, s1, s2, s3, s4, s5⟩ := cells6 Bxs13.out
        obtain ⟨r0, r1, r2, r3⟩ := cells4 Bxr13.out
        have hrv := HREV.out.stay HV13.out
        go_upto_region 11 with (go_at_call 17; (with_reducible refine (HRA.out _ HV13.out hrv).mono ?_); rintro e w14 ⟨d, rfl, hmd, hhas, -, hupd⟩)
        obtain ⟨hal, b3⟩ := one_box w14 (.cells #[.int .i64 d.cap, .slice d.es.ad d.es.l.length d.es.cap, .int .i64 d.nx, .slice d.is.ad d.is.l.length d.is.cap] 25)
        generalize w14.alloc (.cells #[.int .i64 d.cap, .slice d.es.ad d.es.l.length d.es.cap, .int .i64 d.nx, .slice d.is.ad d.is.l.length d.is.cap] 25) = W14 at *
        generalize w14.heap.size = P14 at *
        have hup := hupd.thn hal
        have HV14 := Lib.hid (HV13.out.thn hup)
        clear hrv x0 x1 x2 x3 s0 s1 s2 s3 s4 s5 r0 r1 r2 r3
        have Bxm14 := Lib.hid (hup.at Bxm13.out (by simp))
        clear Bxm13
        have Bxs14 := Lib.hid (hup.at Bxs13.out (by simp))
        clear Bxs13
        have Bxr14 := Lib.hid (hup.at Bxr13.out (by simp))
        clear Bxr13
        have Hxa14 := Lib.hid (hup.at Hxa13.out (by simp))
        clear Hxa13
        have Hxxa14 := Lib.hid (hup.at Hxxa13.out (by simp))
        clear Hxxa13
        have Hxb14 := Lib.hid (hup.at Hxb13.out (by simp))
        clear Hxb13
        have Hxxb14 := Lib.hid (hup.at Hxxb13.out (by simp))
        clear Hxxb13
        have Hxc14 := Lib.hid (hup.at cbox.out (by simp))
        clear cbox
        have Sxa14 := Lib.hid (Sxa13.out.stay hup)
        clear Sxa13
        have Sxxa14 := Lib.hid (Sxxa13.out.stay hup)
        clear Sxxa13
        have Sxb14 := Lib.hid (Sxb13.out.stay hup)
        clear Sxb13
        have Sxxb14 := Lib.hid (Sxxb13.out.stay hup)
        clear Sxxb13
        have Sxc14 := Lib.hid (chas.out.stay hup)
        clear chas
        have dbox := Lib.hid b3; have dhas := Lib.hid (hhas.stay hal); have dmd := Lib.hid hmd
        clear hmd hhas hupd hal b3 hup HV13 HRA
        go_upto_region 12 with (go_at_call 18; (with_reducible refine (HPN.out _).mono ?_); rintro e w15 ⟨u, rfl, hmd, hhas, -, hupd⟩)
        obtain ⟨hal, b3⟩ := one_box w15 (.cells #[.int .i64 u.cap, .slice u.es.ad u.es.l.length u.es.cap, .int .i64 u.nx, .slice u.is.ad u.is.l.length u.is.cap] 25)
        generalize w15.alloc (.cells #[.int .i64 u.cap, .slice u.es.ad u.es.l.length u.es.cap, .int .i64 u.nx, .slice u.is.ad u.is.l.length u.is.cap] 25) = W15 at *
        generalize w15.heap.size = P15 at *
        have hup := hupd.thn hal
        have HV15 := Lib.hid (HV14.out.thn hup)
        have Bxm15 := Lib.hid (hup.at Bxm14.out (by simp))
        clear Bxm14
        have Bxs15 := Lib.hid (hup.at Bxs14.out (by simp))
        clear Bxs14
        have Bxr15 := Lib.hid (hup.at Bxr14.out (by simp))
        clear Bxr14
        have Hxa15 := Lib.hid (hup.at Hxa14.out (by simp))
        clear Hxa14
        have Hxxa15 := Lib.hid (hup.at Hxxa14.out (by simp))
        clear Hxxa14
        have Hxb15 := Lib.hid (hup.at Hxb14.out (by simp))
        clear Hxb14
        have Hxxb15 := Lib.hid (hup.at Hxxb14.out (by simp))
        clear Hxxb14
        have Hxc15 := Lib.hid (hup.at Hxc14.out (by simp))
        clear Hxc14
        have Hxd15 := Lib.hid (hup.at dbox.out (by simp))
        clear dbox
        have Sxa15 := Lib.hid (Sxa14.out.stay hup)
        clear Sxa14
        have Sxxa15 := Lib.hid (Sxxa14.out.stay hup)
        clear Sxxa14
        have Sxb15 := Lib.hid (Sxb14.out.stay hup)
        clear Sxb14
        have Sxxb15 := Lib.hid (Sxxb14.out.stay hup)
        clear Sxxb14
        have Sxc15 := Lib.hid (Sxc14.out.stay hup)
        clear Sxc14
        have Sxd15 := Lib.hid (dhas.out.stay hup)
        clear dhas
        have ubox := Lib.hid b3; have uhas := Lib.hid (hhas.stay hal); have umd := Lib.hid hmd
        clear hmd hhas hupd hal b3 hup HV14 HPN
        go_upto_region 13 with (go_at_call 19; (with_reducible refine (HRN.out _).mono ?_); rintro e w16 ⟨v, rfl, hmd, hhas, -, hupd⟩)
        obtain ⟨hal, b3⟩ := one_box w16 (.cells #[.int .i64 v.cap, .slice v.es.ad v.es.l.length v.es.cap, .int .i64 v.nx, .slice v.is.ad v.is.l.length v.is.cap] 25)
        generalize w16.alloc (.cells #[.int .i64 v.cap, .slice v.es.ad v.es.l.length v.es.cap, .int .i64 v.nx, .slice v.is.ad v.is.l.length v.is.cap] 25) = W16 at *
        generalize w16.heap.size = P16 at *
        have hup := hupd.thn hal
        have HV16 := Lib.hid (HV15.out.thn hup)
        have Bxm16 := Lib.hid (hup.at Bxm15.out (by simp))
        clear Bxm15
        have Bxs16 := Lib.hid (hup.at Bxs15.out (by simp))
        clear Bxs15
        have Bxr16 := Lib.hid (hup.at Bxr15.out (by simp))
        clear Bxr15
        have Hxa16 := Lib.hid (hup.at Hxa15.out (by simp))
        clear Hxa15
        have Hxxa16 := Lib.hid (hup.at Hxxa15.out (by simp))
        clear Hxxa15
        have Hxb16 := Lib.hid (hup.at Hxb15.out (by simp))
        clear Hxb15
        have Hxxb16 := Lib.hid (hup.at Hxxb15.out (by simp))
        clear Hxxb15
        have Hxc16 := Lib.hid (hup.at Hxc15.out (by simp))
        clear Hxc15
        have Hxd16 := Lib.hid (hup.at Hxd15.out (by simp))
        clear Hxd15
        have Hxu16 := Lib.hid (hup.at ubox.out (by simp))
        clear ubox
        have Sxa16 := Lib.hid (Sxa15.out.stay hup)
        clear Sxa15
        have Sxxa16 := Lib.hid (Sxxa15.out.stay hup)
        clear Sxxa15
        have Sxb16 := Lib.hid (Sxb15.out.stay hup)
        clear Sxb15
        have Sxxb16 := Lib.hid (Sxxb15.out.stay hup)
        clear Sxxb15
        have Sxc16 := Lib.hid (Sxc15.out.stay hup)
        clear Sxc15
        have Sxd16 := Lib.hid (Sxd15.out.stay hup)
        clear Sxd15
        have Sxu16 := Lib.hid (uhas.out.stay hup)
        clear uhas
        have vbox := Lib.hid b3; have vhas := Lib.hid (hhas.stay hal); have vmd := Lib.hid hmd
        clear hmd hhas hupd hal b3 hup HV15 HRN
        have hrv := HREV.out.stay HV16.out
        have hsab := fun (z : Kept W16) => (decide_eq_true (amd.out.trans bmd.out.symm) : decide (a.md = b.md) = true) ▸ RSame_has a b z.x (Sxa16.out.stay z.up) (Sxb16.out.stay z.up) (by have := HGD.out a amd.out; omega) (by have := HGD.out a amd.out; omega)
        have hscd := fun (z : Kept W16) => (decide_eq_true (cmd.out.trans dmd.out.symm) : decide (c.md = d.md) = true) ▸ RSame_has c d z.x (Sxc16.out.stay z.up) (Sxd16.out.stay z.up) (by have := HGA.out c cmd.out; omega) (by have := HGA.out c cmd.out; omega)
        have hsuv := fun (z : Kept W16) => (decide_eq_true (umd.out.trans vmd.out.symm) : decide (u.md = v.md) = true) ▸ RSame_has u v z.x (Sxu16.out.stay z.up) (vhas.out.stay z.up) (by have := HGN.out u umd.out; omega) (by have := HGN.out u umd.out; omega)
        have hexy := fun (z : Kept W16) => (decide_eq_true (xars.out.trans xbrs.out.symm) : decide (xa.rs = xb.rs) = true) ▸ REqual_has xa xb z.x (Sxxa16.out.stay z.up) (Sxxb16.out.stay z.up) (by have := HGE.out xa xars.out; omega)
        have hpr := fun (z : Kept W16) => PEqual_has xa r z.x (Sxxa16.out.stay z.up) (hrv.stay z.up) (by have := HGE.out xa xars.out; omega)
        have hrr := fun (z : Kept W16) => REqual_has xa r z.x (Sxxa16.out.stay z.up) (hrv.stay z.up) (by have := HGE.out xa xars.out; omega)
        generalize decide (xa.rs = r.rs) = bq at hpr hrr
        unfold encM cellsM at hsab hscd hsuv
        unfold encR cellsR at hexy hpr hrr
        have HSA := Lib.hid hsab; have HSC := Lib.hid hscd; have HSN := Lib.hid hsuv; have HEX := Lib.hid hexy; have HEP := Lib.hid hpr; have HER := Lib.hid hrr
        have t1 : (ga.2 == ga.2) = true := by simp
        have t2 : (gn.2 == gn.2) = true := by simp
        have t3 : (bq == bq) = true := by simp
        have HUE := Lib.hid (HU4.out.thn HV16.out)
        clear hsab hscd hsuv hexy hpr hrr hrv HGD HGE HGA HGN
        obtain ⟨a0, a1, a2, a3⟩ := cells4 Hxa16.out
        have ka0 := kept_at a0; have ka1 := kept_at a1; have ka2 := kept_at a2; have ka3 := kept_at a3
        clear a0 a1 a2 a3
        obtain ⟨xa0, xa1, xa2, xa3⟩ := cells4 Hxxa16.out
        have kxa0 := kept_at xa0; have kxa1 := kept_at xa1; have kxa2 := kept_at xa2; have kxa3 := kept_at xa3
        clear xa0 xa1 xa2 xa3
        obtain ⟨b0, b1, b2, b3⟩ := cells4 Hxb16.out
        have kb0 := kept_at b0; have kb1 := kept_at b1; have kb2 := kept_at b2; have kb3 := kept_at b3
        clear b0 b1 b2 b3
        obtain ⟨xb0, xb1, xb2, xb3⟩ := cells4 Hxxb16.out
        have kxb0 := kept_at xb0; have kxb1 := kept_at xb1; have kxb2 := kept_at xb2; have kxb3 := kept_at xb3
        clear xb0 xb1 xb2 xb3
        obtain ⟨c0, c1, c2, c3⟩ := cells4 Hxc16.out
        have kc0 := kept_at c0; have kc1 := kept_at c1; have kc2 := kept_at c2; have kc3 := kept_at c3
        clear c0 c1 c2 c3
        obtain ⟨d0, d1, d2, d3⟩ := cells4 Hxd16.out
        have kd0 := kept_at d0; have kd1 := kept_at d1; have kd2 := kept_at d2; have kd3 := kept_at d3
        clear d0 d1 d2 d3
        obtain ⟨u0, u1, u2, u3⟩ := cells4 Hxu16.out
        have ku0 := kept_at u0; have ku1 := kept_at u1; have ku2 := kept_at u2; have ku3 := kept_at u3
        clear u0 u1 u2 u3
        obtain ⟨v0, v1, v2, v3⟩ := cells4 vbox.out
        have kv0 := kept_at v0; have kv1 := kept_at v1; have kv2 := kept_at v2; have kv3 := kept_at v3
        clear v0 v1 v2 v3
        obtain ⟨r0, r1, r2, r3⟩ := cells4 Bxr16.out
        have kr0 := kept_at r0; have kr1 := kept_at r1; have kr2 := kept_at r2; have kr3 := kept_at r3
        clear r0 r1 r2 r3
        generalize ga.2 = ob at *
        generalize gn.2 = nb at *
        refine wp_region_quiet_kept mixed (by kernel_rfl) ?_
        repeat (go_big_quiet_step (first | (go_at_call 20; first | with_reducible exact calls_kept (HSA.out _) | with_reducible exact calls_kept (HSC.out _) | with_reducible exact calls_kept (HSN.out _)) | (go_at_call 21; first | with_reducible exact calls_kept (HEX.out _) | with_reducible exact calls_kept (HER.out _)) | (go_at_call 22; with_reducible exact calls_kept (HEP.out _))))
        refine wpQuiet_nil ?_
        intro we hw'
        obtain ⟨⟨Wy, hd⟩, hw''⟩ := hw'
        simp only at hw''
        subst hw''
        have HUF := Lib.hid (HUE.out.thn hd)
        clear hd ka0 ka1 ka2 ka3 kxa0 kxa1 kxa2 kxa3 kb0 kb1 kb2 kb3 kxb0 kxb1 kxb2 kxb3 kc0 kc1 kc2 kc3 kd0 kd1 kd2 kd3 ku0 ku1 ku2 ku3 kv0 kv1 kv2 kv3 kr0 kr1 kr2 kr3
        go_wp2_with fail
        go_ret
        exact ⟨ret_bool (by first | rfl | simp), HUF.out⟩
      | true =>
        go_upto_region 6 with (go_at_call 12; (with_reducible refine (HV2.out _ HU3.out).mono ?_); rintro e w4 ⟨rfl, hu4⟩; have HU4 := Lib.hid (HU3.out.thn hu4); have HA4 := Lib.hid (hu4.at HA3.out (by simp)); have HS4 := Lib.hid (hu4.at HS3.out (by simp)); have HR4 := Lib.hid (hu4.at HR3.out (by simp)); have HB4 := Lib.hid (hu4.at HB3.out (by simp)); have HX4 := Lib.hid (HX3.out.stay hu4); clear hu4 HU3 HA3 HS3 HR3 HB3 HX3)
        clear x0 x1 x2 x3 HV2 HX4 HXM HOK0 HLI0
        obtain ⟨x0, x1, x2, x3⟩ := cells4 HA4.out
        obtain ⟨m0, m1, m2, m3⟩ := cells4 HB4.out
        obtain ⟨f0, f1, f2, f3⟩ := free4 HB4.out
        go_upto_region 7 with (fail)
        have k8 := stored4 HB4.out (.int .i64 raw.cap) (.slice raw.es.ad raw.es.l.length raw.es.cap) (.int .i64 raw.nx) (.slice raw.is.ad raw.is.l.length raw.is.cap)
        have u8 := upd_set4 w4 PM (.int .i64 raw.cap) (.slice raw.es.ad raw.es.l.length raw.es.cap) (.int .i64 raw.nx) (.slice raw.is.ad raw.is.l.length raw.is.cap)
        with_reducible generalize (((w4.setCell ⟨PM, 0, none⟩ (.int .i64 raw.cap)).setCell ⟨PM, 1, none⟩ (.slice raw.es.ad raw.es.l.length raw.es.cap)).setCell ⟨PM, 2, none⟩ (.int .i64 raw.nx)).setCell ⟨PM, 3, none⟩ (.slice raw.is.ad raw.is.l.length raw.is.cap) = w5 at k8 u8 ⊢
        have HU5 : Hid (Upd [] w w5) := Lib.hid (HU4.out.trans u8 (fun y hy hl => by have := HPW.out; simp at hy; omega))
        have HS5 := Lib.hid (u8.at HS4.out (by have := HPS.out; simp; omega)); have HR5 := Lib.hid (u8.at HR4.out (by have := HPS.out; simp; omega)); have HB5 := Lib.hid k8
        have HX5 := Lib.hid (HRAW.out.stay HU5.out)
        clear k8 u8 x0 x1 x2 x3 m0 m1 m2 m3 f0 f1 f2 f3 HU4 HA4 HS4 HR4 HB4
        have HOKX := Lib.hid (HVI.out (by first | exact rfl | exact trivial))
        have HLIX : Hid (raw.is.l.length ≤ 200) := Lib.hid (by omega)
        clear HVI
        have HDV := Lib.hid (fun W' (hu : Upd [] w5 W') => PDo_has raw ⟨ck, ct, ch, cm, cb⟩ hh W' (HX5.out.stay hu) HOKX.out (by have := HLIX.out; omega))
        have hok1 := HOKX.out
        have hl64 := ok_len hok1
        have hnx := hok1.nx
        simp only [MdR.md] at hnx
        have HRD := Lib.hid (fun W' (hu : Upd [] w5 W') => RDo_has raw ⟨ck, ct, ch, cm, cb⟩ hh W' (HX5.out.stay hu) (by omega) (by have := HLIX.out; omega) (by have := HLIX.out; omega))
        have HPA := Lib.hid (fun W' (hu : Upd [] w5 W') (hrv : HasS LV W' r.ev) => PAccepts_has raw ⟨ck, ct, ch, cm, cb⟩ r W' (HX5.out.stay hu) hrv HOKX.out (by have := HLIX.out; omega) (by omega))
        have HRA := Lib.hid (fun W' (hu : Upd [] w5 W') (hrv : HasS LV W' r.ev) => RAccepts_has raw ⟨ck, ct, ch, cm, cb⟩ r W' (HX5.out.stay hu) hrv (by omega) (by have := HLIX.out; omega) (by have := HLIX.out; omega) (by omega))
        have hd1 := doM_ok hok1 ⟨ck, ct, ch, cm, cb⟩ hh
        have hd2 := doM_grow raw.md ⟨ck, ct, ch, cm, cb⟩ hh
        have hd3 := doM_ev_le raw.md ⟨ck, ct, ch, cm, cb⟩ hh
        have hd4 := accM_small hok1 ⟨ck, ct, ch, cm, cb⟩ r.rs
        have hil : raw.md.is.length ≤ 200 := HLIX.out
        generalize doM raw.md ⟨ck, ct, ch, cm, cb⟩ hh = gd at *
        generalize accM raw.md ⟨ck, ct, ch, cm, cb⟩ r.rs = ga at *
        have HGD : Hid (∀ y : MdR, y.md = gd.1 → y.es.l.length ≤ 64 ∧ y.is.l.length ≤ 201) := fun y hy => ⟨ok_len (hy ▸ hd1), by have h := hd2; rw [← hy] at h; simp only [MdR.md] at h hil; omega⟩
        have HGE : Hid (∀ y : RsR, y.rs = gd.2 → y.ev.l.length ≤ 64) := fun y hy => by have h := hd3; rw [← hy] at h; exact h
        have HGA : Hid (∀ y : MdR, y.md = ga.1 → y.es.l.length ≤ 64 ∧ y.is.l.length ≤ 201) := fun y hy => by have h := hd4; rw [← hy] at h; simp only [MdR.md] at h hil; omega
        have hn0 := newM_small sz
        have HPN := Lib.hid (fun W' => PNew_has sz W'); have HRN := Lib.hid (fun W' => RNew_has sz W')
        unfold GivesN encM cellsM at HPN HRN
        generalize newM sz = gn at *
        have HGN : Hid (∀ y : MdR, y.md = gn.1 → y.es.l.length ≤ 64 ∧ y.is.l.length ≤ 201) := fun y hy => by have h := hn0; rw [← hy] at h; simp only [MdR.md] at h; rw [h.1, h.2]; simp
        clear hok1 hl64 hnx hd1 hd2 hd3 hd4 hil hn0
        unfold GivesM encM encC encR cellsM cellsR at HDV HRD
        unfold GivesA encM encC encR cellsM cellsR at HPA HRA
        simp only at HDV HRD HPA HRA
        have HVw5 : Hid (Upd [] w5 w5) := Lib.hid (Upd.refl [] _)
        have HREV := Lib.hid (HRV.out.stay HU5.out)
        obtain ⟨x0, x1, x2, x3⟩ := cells4 HB5.out
        obtain ⟨s0, s1, s2, s3, s4, s5⟩ := cells6 HS5.out
        go_upto_region 8 with (go_at_call 14; (with_reducible refine (HDV.out _ HVw5.out).mono ?_); rintro e w11 ⟨a, xa, rfl, hD⟩)
        obtain ⟨hal, b3, b4, -⟩ := two_boxes w11 (.cells #[.int .i64 a.cap, .slice a.es.ad a.es.l.length a.es.cap, .int .i64 a.nx, .slice a.is.ad a.is.l.length a.is.cap] 25) (.cells #[.int .i64 xa.e, .int .i64 xa.h, .bool xa.c, .slice xa.ev.ad xa.ev.l.length xa.ev.cap] 34)
        generalize (w11.alloc (.cells #[.int .i64 a.cap, .slice a.es.ad a.es.l.length a.es.cap, .int .i64 a.nx, .slice a.is.ad a.is.l.length a.is.cap] 25)).alloc (.cells #[.int .i64 xa.e, .int .i64 xa.h, .bool xa.c, .slice xa.ev.ad xa.ev.l.length xa.ev.cap] 34) = W11 at *
        generalize w11.heap.size = P11 at *
        have hup := hD.upd.thn hal
        have HV11 := Lib.hid (HVw5.out.thn hup)
        clear x0 x1 x2 x3 s0 s1 s2 s3 s4 s5
        have Bxm11 := Lib.hid (hup.at HB5.out (by simp))
        clear HB5
        have Bxs11 := Lib.hid (hup.at HS5.out (by simp))
        clear HS5
        have Bxr11 := Lib.hid (hup.at HR5.out (by simp))
        clear HR5
        have abox := Lib.hid b3; have xabox := Lib.hid b4; have ahas := Lib.hid (hD.has.stay hal); have xahas := Lib.hid (hD.ev.stay hal); have amd := Lib.hid hD.md; have xars := Lib.hid hD.rs
        clear hD hal b3 b4 hup HVw5 HDV
        obtain ⟨x0, x1, x2, x3⟩ := cells4 Bxm11.out
        obtain ⟨s0, s1, s2, s3, s4, s5⟩ := cells6 Bxs11.out
        go_upto_region 9 with (go_at_call 15; (with_reducible refine (HRD.out _ HV11.out).mono ?_); rintro e w12 ⟨b, xb, rfl, hD⟩)
        obtain ⟨hal, b3, b4, -⟩ := two_boxes w12 (.cells #[.int .i64 b.cap, .slice b.es.ad b.es.l.length b.es.cap, .int .i64 b.nx, .slice b.is.ad b.is.l.length b.is.cap] 25) (.cells #[.int .i64 xb.e, .int .i64 xb.h, .bool xb.c, .slice xb.ev.ad xb.ev.l.length xb.ev.cap] 34)
        generalize (w12.alloc (.cells #[.int .i64 b.cap, .slice b.es.ad b.es.l.length b.es.cap, .int .i64 b.nx, .slice b.is.ad b.is.l.length b.is.cap] 25)).alloc (.cells #[.int .i64 xb.e, .int .i64 xb.h, .bool xb.c, .slice xb.ev.ad xb.ev.l.length xb.ev.cap] 34) = W12 at *
        generalize w12.heap.size = P12 at *
        have hup := hD.upd.thn hal
        have HV12 := Lib.hid (HV11.out.thn hup)
        clear x0 x1 x2 x3 s0 s1 s2 s3 s4 s5
        have Bxm12 := Lib.hid (hup.at Bxm11.out (by simp))
        clear Bxm11
        have Bxs12 := Lib.hid (hup.at Bxs11.out (by simp))
        clear Bxs11
        have Bxr12 := Lib.hid (hup.at Bxr11.out (by simp))
        clear Bxr11
        have Hxa12 := Lib.hid (hup.at abox.out (by simp))
        clear abox
        have Hxxa12 := Lib.hid (hup.at xabox.out (by simp))
        clear xabox
        have Sxa12 := Lib.hid (ahas.out.stay hup)
        clear ahas
        have Sxxa12 := Lib.hid (xahas.out.stay hup)
        clear xahas
        have bbox := Lib.hid b3; have xbbox := Lib.hid b4; have bhas := Lib.hid (hD.has.stay hal); have xbhas := Lib.hid (hD.ev.stay hal); have bmd := Lib.hid hD.md; have xbrs := Lib.hid hD.rs
        clear hD hal b3 b4 hup HV11 HRD
        obtain ⟨x0, x1, x2, x3⟩ := cells4 Bxm12.out
        obtain ⟨s0, s1, s2, s3, s4, s5⟩ := cells6 Bxs12.out
        obtain ⟨r0, r1, r2, r3⟩ := cells4 Bxr12.out
        have hrv := HREV.out.stay HV12.out
        go_upto_region 10 with (go_at_call 16; (with_reducible refine (HPA.out _ HV12.out hrv).mono ?_); rintro e w13 ⟨c, rfl, hmd, hhas, -, hupd⟩)
        obtain ⟨hal, b3⟩ := one_box w13 (.cells #[.int .i64 c.cap, .slice c.es.ad c.es.l.length c.es.cap, .int .i64 c.nx, .slice c.is.ad c.is.l.length c.is.cap] 25)
        generalize w13.alloc (.cells #[.int .i64 c.cap, .slice c.es.ad c.es.l.length c.es.cap, .int .i64 c.nx, .slice c.is.ad c.is.l.length c.is.cap] 25) = W13 at *
        generalize w13.heap.size = P13 at *
        have hup := hupd.thn hal
        have HV13 := Lib.hid (HV12.out.thn hup)
        clear hrv x0 x1 x2 x3 s0 s1 s2 s3 s4 s5 r0 r1 r2 r3
        have Bxm13 := Lib.hid (hup.at Bxm12.out (by simp))
        clear Bxm12
        have Bxs13 := Lib.hid (hup.at Bxs12.out (by simp))
        clear Bxs12
        have Bxr13 := Lib.hid (hup.at Bxr12.out (by simp))
        clear Bxr12
        have Hxa13 := Lib.hid (hup.at Hxa12.out (by simp))
        clear Hxa12
        have Hxxa13 := Lib.hid (hup.at Hxxa12.out (by simp))
        clear Hxxa12
        have Hxb13 := Lib.hid (hup.at bbox.out (by simp))
        clear bbox
        have Hxxb13 := Lib.hid (hup.at xbbox.out (by simp))
        clear xbbox
        have Sxa13 := Lib.hid (Sxa12.out.stay hup)
        clear Sxa12
        have Sxxa13 := Lib.hid (Sxxa12.out.stay hup)
        clear Sxxa12
        have Sxb13 := Lib.hid (bhas.out.stay hup)
        clear bhas
        have Sxxb13 := Lib.hid (xbhas.out.stay hup)
        clear xbhas
        have cbox := Lib.hid b3; have chas := Lib.hid (hhas.stay hal); have cmd := Lib.hid hmd
        clear hmd hhas hupd hal b3 hup HV12 HPA
        obtain ⟨x0, x1, x2, x3⟩ := cells4 Bxm13.out
        obtain ⟨s0, s1, s2, s3, s4, s5⟩ := cells6 Bxs13.out
        obtain ⟨r0, r1, r2, r3⟩ := cells4 Bxr13.out
        have hrv := HREV.out.stay HV13.out
        go_upto_region 11 with (go_at_call 17; (with_reducible refine (HRA.out _ HV13.out hrv).mono ?_); rintro e w14 ⟨d, rfl, hmd, hhas, -, hupd⟩)
        obtain ⟨hal, b3⟩ := one_box w14 (.cells #[.int .i64 d.cap, .slice d.es.ad d.es.l.length d.es.cap, .int .i64 d.nx, .slice d.is.ad d.is.l.length d.is.cap] 25)
        generalize w14.alloc (.cells #[.int .i64 d.cap, .slice d.es.ad d.es.l.length d.es.cap, .int .i64 d.nx, .slice d.is.ad d.is.l.length d.is.cap] 25) = W14 at *
        generalize w14.heap.size = P14 at *
        have hup := hupd.thn hal
        have HV14 := Lib.hid (HV13.out.thn hup)
        clear hrv x0 x1 x2 x3 s0 s1 s2 s3 s4 s5 r0 r1 r2 r3
        have Bxm14 := Lib.hid (hup.at Bxm13.out (by simp))
        clear Bxm13
        have Bxs14 := Lib.hid (hup.at Bxs13.out (by simp))
        clear Bxs13
        have Bxr14 := Lib.hid (hup.at Bxr13.out (by simp))
        clear Bxr13
        have Hxa14 := Lib.hid (hup.at Hxa13.out (by simp))
        clear Hxa13
        have Hxxa14 := Lib.hid (hup.at Hxxa13.out (by simp))
        clear Hxxa13
        have Hxb14 := Lib.hid (hup.at Hxb13.out (by simp))
        clear Hxb13
        have Hxxb14 := Lib.hid (hup.at Hxxb13.out (by simp))
        clear Hxxb13
        have Hxc14 := Lib.hid (hup.at cbox.out (by simp))
        clear cbox
        have Sxa14 := Lib.hid (Sxa13.out.stay hup)
        clear Sxa13
        have Sxxa14 := Lib.hid (Sxxa13.out.stay hup)
        clear Sxxa13
        have Sxb14 := Lib.hid (Sxb13.out.stay hup)
        clear Sxb13
        have Sxxb14 := Lib.hid (Sxxb13.out.stay hup)
        clear Sxxb13
        have Sxc14 := Lib.hid (chas.out.stay hup)
        clear chas
        have dbox := Lib.hid b3; have dhas := Lib.hid (hhas.stay hal); have dmd := Lib.hid hmd
        clear hmd hhas hupd hal b3 hup HV13 HRA
        go_upto_region 12 with (go_at_call 18; (with_reducible refine (HPN.out _).mono ?_); rintro e w15 ⟨u, rfl, hmd, hhas, -, hupd⟩)
        obtain ⟨hal, b3⟩ := one_box w15 (.cells #[.int .i64 u.cap, .slice u.es.ad u.es.l.length u.es.cap, .int .i64 u.nx, .slice u.is.ad u.is.l.length u.is.cap] 25)
        generalize w15.alloc (.cells #[.int .i64 u.cap, .slice u.es.ad u.es.l.length u.es.cap, .int .i64 u.nx, .slice u.is.ad u.is.l.length u.is.cap] 25) = W15 at *
        generalize w15.heap.size = P15 at *
        have hup := hupd.thn hal
        have HV15 := Lib.hid (HV14.out.thn hup)
        have Bxm15 := Lib.hid (hup.at Bxm14.out (by simp))
        clear Bxm14
        have Bxs15 := Lib.hid (hup.at Bxs14.out (by simp))
        clear Bxs14
        have Bxr15 := Lib.hid (hup.at Bxr14.out (by simp))
        clear Bxr14
        have Hxa15 := Lib.hid (hup.at Hxa14.out (by simp))
        clear Hxa14
        have Hxxa15 := Lib.hid (hup.at Hxxa14.out (by simp))
        clear Hxxa14
        have Hxb15 := Lib.hid (hup.at Hxb14.out (by simp))
        clear Hxb14
        have Hxxb15 := Lib.hid (hup.at Hxxb14.out (by simp))
        clear Hxxb14
        have Hxc15 := Lib.hid (hup.at Hxc14.out (by simp))
        clear Hxc14
        have Hxd15 := Lib.hid (hup.at dbox.out (by simp))
        clear dbox
        have Sxa15 := Lib.hid (Sxa14.out.stay hup)
        clear Sxa14
        have Sxxa15 := Lib.hid (Sxxa14.out.stay hup)
        clear Sxxa14
        have Sxb15 := Lib.hid (Sxb14.out.stay hup)
        clear Sxb14
        have Sxxb15 := Lib.hid (Sxxb14.out.stay hup)
        clear Sxxb14
        have Sxc15 := Lib.hid (Sxc14.out.stay hup)
        clear Sxc14
        have Sxd15 := Lib.hid (dhas.out.stay hup)
        clear dhas
        have ubox := Lib.hid b3; have uhas := Lib.hid (hhas.stay hal); have umd := Lib.hid hmd
        clear hmd hhas hupd hal b3 hup HV14 HPN
        go_upto_region 13 with (go_at_call 19; (with_reducible refine (HRN.out _).mono ?_); rintro e w16 ⟨v, rfl, hmd, hhas, -, hupd⟩)
        obtain ⟨hal, b3⟩ := one_box w16 (.cells #[.int .i64 v.cap, .slice v.es.ad v.es.l.length v.es.cap, .int .i64 v.nx, .slice v.is.ad v.is.l.length v.is.cap] 25)
        generalize w16.alloc (.cells #[.int .i64 v.cap, .slice v.es.ad v.es.l.length v.es.cap, .int .i64 v.nx, .slice v.is.ad v.is.l.length v.is.cap] 25) = W16 at *
        generalize w16.heap.size = P16 at *
        have hup := hupd.thn hal
        have HV16 := Lib.hid (HV15.out.thn hup)
        have Bxm16 := Lib.hid (hup.at Bxm15.out (by simp))
        clear Bxm15
        have Bxs16 := Lib.hid (hup.at Bxs15.out (by simp))
        clear Bxs15
        have Bxr16 := Lib.hid (hup.at Bxr15.out (by simp))
        clear Bxr15
        have Hxa16 := Lib.hid (hup.at Hxa15.out (by simp))
        clear Hxa15
        have Hxxa16 := Lib.hid (hup.at Hxxa15.out (by simp))
        clear Hxxa15
        have Hxb16 := Lib.hid (hup.at Hxb15.out (by simp))
        clear Hxb15
        have Hxxb16 := Lib.hid (hup.at Hxxb15.out (by simp))
        clear Hxxb15
        have Hxc16 := Lib.hid (hup.at Hxc15.out (by simp))
        clear Hxc15
        have Hxd16 := Lib.hid (hup.at Hxd15.out (by simp))
        clear Hxd15
        have Hxu16 := Lib.hid (hup.at ubox.out (by simp))
        clear ubox
        have Sxa16 := Lib.hid (Sxa15.out.stay hup)
        clear Sxa15
        have Sxxa16 := Lib.hid (Sxxa15.out.stay hup)
        clear Sxxa15
        have Sxb16 := Lib.hid (Sxb15.out.stay hup)
        clear Sxb15
        have Sxxb16 := Lib.hid (Sxxb15.out.stay hup)
        clear Sxxb15
        have Sxc16 := Lib.hid (Sxc15.out.stay hup)
        clear Sxc15
        have Sxd16 := Lib.hid (Sxd15.out.stay hup)
        clear Sxd15
        have Sxu16 := Lib.hid (uhas.out.stay hup)
        clear uhas
        have vbox := Lib.hid b3; have vhas := Lib.hid (hhas.stay hal); have vmd := Lib.hid hmd
        clear hmd hhas hupd hal b3 hup HV15 HRN
        have hrv := HREV.out.stay HV16.out
        have hsab := fun (z : Kept W16) => (decide_eq_true (amd.out.trans bmd.out.symm) : decide (a.md = b.md) = true) ▸ RSame_has a b z.x (Sxa16.out.stay z.up) (Sxb16.out.stay z.up) (by have := HGD.out a amd.out; omega) (by have := HGD.out a amd.out; omega)
        have hscd := fun (z : Kept W16) => (decide_eq_true (cmd.out.trans dmd.out.symm) : decide (c.md = d.md) = true) ▸ RSame_has c d z.x (Sxc16.out.stay z.up) (Sxd16.out.stay z.up) (by have := HGA.out c cmd.out; omega) (by have := HGA.out c cmd.out; omega)
        have hsuv := fun (z : Kept W16) => (decide_eq_true (umd.out.trans vmd.out.symm) : decide (u.md = v.md) = true) ▸ RSame_has u v z.x (Sxu16.out.stay z.up) (vhas.out.stay z.up) (by have := HGN.out u umd.out; omega) (by have := HGN.out u umd.out; omega)
        have hexy := fun (z : Kept W16) => (decide_eq_true (xars.out.trans xbrs.out.symm) : decide (xa.rs = xb.rs) = true) ▸ REqual_has xa xb z.x (Sxxa16.out.stay z.up) (Sxxb16.out.stay z.up) (by have := HGE.out xa xars.out; omega)
        have hpr := fun (z : Kept W16) => PEqual_has xa r z.x (Sxxa16.out.stay z.up) (hrv.stay z.up) (by have := HGE.out xa xars.out; omega)
        have hrr := fun (z : Kept W16) => REqual_has xa r z.x (Sxxa16.out.stay z.up) (hrv.stay z.up) (by have := HGE.out xa xars.out; omega)
        generalize decide (xa.rs = r.rs) = bq at hpr hrr
        unfold encM cellsM at hsab hscd hsuv
        unfold encR cellsR at hexy hpr hrr
        have HSA := Lib.hid hsab; have HSC := Lib.hid hscd; have HSN := Lib.hid hsuv; have HEX := Lib.hid hexy; have HEP := Lib.hid hpr; have HER := Lib.hid hrr
        have t1 : (ga.2 == ga.2) = true := by simp
        have t2 : (gn.2 == gn.2) = true := by simp
        have t3 : (bq == bq) = true := by simp
        have HUE := Lib.hid (HU5.out.thn HV16.out)
        clear hsab hscd hsuv hexy hpr hrr hrv HGD HGE HGA HGN
        obtain ⟨a0, a1, a2, a3⟩ := cells4 Hxa16.out
        have ka0 := kept_at a0; have ka1 := kept_at a1; have ka2 := kept_at a2; have ka3 := kept_at a3
        clear a0 a1 a2 a3
        obtain ⟨xa0, xa1, xa2, xa3⟩ := cells4 Hxxa16.out
        have kxa0 := kept_at xa0; have kxa1 := kept_at xa1; have kxa2 := kept_at xa2; have kxa3 := kept_at xa3
        clear xa0 xa1 xa2 xa3
        obtain ⟨b0, b1, b2, b3⟩ := cells4 Hxb16.out
        have kb0 := kept_at b0; have kb1 := kept_at b1; have kb2 := kept_at b2; have kb3 := kept_at b3
        clear b0 b1 b2 b3
        obtain ⟨xb0, xb1, xb2, xb3⟩ := cells4 Hxxb16.out
        have kxb0 := kept_at xb0; have kxb1 := kept_at xb1; have kxb2 := kept_at xb2; have kxb3 := kept_at xb3
        clear xb0 xb1 xb2 xb3
        obtain ⟨c0, c1, c2, c3⟩ := cells4 Hxc16.out
        have kc0 := kept_at c0; have kc1 := kept_at c1; have kc2 := kept_at c2; have kc3 := kept_at c3
        clear c0 c1 c2 c3
        obtain ⟨d0, d1, d2, d3⟩ := cells4 Hxd16.out
        have kd0 := kept_at d0; have kd1 := kept_at d1; have kd2 := kept_at d2; have kd3 := kept_at d3
        clear d0 d1 d2 d3
        obtain ⟨u0, u1, u2, u3⟩ := cells4 Hxu16.out
        have ku0 := kept_at u0; have ku1 := kept_at u1; have ku2 := kept_at u2; have ku3 := kept_at u3
        clear u0 u1 u2 u3
        obtain ⟨v0, v1, v2, v3⟩ := cells4 vbox.out
        have kv0 := kept_at v0; have kv1 := kept_at v1; have kv2 := kept_at v2; have kv3 := kept_at v3
        clear v0 v1 v2 v3
        obtain ⟨r0, r1, r2, r3⟩ := cells4 Bxr16.out
        have kr0 := kept_at r0; have kr1 := kept_at r1; have kr2 := kept_at r2; have kr3 := kept_at r3
        clear r0 r1 r2 r3
        generalize ga.2 = ob at *
        generalize gn.2 = nb at *
        refine wp_region_quiet_kept mixed (by kernel_rfl) ?_
        repeat (go_big_quiet_step (first | (go_at_call 20; first | with_reducible exact calls_kept (HSA.out _) | with_reducible exact calls_kept (HSC.out _) | with_reducible exact calls_kept (HSN.out _)) | (go_at_call 21; first | with_reducible exact calls_kept (HEX.out _) | with_reducible exact calls_kept (HER.out _)) | (go_at_call 22; with_reducible exact calls_kept (HEP.out _))))
        refine wpQuiet_nil ?_
        intro we hw'
        obtain ⟨⟨Wy, hd⟩, hw''⟩ := hw'
        simp only at hw''
        subst hw''
        have HUF := Lib.hid (HUE.out.thn hd)
        clear hd ka0 ka1 ka2 ka3 kxa0 kxa1 kxa2 kxa3 kb0 kb1 kb2 kb3 kxb0 kxb1 kxb2 kxb3 kc0 kc1 kc2 kc3 kd0 kd1 kd2 kd3 ku0 ku1 ku2 ku3 kv0 kv1 kv2 kv3 kr0 kr1 kr2 kr3
        go_wp2_with fail
        go_ret
        exact ⟨ret_bool (by first | rfl | simp), HUF.out⟩
end Go.Proofs.Ytpneljhplbkdkaa
