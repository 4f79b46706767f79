
/- The law's head: fixed examples of the program, layer 10. -/
import Derived.Test.YtpneljhplbkdkaaHJ
import Derived.Test.YtpneljhplbkdkaaHM
import Derived.Test.YtpneljhplbkdkaaAQ
namespace Go.Proofs.Ytpneljhplbkdkaa
open Go.RowKit Go.Lib

theorem validB_zero : validB (MdR.md ⟨0, ⟨[], none, 0⟩, 0, ⟨[], none, 0⟩⟩) = false := by
  rcases e : validB (MdR.md ⟨0, ⟨[], none, 0⟩, 0, ⟨[], none, 0⟩⟩) with _ | _
  · rfl
  · have := (validB_iff.1 e).cap.1
    simp [MdR.md] at this
set_option maxRecDepth 100000 in
set_option maxHeartbeats 16000000 in
theorem Head_has (w : World) : Calls Try.prog 9 #[] w fun e w' => e = .returned (.bool true) ∧ Upd [] w w' := by
  go_enter Try.func9, Try.ntmps9
  have hn1 := PNew_has 2 w
  unfold GivesN encM cellsM at hn1
  rw [show newM 2 = ((⟨2, [], 0, []⟩ : Md), 0) from rfl] at hn1
  have HN1 := Lib.hid hn1
  clear hn1
  go_upto_region 2 with (go_at_call 18; (with_reducible refine HN1.out.mono ?_); rintro e w1 ⟨⟨cp, ⟨l, a0, c0⟩, nx, ⟨l2, b0, k0⟩⟩, rfl, hmd, hh, -, hu⟩; simp only [MdR.md, Md.mk.injEq] at hmd; obtain ⟨rfl, rfl, rfl, rfl⟩ := hmd; have HH0 := Lib.hid hh; have HU0 := Lib.hid hu; clear hh hu)
  clear HN1
  obtain ⟨hal, bb⟩ := one_box w1 (.cells #[.int .i64 2, .slice a0 0 c0, .int .i64 0, .slice b0 0 k0] 25)
  generalize w1.alloc (.cells #[.int .i64 2, .slice a0 0 c0, .int .i64 0, .slice b0 0 k0] 25) = W1 at *
  generalize w1.heap.size = P1 at *
  have HM1 := Lib.hid bb; have HU1 := Lib.hid (HU0.out.thn hal); have HH1 := Lib.hid (HH0.out.stay hal)
  clear bb hal HU0 HH0
  have hn2 := PNew_has 0 W1
  unfold GivesN encM cellsM at hn2
  rw [show newM 0 = ((⟨0, [], 0, []⟩ : Md), 1) from rfl] at hn2
  have HN2 := Lib.hid hn2
  clear hn2
  go_upto_region 3 with (go_at_call 18; (with_reducible refine HN2.out.mono ?_); rintro e w2 ⟨⟨cp, ⟨l, ax, cx⟩, nx, ⟨l2, bx, kx⟩⟩, rfl, hmd, hh, -, hu⟩; simp only [MdR.md, Md.mk.injEq] at hmd; obtain ⟨rfl, rfl, rfl, rfl⟩ := hmd; have HU2 := Lib.hid hu; clear hh hu)
  clear HN2
  obtain ⟨hal, bb⟩ := one_box w2 (.cells #[.int .i64 0, .slice ax 0 cx, .int .i64 0, .slice bx 0 kx] 25)
  generalize w2.alloc (.cells #[.int .i64 0, .slice ax 0 cx, .int .i64 0, .slice bx 0 kx] 25) = W2 at *
  generalize w2.heap.size = P2 at *
  have hu2 := HU2.out.thn hal
  have HM2 := Lib.hid (hu2.at HM1.out (by simp)); have HU2b := Lib.hid (HU1.out.thn hu2); have HH2 := Lib.hid (HH1.out.stay hu2)
  clear bb hal hu2 HU2 HM1 HU1 HH1
  have HK0 : Hid (OkM (⟨2, [], 0, []⟩ : Md)) := Lib.hid (newM_ok (n := 2) (by omega))
  obtain ⟨m0, m1, m2, m3⟩ := cells4 HM2.out
  have hdv : doM (MdR.md ⟨2, ⟨[], a0, c0⟩, 0, ⟨[], b0, k0⟩⟩) ⟨1, 5, 0, 0, 0⟩ 7 = ((⟨2, [⟨5, 0, 7, false⟩], 1, [7]⟩ : Md), (⟨0, 7, false, []⟩ : Rs)) := by simp only [MdR.md]; decide
  have hdo := PDo_has ⟨2, ⟨[], a0, c0⟩, 0, ⟨[], b0, k0⟩⟩ ⟨1, 5, 0, 0, 0⟩ 7 W2 HH2.out HK0.out (by simp)
  rw [hdv] at hdo
  have HK1 : Hid (OkM (⟨2, [⟨5, 0, 7, false⟩], 1, [7]⟩ : Md)) := Lib.hid (by have h := doM_ok HK0.out ⟨1, 5, 0, 0, 0⟩ 7; have e := hdv; simp only [MdR.md] at e; rw [e] at h; exact h)
  unfold GivesM encM encR encC cellsM cellsR at hdo
  simp only [List.length_nil] at hdo
  have HD := Lib.hid hdo
  clear hdo hdv
  go_upto_region 4 with (go_at_call 14; (with_reducible refine HD.out.mono ?_); rintro e w3 ⟨⟨cp, ⟨l, a1, c1⟩, nx, ⟨l2, b1, k1⟩⟩, ⟨re, rh, rc, ⟨rl, ra1, rk1⟩⟩, rfl, hD⟩; have hmd := hD.md; have hrs := hD.rs; simp only [MdR.md, RsR.rs, Md.mk.injEq, Rs.mk.injEq] at hmd hrs; obtain ⟨rfl, rfl, rfl, rfl⟩ := hmd; obtain ⟨rfl, rfl, rfl, rfl⟩ := hrs)
  obtain ⟨hal, bm, br, -⟩ := two_boxes w3 (.cells #[.int .i64 2, .slice a1 1 c1, .int .i64 1, .slice b1 1 k1] 25) (.cells #[.int .i64 0, .int .i64 7, .bool false, .slice ra1 0 rk1] 34)
  have hup := hD.upd.thn hal
  have hhas := hD.has.stay hal
  have hev := hD.ev.stay hal
  generalize (w3.alloc (.cells #[.int .i64 2, .slice a1 1 c1, .int .i64 1, .slice b1 1 k1] 25)).alloc (.cells #[.int .i64 0, .int .i64 7, .bool false, .slice ra1 0 rk1] 34) = W3 at *
  generalize w3.heap.size = P3 at *
  clear m0 m1 m2 m3 HD hal hD
  have HM2' := Lib.hid (hup.at HM2.out (by simp)); have HH2' := Lib.hid (HH2.out.stay hup)
  clear HM2 HH2
  have HX3 := Lib.hid bm; have HR3 := Lib.hid br; have HY3 := Lib.hid hhas; have HV3 := Lib.hid hev; have HU3 := Lib.hid (HU2b.out.thn hup)
  clear bm br hhas hev hup HU2b
  obtain ⟨m0, m1, m2, m3⟩ := cells4 HX3.out
  have hdv : doM (MdR.md ⟨2, ⟨[⟨5, 0, 7, false⟩], a1, c1⟩, 1, ⟨[7], b1, k1⟩⟩) ⟨1, 5, 0, 0, 0⟩ 8 = ((⟨2, [⟨5, 0, 7, false⟩, ⟨5, 1, 8, false⟩], 2, [7, 8]⟩ : Md), (⟨0, 8, false, []⟩ : Rs)) := by simp only [MdR.md]; decide
  have hdo := PDo_has ⟨2, ⟨[⟨5, 0, 7, false⟩], a1, c1⟩, 1, ⟨[7], b1, k1⟩⟩ ⟨1, 5, 0, 0, 0⟩ 8 W3 HY3.out HK1.out (by simp)
  rw [hdv] at hdo
  have HK2 : Hid (OkM (⟨2, [⟨5, 0, 7, false⟩, ⟨5, 1, 8, false⟩], 2, [7, 8]⟩ : Md)) := Lib.hid (by have h := doM_ok HK1.out ⟨1, 5, 0, 0, 0⟩ 8; have e := hdv; simp only [MdR.md] at e; rw [e] at h; exact h)
  unfold GivesM encM encR encC cellsM cellsR at hdo
  simp only [List.length_cons, List.length_nil] at hdo
  have HD := Lib.hid hdo
  clear hdo hdv
  go_upto_region 5 with (go_at_call 14; (with_reducible refine HD.out.mono ?_); rintro e w4 ⟨⟨cp, ⟨l, a2, c2⟩, nx, ⟨l2, b2, k2⟩⟩, ⟨re, rh, rc, ⟨rl, ra2, rk2⟩⟩, rfl, hD⟩; have hmd := hD.md; have hrs := hD.rs; simp only [MdR.md, RsR.rs, Md.mk.injEq, Rs.mk.injEq] at hmd hrs; obtain ⟨rfl, rfl, rfl, rfl⟩ := hmd; obtain ⟨rfl, rfl, rfl, rfl⟩ := hrs)
  obtain ⟨hal, bm, br, -⟩ := two_boxes w4 (.cells #[.int .i64 2, .slice a2 2 c2, .int .i64 2, .slice b2 2 k2] 25) (.cells #[.int .i64 0, .int .i64 8, .bool false, .slice ra2 0 rk2] 34)
  have hup := hD.upd.thn hal
  have hhas := hD.has.stay hal
  have hev := hD.ev.stay hal
  generalize (w4.alloc (.cells #[.int .i64 2, .slice a2 2 c2, .int .i64 2, .slice b2 2 k2] 25)).alloc (.cells #[.int .i64 0, .int .i64 8, .bool false, .slice ra2 0 rk2] 34) = W4 at *
  generalize w4.heap.size = P4 at *
  clear m0 m1 m2 m3 HD hal hD
  have HM2'' := Lib.hid (hup.at HM2'.out (by simp)); have HH2'' := Lib.hid (HH2'.out.stay hup)
  clear HM2' HH2'
  have HX3' := Lib.hid (hup.at HX3.out (by simp)); have HY3' := Lib.hid (HY3.out.stay hup)
  clear HX3 HY3
  have HR3' := Lib.hid (hup.at HR3.out (by simp)); have HV3' := Lib.hid (HV3.out.stay hup)
  clear HR3 HV3
  have HX4 := Lib.hid bm; have HR4 := Lib.hid br; have HY4 := Lib.hid hhas; have HV4 := Lib.hid hev; have HU4 := Lib.hid (HU3.out.thn hup)
  clear bm br hhas hev hup HU3
  obtain ⟨m0, m1, m2, m3⟩ := cells4 HX4.out
  have hdv : doM (MdR.md ⟨2, ⟨[⟨5, 0, 7, false⟩, ⟨5, 1, 8, false⟩], a2, c2⟩, 2, ⟨[7, 8], b2, k2⟩⟩) ⟨1, 5, 0, 0, 0⟩ 9 = ((⟨2, [⟨5, 0, 7, false⟩, ⟨5, 1, 8, false⟩], 2, [7, 8]⟩ : Md), (⟨10, 0, false, []⟩ : Rs)) := by simp only [MdR.md]; decide
  have hdo := PDo_has ⟨2, ⟨[⟨5, 0, 7, false⟩, ⟨5, 1, 8, false⟩], a2, c2⟩, 2, ⟨[7, 8], b2, k2⟩⟩ ⟨1, 5, 0, 0, 0⟩ 9 W4 HY4.out HK2.out (by simp)
  rw [hdv] at hdo
  have HK3 : Hid (OkM (⟨2, [⟨5, 0, 7, false⟩, ⟨5, 1, 8, false⟩], 2, [7, 8]⟩ : Md)) := Lib.hid (by have h := doM_ok HK2.out ⟨1, 5, 0, 0, 0⟩ 9; have e := hdv; simp only [MdR.md] at e; rw [e] at h; exact h)
  unfold GivesM encM encR encC cellsM cellsR at hdo
  simp only [List.length_cons, List.length_nil] at hdo
  have HD := Lib.hid hdo
  clear hdo hdv
  go_upto_region 6 with (go_at_call 14; (with_reducible refine HD.out.mono ?_); rintro e w5 ⟨⟨cp, ⟨l, a3, c3⟩, nx, ⟨l2, b3, k3⟩⟩, ⟨re, rh, rc, ⟨rl, ra3, rk3⟩⟩, rfl, hD⟩; have hmd := hD.md; have hrs := hD.rs; simp only [MdR.md, RsR.rs, Md.mk.injEq, Rs.mk.injEq] at hmd hrs; obtain ⟨rfl, rfl, rfl, rfl⟩ := hmd; obtain ⟨rfl, rfl, rfl, rfl⟩ := hrs)
  obtain ⟨hal, bm, br, -⟩ := two_boxes w5 (.cells #[.int .i64 2, .slice a3 2 c3, .int .i64 2, .slice b3 2 k3] 25) (.cells #[.int .i64 10, .int .i64 0, .bool false, .slice ra3 0 rk3] 34)
  have hup := hD.upd.thn hal
  have hhas := hD.has.stay hal
  have hev := hD.ev.stay hal
  generalize (w5.alloc (.cells #[.int .i64 2, .slice a3 2 c3, .int .i64 2, .slice b3 2 k3] 25)).alloc (.cells #[.int .i64 10, .int .i64 0, .bool false, .slice ra3 0 rk3] 34) = W5 at *
  generalize w5.heap.size = P5 at *
  clear m0 m1 m2 m3 HD hal hD
  have HM2''' := Lib.hid (hup.at HM2''.out (by simp)); have HH2''' := Lib.hid (HH2''.out.stay hup)
  clear HM2'' HH2''
  have HX3'' := Lib.hid (hup.at HX3'.out (by simp)); have HY3'' := Lib.hid (HY3'.out.stay hup)
  clear HX3' HY3'
  have HX4' := Lib.hid (hup.at HX4.out (by simp)); have HY4' := Lib.hid (HY4.out.stay hup)
  clear HX4 HY4
  have HR3'' := Lib.hid (hup.at HR3'.out (by simp)); have HV3'' := Lib.hid (HV3'.out.stay hup)
  clear HR3' HV3'
  have HR4' := Lib.hid (hup.at HR4.out (by simp)); have HV4' := Lib.hid (HV4.out.stay hup)
  clear HR4 HV4
  have HX5 := Lib.hid bm; have HR5 := Lib.hid br; have HY5 := Lib.hid hhas; have HV5 := Lib.hid hev; have HU5 := Lib.hid (HU4.out.thn hup)
  clear bm br hhas hev hup HU4
  obtain ⟨m0, m1, m2, m3⟩ := cells4 HX4'.out
  have hdv : doM (MdR.md ⟨2, ⟨[⟨5, 0, 7, false⟩, ⟨5, 1, 8, false⟩], a2, c2⟩, 2, ⟨[7, 8], b2, k2⟩⟩) ⟨2, 0, 7, 0, 0⟩ 0 = ((⟨2, [⟨5, 0, 7, true⟩, ⟨5, 1, 8, false⟩], 2, [7, 8]⟩ : Md), (⟨0, 0, true, []⟩ : Rs)) := by simp only [MdR.md]; decide
  have hdo := PDo_has ⟨2, ⟨[⟨5, 0, 7, false⟩, ⟨5, 1, 8, false⟩], a2, c2⟩, 2, ⟨[7, 8], b2, k2⟩⟩ ⟨2, 0, 7, 0, 0⟩ 0 W5 HY4'.out HK2.out (by simp)
  rw [hdv] at hdo
  have HK4 : Hid (OkM (⟨2, [⟨5, 0, 7, true⟩, ⟨5, 1, 8, false⟩], 2, [7, 8]⟩ : Md)) := Lib.hid (by have h := doM_ok HK2.out ⟨2, 0, 7, 0, 0⟩ 0; have e := hdv; simp only [MdR.md] at e; rw [e] at h; exact h)
  unfold GivesM encM encR encC cellsM cellsR at hdo
  simp only [List.length_cons, List.length_nil] at hdo
  have HD := Lib.hid hdo
  clear hdo hdv
  go_upto_region 7 with (go_at_call 14; (with_reducible refine HD.out.mono ?_); rintro e w6 ⟨⟨cp, ⟨l, a4, c4⟩, nx, ⟨l2, b4, k4⟩⟩, ⟨re, rh, rc, ⟨rl, ra4, rk4⟩⟩, rfl, hD⟩; have hmd := hD.md; have hrs := hD.rs; simp only [MdR.md, RsR.rs, Md.mk.injEq, Rs.mk.injEq] at hmd hrs; obtain ⟨rfl, rfl, rfl, rfl⟩ := hmd; obtain ⟨rfl, rfl, rfl, rfl⟩ := hrs)
  obtain ⟨hal, bm, br, -⟩ := two_boxes w6 (.cells #[.int .i64 2, .slice a4 2 c4, .int .i64 2, .slice b4 2 k4] 25) (.cells #[.int .i64 0, .int .i64 0, .bool true, .slice ra4 0 rk4] 34)
  have hup := hD.upd.thn hal
  have hhas := hD.has.stay hal
  have hev := hD.ev.stay hal
  generalize (w6.alloc (.cells #[.int .i64 2, .slice a4 2 c4, .int .i64 2, .slice b4 2 k4] 25)).alloc (.cells #[.int .i64 0, .int .i64 0, .bool true, .slice ra4 0 rk4] 34) = W6 at *
  generalize w6.heap.size = P6 at *
  clear m0 m1 m2 m3 HD hal hD
  have HM2'''' := Lib.hid (hup.at HM2'''.out (by simp)); have HH2'''' := Lib.hid (HH2'''.out.stay hup)
  clear HM2''' HH2'''
  have HX3''' := Lib.hid (hup.at HX3''.out (by simp)); have HY3''' := Lib.hid (HY3''.out.stay hup)
  clear HX3'' HY3''
  have HX4'' := Lib.hid (hup.at HX4'.out (by simp)); have HY4'' := Lib.hid (HY4'.out.stay hup)
  clear HX4' HY4'
  have HX5' := Lib.hid (hup.at HX5.out (by simp)); have HY5' := Lib.hid (HY5.out.stay hup)
  clear HX5 HY5
  have HR3''' := Lib.hid (hup.at HR3''.out (by simp)); have HV3''' := Lib.hid (HV3''.out.stay hup)
  clear HR3'' HV3''
  have HR4'' := Lib.hid (hup.at HR4'.out (by simp)); have HV4'' := Lib.hid (HV4'.out.stay hup)
  clear HR4' HV4'
  have HR5' := Lib.hid (hup.at HR5.out (by simp)); have HV5' := Lib.hid (HV5.out.stay hup)
  clear HR5 HV5
  have HX6 := Lib.hid bm; have HR6 := Lib.hid br; have HY6 := Lib.hid hhas; have HV6 := Lib.hid hev; have HU6 := Lib.hid (HU5.out.thn hup)
  clear bm br hhas hev hup HU5
  obtain ⟨m0, m1, m2, m3⟩ := cells4 HX6.out
  have hdv : doM (MdR.md ⟨2, ⟨[⟨5, 0, 7, true⟩, ⟨5, 1, 8, false⟩], a4, c4⟩, 2, ⟨[7, 8], b4, k4⟩⟩) ⟨2, 0, 7, 0, 0⟩ 0 = ((⟨2, [⟨5, 0, 7, true⟩, ⟨5, 1, 8, false⟩], 2, [7, 8]⟩ : Md), (⟨0, 0, false, []⟩ : Rs)) := by simp only [MdR.md]; decide
  have hdo := PDo_has ⟨2, ⟨[⟨5, 0, 7, true⟩, ⟨5, 1, 8, false⟩], a4, c4⟩, 2, ⟨[7, 8], b4, k4⟩⟩ ⟨2, 0, 7, 0, 0⟩ 0 W6 HY6.out HK4.out (by simp)
  rw [hdv] at hdo
  have HK5 : Hid (OkM (⟨2, [⟨5, 0, 7, true⟩, ⟨5, 1, 8, false⟩], 2, [7, 8]⟩ : Md)) := Lib.hid (by have h := doM_ok HK4.out ⟨2, 0, 7, 0, 0⟩ 0; have e := hdv; simp only [MdR.md] at e; rw [e] at h; exact h)
  unfold GivesM encM encR encC cellsM cellsR at hdo
  simp only [List.length_cons, List.length_nil] at hdo
  have HD := Lib.hid hdo
  clear hdo hdv
  go_upto_region 8 with (go_at_call 14; (with_reducible refine HD.out.mono ?_); rintro e w7 ⟨⟨cp, ⟨l, a5, c5⟩, nx, ⟨l2, b5, k5⟩⟩, ⟨re, rh, rc, ⟨rl, ra5, rk5⟩⟩, rfl, hD⟩; have hmd := hD.md; have hrs := hD.rs; simp only [MdR.md, RsR.rs, Md.mk.injEq, Rs.mk.injEq] at hmd hrs; obtain ⟨rfl, rfl, rfl, rfl⟩ := hmd; obtain ⟨rfl, rfl, rfl, rfl⟩ := hrs)
  obtain ⟨hal, bm, br, -⟩ := two_boxes w7 (.cells #[.int .i64 2, .slice a5 2 c5, .int .i64 2, .slice b5 2 k5] 25) (.cells #[.int .i64 0, .int .i64 0, .bool false, .slice ra5 0 rk5] 34)
  have hup := hD.upd.thn hal
  have hhas := hD.has.stay hal
  have hev := hD.ev.stay hal
  generalize (w7.alloc (.cells #[.int .i64 2, .slice a5 2 c5, .int .i64 2, .slice b5 2 k5] 25)).alloc (.cells #[.int .i64 0, .int .i64 0, .bool false, .slice ra5 0 rk5] 34) = W7 at *
  generalize w7.heap.size = P7 at *
  clear m0 m1 m2 m3 HD hal hD
  have HM2''''' := Lib.hid (hup.at HM2''''.out (by simp)); have HH2''''' := Lib.hid (HH2''''.out.stay hup)
  clear HM2'''' HH2''''
  have HX3'''' := Lib.hid (hup.at HX3'''.out (by simp)); have HY3'''' := Lib.hid (HY3'''.out.stay hup)
  clear HX3''' HY3'''
  have HX4''' := Lib.hid (hup.at HX4''.out (by simp)); have HY4''' := Lib.hid (HY4''.out.stay hup)
  clear HX4'' HY4''
  have HX5'' := Lib.hid (hup.at HX5'.out (by simp)); have HY5'' := Lib.hid (HY5'.out.stay hup)
  clear HX5' HY5'
  have HX6' := Lib.hid (hup.at HX6.out (by simp)); have HY6' := Lib.hid (HY6.out.stay hup)
  clear HX6 HY6
  have HR3'''' := Lib.hid (hup.at HR3'''.out (by simp)); have HV3'''' := Lib.hid (HV3'''.out.stay hup)
  clear HR3''' HV3'''
  have HR4''' := Lib.hid (hup.at HR4''.out (by simp)); have HV4''' := Lib.hid (HV4''.out.stay hup)
  clear HR4'' HV4''
  have HR5'' := Lib.hid (hup.at HR5'.out (by simp)); have HV5'' := Lib.hid (HV5'.out.stay hup)
  clear HR5' HV5'
  have HR6' := Lib.hid (hup.at HR6.out (by simp)); have HV6' := Lib.hid (HV6.out.stay hup)
  clear HR6 HV6
  have HX7 := Lib.hid bm; have HR7 := Lib.hid br; have HY7 := Lib.hid hhas; have HV7 := Lib.hid hev; have HU7 := Lib.hid (HU6.out.thn hup)
  clear bm br hhas hev hup HU6
  obtain ⟨m0, m1, m2, m3⟩ := cells4 HX6'.out
  have hdv : doM (MdR.md ⟨2, ⟨[⟨5, 0, 7, true⟩, ⟨5, 1, 8, false⟩], a4, c4⟩, 2, ⟨[7, 8], b4, k4⟩⟩) ⟨3, 0, 0, 1, 6⟩ 0 = ((⟨2, [], 2, [7, 8]⟩ : Md), (⟨0, 0, false, [⟨5, 8⟩]⟩ : Rs)) := by simp only [MdR.md]; decide
  have hdo := PDo_has ⟨2, ⟨[⟨5, 0, 7, true⟩, ⟨5, 1, 8, false⟩], a4, c4⟩, 2, ⟨[7, 8], b4, k4⟩⟩ ⟨3, 0, 0, 1, 6⟩ 0 W7 HY6'.out HK4.out (by simp)
  rw [hdv] at hdo
  have HK6 : Hid (OkM (⟨2, [], 2, [7, 8]⟩ : Md)) := Lib.hid (by have h := doM_ok HK4.out ⟨3, 0, 0, 1, 6⟩ 0; have e := hdv; simp only [MdR.md] at e; rw [e] at h; exact h)
  unfold GivesM encM encR encC cellsM cellsR at hdo
  simp only [List.length_cons, List.length_nil] at hdo
  have HD := Lib.hid hdo
  clear hdo hdv
  go_upto_region 9 with (go_at_call 14; (with_reducible refine HD.out.mono ?_); rintro e w8 ⟨⟨cp, ⟨l, a6, c6⟩, nx, ⟨l2, b6, k6⟩⟩, ⟨re, rh, rc, ⟨rl, ra6, rk6⟩⟩, rfl, hD⟩; have hmd := hD.md; have hrs := hD.rs; simp only [MdR.md, RsR.rs, Md.mk.injEq, Rs.mk.injEq] at hmd hrs; obtain ⟨rfl, rfl, rfl, rfl⟩ := hmd; obtain ⟨rfl, rfl, rfl, rfl⟩ := hrs)
  obtain ⟨hal, bm, br, -⟩ := two_boxes w8 (.cells #[.int .i64 2, .slice a6 0 c6, .int .i64 2, .slice b6 2 k6] 25) (.cells #[.int .i64 0, .int .i64 0, .bool false, .slice ra6 1 rk6] 34)
  have hup := hD.upd.thn hal
  have hhas := hD.has.stay hal
  have hev := hD.ev.stay hal
  generalize (w8.alloc (.cells #[.int .i64 2, .slice a6 0 c6, .int .i64 2, .slice b6 2 k6] 25)).alloc (.cells #[.int .i64 0, .int .i64 0, .bool false, .slice ra6 1 rk6] 34) = W8 at *
  generalize w8.heap.size = P8 at *
  clear m0 m1 m2 m3 HD hal hD
  have HM2'''''' := Lib.hid (hup.at HM2'''''.out (by simp)); have HH2'''''' := Lib.hid (HH2'''''.out.stay hup)
  clear HM2''''' HH2'''''
  have HX3''''' := Lib.hid (hup.at HX3''''.out (by simp)); have HY3''''' := Lib.hid (HY3''''.out.stay hup)
  clear HX3'''' HY3''''
  have HX4'''' := Lib.hid (hup.at HX4'''.out (by simp)); have HY4'''' := Lib.hid (HY4'''.out.stay hup)
  clear HX4''' HY4'''
  have HX5''' := Lib.hid (hup.at HX5''.out (by simp)); have HY5''' := Lib.hid (HY5''.out.stay hup)
  clear HX5'' HY5''
  have HX6'' := Lib.hid (hup.at HX6'.out (by simp)); have HY6'' := Lib.hid (HY6'.out.stay hup)
  clear HX6' HY6'
  have HX7' := Lib.hid (hup.at HX7.out (by simp)); have HY7' := Lib.hid (HY7.out.stay hup)
  clear HX7 HY7
  have HR3''''' := Lib.hid (hup.at HR3''''.out (by simp)); have HV3''''' := Lib.hid (HV3''''.out.stay hup)
  clear HR3'''' HV3''''
  have HR4'''' := Lib.hid (hup.at HR4'''.out (by simp)); have HV4'''' := Lib.hid (HV4'''.out.stay hup)
  clear HR4''' HV4'''
  have HR5''' := Lib.hid (hup.at HR5''.out (by simp)); have HV5''' := Lib.hid (HV5''.out.stay hup)
  clear HR5'' HV5''
  have HR6'' := Lib.hid (hup.at HR6'.out (by simp)); have HV6'' := Lib.hid (HV6'.out.stay hup)
  clear HR6' HV6'
  have HR7' := Lib.hid (hup.at HR7.out (by simp)); have HV7' := Lib.hid (HV7.out.stay hup)
  clear HR7 HV7
  have HX8 := Lib.hid bm; have HR8 := Lib.hid br; have HY8 := Lib.hid hhas; have HV8 := Lib.hid hev; have HU8 := Lib.hid (HU7.out.thn hup)
  clear bm br hhas hev hup HU7
  obtain ⟨m0, m1, m2, m3⟩ := cells4 HX4''''.out
  have hdv : doM (MdR.md ⟨2, ⟨[⟨5, 0, 7, false⟩, ⟨5, 1, 8, false⟩], a2, c2⟩, 2, ⟨[7, 8], b2, k2⟩⟩) ⟨3, 0, 0, 9, 5⟩ 0 = ((⟨2, [⟨5, 0, 7, false⟩, ⟨5, 1, 8, false⟩], 2, [7, 8]⟩ : Md), (⟨0, 0, false, []⟩ : Rs)) := by simp only [MdR.md]; decide
  have hdo := PDo_has ⟨2, ⟨[⟨5, 0, 7, false⟩, ⟨5, 1, 8, false⟩], a2, c2⟩, 2, ⟨[7, 8], b2, k2⟩⟩ ⟨3, 0, 0, 9, 5⟩ 0 W8 HY4''''.out HK2.out (by simp)
  rw [hdv] at hdo
  have HK7 : Hid (OkM (⟨2, [⟨5, 0, 7, false⟩, ⟨5, 1, 8, false⟩], 2, [7, 8]⟩ : Md)) := Lib.hid (by have h := doM_ok HK2.out ⟨3, 0, 0, 9, 5⟩ 0; have e := hdv; simp only [MdR.md] at e; rw [e] at h; exact h)
  unfold GivesM encM encR encC cellsM cellsR at hdo
  simp only [List.length_cons, List.length_nil] at hdo
  have HD := Lib.hid hdo
  clear hdo hdv
  go_upto_region 10 with (go_at_call 14; (with_reducible refine HD.out.mono ?_); rintro e w9 ⟨⟨cp, ⟨l, a7, c7⟩, nx, ⟨l2, b7, k7⟩⟩, ⟨re, rh, rc, ⟨rl, ra7, rk7⟩⟩, rfl, hD⟩; have hmd := hD.md; have hrs := hD.rs; simp only [MdR.md, RsR.rs, Md.mk.injEq, Rs.mk.injEq] at hmd hrs; obtain ⟨rfl, rfl, rfl, rfl⟩ := hmd; obtain ⟨rfl, rfl, rfl, rfl⟩ := hrs)
  obtain ⟨hal, bm, br, -⟩ := two_boxes w9 (.cells #[.int .i64 2, .slice a7 2 c7, .int .i64 2, .slice b7 2 k7] 25) (.cells #[.int .i64 0, .int .i64 0, .bool false, .slice ra7 0 rk7] 34)
  have hup := hD.upd.thn hal
  have hhas := hD.has.stay hal
  have hev := hD.ev.stay hal
  generalize (w9.alloc (.cells #[.int .i64 2, .slice a7 2 c7, .int .i64 2, .slice b7 2 k7] 25)).alloc (.cells #[.int .i64 0, .int .i64 0, .bool false, .slice ra7 0 rk7] 34) = W9 at *
  generalize w9.heap.size = P9 at *
  clear m0 m1 m2 m3 HD hal hD
  have HM2''''''' := Lib.hid (hup.at HM2''''''.out (by simp)); have HH2''''''' := Lib.hid (HH2''''''.out.stay hup)
  clear HM2'''''' HH2''''''
  have HX3'''''' := Lib.hid (hup.at HX3'''''.out (by simp)); have HY3'''''' := Lib.hid (HY3'''''.out.stay hup)
  clear HX3''''' HY3'''''
  have HX4''''' := Lib.hid (hup.at HX4''''.out (by simp)); have HY4''''' := Lib.hid (HY4''''.out.stay hup)
  clear HX4'''' HY4''''
  have HX5'''' := Lib.hid (hup.at HX5'''.out (by simp)); have HY5'''' := Lib.hid (HY5'''.out.stay hup)
  clear HX5''' HY5'''
  have HX6''' := Lib.hid (hup.at HX6''.out (by simp)); have HY6''' := Lib.hid (HY6''.out.stay hup)
  clear HX6'' HY6''
  have HX7'' := Lib.hid (hup.at HX7'.out (by simp)); have HY7'' := Lib.hid (HY7'.out.stay hup)
  clear HX7' HY7'
  have HX8' := Lib.hid (hup.at HX8.out (by simp)); have HY8' := Lib.hid (HY8.out.stay hup)
  clear HX8 HY8
  have HR3'''''' := Lib.hid (hup.at HR3'''''.out (by simp)); have HV3'''''' := Lib.hid (HV3'''''.out.stay hup)
  clear HR3''''' HV3'''''
  have HR4''''' := Lib.hid (hup.at HR4''''.out (by simp)); have HV4''''' := Lib.hid (HV4''''.out.stay hup)
  clear HR4'''' HV4''''
  have HR5'''' := Lib.hid (hup.at HR5'''.out (by simp)); have HV5'''' := Lib.hid (HV5'''.out.stay hup)
  clear HR5''' HV5'''
  have HR6''' := Lib.hid (hup.at HR6''.out (by simp)); have HV6''' := Lib.hid (HV6''.out.stay hup)
  clear HR6'' HV6''
  have HR7'' := Lib.hid (hup.at HR7'.out (by simp)); have HV7'' := Lib.hid (HV7'.out.stay hup)
  clear HR7' HV7'
  have HR8' := Lib.hid (hup.at HR8.out (by simp)); have HV8' := Lib.hid (HV8.out.stay hup)
  clear HR8 HV8
  have HX9 := Lib.hid bm; have HR9 := Lib.hid br; have HY9 := Lib.hid hhas; have HV9 := Lib.hid hev; have HU9 := Lib.hid (HU8.out.thn hup)
  clear bm br hhas hev hup HU8
  have hu1 := (Upd.refl [] W9).alloc (.cells #[.int .i64 5, .int .i64 7] 51)
  have HRE : Hid (HasS LV (W9.alloc (.cells #[.int .i64 5, .int .i64 7] 51)) (⟨[⟨5, 7⟩], some ⟨W9.heap.size, 0, none⟩, 1⟩ : SlR Ev)) := Lib.hid ⟨ev_cells (x := ⟨5, 7⟩) (heap_alloc1 W9 (.cells #[.int .i64 5, .int .i64 7] 51)), Nat.le_refl _, fun e => by simp at e⟩
  have hav : accM (MdR.md ⟨2, ⟨[⟨5, 0, 7, false⟩, ⟨5, 1, 8, false⟩], a2, c2⟩, 2, ⟨[7, 8], b2, k2⟩⟩) ⟨3, 0, 0, 1, 6⟩ (RsR.rs ⟨0, 0, false, ⟨[⟨5, 7⟩], some ⟨W9.heap.size, 0, none⟩, 1⟩⟩) = ((⟨2, [⟨5, 1, 8, false⟩], 2, [7, 8]⟩ : Md), true) := by simp only [MdR.md, RsR.rs]; decide
  have hac := PAccepts_has ⟨2, ⟨[⟨5, 0, 7, false⟩, ⟨5, 1, 8, false⟩], a2, c2⟩, 2, ⟨[7, 8], b2, k2⟩⟩ ⟨3, 0, 0, 1, 6⟩ ⟨0, 0, false, ⟨[⟨5, 7⟩], some ⟨W9.heap.size, 0, none⟩, 1⟩⟩ _ (HY4'''''.out.stay hu1) HRE.out HK2.out (by simp) (by simp)
  rw [hav] at hac
  unfold GivesA encM encR encC cellsM cellsR at hac
  simp only [List.length_cons, List.length_nil] at hac
  have HA := Lib.hid hac
  clear hac hav
  obtain ⟨m0, m1, m2, m3⟩ := cells4 HX4'''''.out
  have HU1' := Lib.hid hu1
  clear hu1
  go_upto_region 11 with (go_at_call 16; (with_reducible refine HA.out.mono ?_); rintro e wa ⟨⟨cp, ⟨l, az, cz⟩, nx, ⟨l2, bz, kz⟩⟩, rfl, hmd, hh, -, hu⟩; simp only [MdR.md, Md.mk.injEq] at hmd; obtain ⟨rfl, rfl, rfl, rfl⟩ := hmd)
  clear m0 m1 m2 m3 HA HRE
  obtain ⟨hal, bb⟩ := one_box wa (.cells #[.int .i64 2, .slice az 1 cz, .int .i64 2, .slice bz 2 kz] 25)
  have hup := (HU1'.out.thn hu).thn hal
  generalize wa.alloc (.cells #[.int .i64 2, .slice az 1 cz, .int .i64 2, .slice bz 2 kz] 25) = WA at *
  generalize wa.heap.size = PA at *
  clear hal bb hu hh HU1'
  have HR3''''''' := hup.at HR3''''''.out (by simp)
  have HR4'''''' := hup.at HR4'''''.out (by simp)
  have HR5''''' := hup.at HR5''''.out (by simp)
  have HR6'''' := hup.at HR6'''.out (by simp)
  have HR7''' := hup.at HR7''.out (by simp)
  have HR8'' := hup.at HR8'.out (by simp)
  have HR9' := hup.at HR9.out (by simp)
  have hc' := hup.at HX6'''.out (by simp)
  have hd' := hup.at HX8'.out (by simp)
  have HUA := Lib.hid (HU9.out.thn hup)
  have HHC := Lib.hid (HY6'''.out.stay hup)
  have HVV := Lib.hid (HV8'.out.stay hup)
  have HKP : Hid (∀ W, Upd [] WA W → W.cell? ⟨P3 + 1, 1, none⟩ = some (.int .i64 7) ∧ W.cell? ⟨P4 + 1, 1, none⟩ = some (.int .i64 8) ∧ W.cell? ⟨P5 + 1, 0, none⟩ = some (.int .i64 10) ∧ W.cell? ⟨P6 + 1, 2, none⟩ = some (.bool true) ∧ W.cell? ⟨P7 + 1, 2, none⟩ = some (.bool false) ∧ W.cell? ⟨P8 + 1, 0, none⟩ = some (.int .i64 0) ∧ W.cell? ⟨P8 + 1, 1, none⟩ = some (.int .i64 0) ∧ W.cell? ⟨P8 + 1, 2, none⟩ = some (.bool false) ∧ W.cell? ⟨P8 + 1, 3, none⟩ = some (.slice ra6 1 rk6) ∧ W.cell? ⟨P8, 1, none⟩ = some (.slice a6 0 c6) ∧ W.cell? ⟨P9 + 1, 3, none⟩ = some (.slice ra7 0 rk7) ∧ W.cell? ⟨P6, 0, none⟩ = some (.int .i64 2) ∧ W.cell? ⟨P6, 1, none⟩ = some (.slice a4 2 c4) ∧ W.cell? ⟨P6, 2, none⟩ = some (.int .i64 2) ∧ W.cell? ⟨P6, 3, none⟩ = some (.slice b4 2 k4)) := Lib.hid (fun W hu => ⟨((cell_block (hu.at HR3''''''' (by simp)) 1)), ((cell_block (hu.at HR4'''''' (by simp)) 1)), ((cell_block (hu.at HR5''''' (by simp)) 0)), ((cell_block (hu.at HR6'''' (by simp)) 2)), ((cell_block (hu.at HR7''' (by simp)) 2)), ((cell_block (hu.at HR8'' (by simp)) 0)), ((cell_block (hu.at HR8'' (by simp)) 1)), ((cell_block (hu.at HR8'' (by simp)) 2)), ((cell_block (hu.at HR8'' (by simp)) 3)), ((cell_block (hu.at hd' (by simp)) 1)), ((cell_block (hu.at HR9' (by simp)) 3)), ((cell_block (hu.at hc' (by simp)) 0)), ((cell_block (hu.at hc' (by simp)) 1)), ((cell_block (hu.at hc' (by simp)) 2)), ((cell_block (hu.at hc' (by simp)) 3))⟩)
  clear hup hc' hd' HR3''''''' HR4'''''' HR5''''' HR6'''' HR7''' HR8'' HR9'
  have hu1 := (Upd.refl [] WA).alloc (.cells #[.int .i64 5, .int .i64 8] 51)
  have hre : HasS LV (WA.alloc (.cells #[.int .i64 5, .int .i64 8] 51)) (⟨[⟨5, 8⟩], some ⟨WA.heap.size, 0, none⟩, 1⟩ : SlR Ev) := ⟨ev_cells (x := ⟨5, 8⟩) (heap_alloc1 WA _), Nat.le_refl _, fun e => by simp at e⟩
  have heq := PEqual_has ⟨0, 0, false, ⟨[⟨5, 8⟩], ra6, rk6⟩⟩ ⟨0, 0, false, ⟨[⟨5, 8⟩], some ⟨WA.heap.size, 0, none⟩, 1⟩⟩ _ (HVV.out.stay hu1) hre (by simp)
  rw [show decide ((RsR.rs ⟨0, 0, false, ⟨[⟨5, 8⟩], ra6, rk6⟩⟩) = RsR.rs ⟨0, 0, false, ⟨[⟨5, 8⟩], some ⟨WA.heap.size, 0, none⟩, 1⟩⟩) = true from decide_eq_true rfl] at heq
  unfold encR cellsR at heq
  simp only [List.length_cons, List.length_nil] at heq
  have HEQ := Lib.hid heq
  have HUE := Lib.hid hu1
  clear heq hre hu1
  have hva := fun W (hu : Upd [] WA W) => PValid_has ⟨2, ⟨[⟨5, 0, 7, true⟩, ⟨5, 1, 8, false⟩], a4, c4⟩, 2, ⟨[7, 8], b4, k4⟩⟩ W (HHC.out.stay hu) (by simp) (by simp)
  have hvt : validB (MdR.md ⟨2, ⟨[⟨5, 0, 7, true⟩, ⟨5, 1, 8, false⟩], a4, c4⟩, 2, ⟨[7, 8], b4, k4⟩⟩) = true := validB_iff.2 HK4.out
  rw [hvt] at hva
  unfold encM cellsM at hva
  simp only [List.length_cons, List.length_nil] at hva
  have HVA := Lib.hid hva
  have hvb := fun W => PValid_has ⟨0, ⟨[], none, 0⟩, 0, ⟨[], none, 0⟩⟩ W ⟨hasS_nil LE W, hasS_nil LN W⟩ (by simp) (by simp)
  rw [validB_zero] at hvb
  unfold encM cellsM at hvb
  simp only [List.length_nil] at hvb
  have HVB := Lib.hid hvb
  clear hva hvt hvb
  obtain ⟨q0, q1, q2, q3, q4, q5, q6, q7, q8, q9, q10, q11, q12, q13, q14⟩ := HKP.out WA (Upd.refl _ _)
  go_wp2_with (first | (go_at_call 22; (with_reducible refine HEQ.out.mono ?_); rintro e w20 ⟨rfl, hu20⟩; have HU20 := Lib.hid (HUE.out.thn hu20); clear q0 q1 q2 q3 q4 q5 q6 q7 q8 q9 q10 q11 q12 q13 q14; obtain ⟨q0, q1, q2, q3, q4, q5, q6, q7, q8, q9, q10, q11, q12, q13, q14⟩ := HKP.out w20 HU20.out; clear hu20) | (go_at_call 11; first | ((with_reducible refine (HVA.out _ HU20.out).mono ?_); rintro e w21 ⟨rfl, hu21⟩; have HU21 := Lib.hid (HU20.out.thn hu21); clear hu21) | ((with_reducible refine (HVB.out _).mono ?_); rintro e w22 ⟨rfl, hu22⟩; have HU22 := Lib.hid (HU21.out.thn hu22); clear hu22)))
  go_ret
  exact ⟨rfl, HUA.out.thn HU22.out⟩
end Go.Proofs.Ytpneljhplbkdkaa
