
/- P10.4 (PqmodelCapacity), from what the program's functions are asked to do. -/
import Derived.Test.YtpneljhplbkdkaaAQ
namespace Go.Proofs.Ytpneljhplbkdkaa
open Go.RowKit Go.Lib

theorem cap_can (m : Md) (h x : Int) : (doM m ⟨2, 0, h, 0, 0⟩ x).1.es.length = m.es.length := by
  unfold doM
  rw [if_neg (show ¬ (2 : Int) = 1 by decide), if_pos rfl]
  exact canM_len _ _
theorem cap_ins {m : Md} (hm : OkM m) {t : Int} (ht : 0 ≤ t ∧ t < 4294967296) (x : Int) : (doM m ⟨1, t, 0, 0, 0⟩ x).2.e = 10 ↔ (m.es.length : Int) = m.cap := by
  unfold doM
  rw [if_pos rfl]
  exact insM_full hm (c := ⟨1, t, 0, 0, 0⟩) ⟨ht.1, by simp only [MaxV]; omega⟩ x
theorem cap_bat {m : Md} (hm : OkM m) (x : Int) : (doM m ⟨3, 0, 0, 64, 1152921504606846977⟩ x).1.es = [] := by
  unfold doM
  rw [if_neg (by decide), if_neg (by decide), if_pos rfl]
  unfold batM
  rw [if_neg (fun h => h (by decide))]
  refine scanB_all _ _ (fun e he => ?_) ?_
  · have := (hm.ent e he).2.1
    simp only [MaxV] at this
    show e.t < 1152921504606846977
    omega
  · have h1 := hm.len
    have h2 := hm.cap.2
    simp only [List.length_nil]
    show _ ≤ (64 : Int)
    omega
set_option maxRecDepth 100000 in
set_option maxHeartbeats 8000000 in
theorem Capacity_any (hB : Bears) (c : Int) (la : Option Addr) (lc : Nat) (l : List St) (t h fr : Int) (w : World) (hc : 0 ≤ c ∧ c < 256) (hr : Row LP w la l) (hlm : l.length ≤ maxLen) (ht : 0 ≤ t ∧ t < 4294967296) :
    Calls Try.prog 7 #[.int .u8 c, .slice la l.length lc, .int .u32 t, .int .i64 h, .int .i64 fr] w fun e w' => e = .returned (.bool true) ∧ Upd [] w w' := by
  have HHD := Lib.hid hB.hd
  have HMD := Lib.hid (fun W (hu : Upd [] w W) => Made_has c la lc l W hc (hr.stay hu) hlm)
  have hok := madeM_ok c l
  generalize madeM c l = g at *
  obtain ⟨hok, hli⟩ := hok
  have HDO := Lib.hid (fun (x : MdR) (k : Ca) (z : Int) W (he : x.md = g) (hh : HasM W x) => he ▸ hB.dox x k z W hh (he ▸ hok) (by have h1 := hli; rw [← he] at h1; simp only [MdR.md] at h1; omega))
  have hwt : IntKind.i64.wrap t = t := by rw [IntKind.wrap_i64]; omega
  have H1 := Lib.hid (cap_can g h 0)
  have H2 := Lib.hid (cap_ins hok ht fr)
  have H3 := Lib.hid (cap_bat hok 0)
  have HD1 := Lib.hid (fun (x : MdR) W (he : x.md = g) (hh : HasM W x) => HDO.out x ⟨2, 0, h, 0, 0⟩ 0 W he hh)
  have HD2 := Lib.hid (fun (x : MdR) W (he : x.md = g) (hh : HasM W x) => HDO.out x ⟨1, t, 0, 0, 0⟩ fr W he hh)
  have HD3 := Lib.hid (fun (x : MdR) W (he : x.md = g) (hh : HasM W x) => HDO.out x ⟨3, 0, 0, 64, 1152921504606846977⟩ 0 W he hh)
  generalize doM g ⟨2, 0, h, 0, 0⟩ 0 = g1 at *
  generalize doM g ⟨1, t, 0, 0, 0⟩ fr = g2 at *
  generalize doM g ⟨3, 0, 0, 64, 1152921504606846977⟩ 0 = g3 at *
  obtain ⟨n, hn⟩ : ∃ n, n = l.length := ⟨_, rfl⟩
  rw [← hn] at HMD ⊢
  clear hok hli hr hn hlm hc hB HDO ht
  go_enter Try.func7, Try.ntmps7
  go_upto_region 2 with (go_at_call 9; (with_reducible refine (HHD.out _).mono ?_); rintro e w1 ⟨rfl, hu1⟩)
  have HU1 := Lib.hid hu1
  clear hu1 HHD
  go_upto_region 3 with (go_at_call 13; (with_reducible refine (HMD.out _ HU1.out).mono ?_); rintro e w2 ⟨x, rfl, hM⟩; unfold encM cellsM)
  have hal := (Upd.refl [] w2).alloc (.cells #[.int .i64 x.cap, .slice x.es.ad x.es.l.length x.es.cap, .int .i64 x.nx, .slice x.is.ad x.is.l.length x.is.cap] 25)
  have b2 := heap_alloc1 w2 (.cells #[.int .i64 x.cap, .slice x.es.ad x.es.l.length x.es.cap, .int .i64 x.nx, .slice x.is.ad x.is.l.length x.is.cap] 25)
  generalize w2.alloc (.cells #[.int .i64 x.cap, .slice x.es.ad x.es.l.length x.es.cap, .int .i64 x.nx, .slice x.is.ad x.is.l.length x.is.cap] 25) = W2 at *
  generalize w2.heap.size = P2 at *
  have HU2 := Lib.hid (HU1.out.thn (hM.upd.thn hal))
  have HB2 := Lib.hid b2
  have HX2 := Lib.hid (hM.has.stay hal)
  have HXM := Lib.hid hM.md
  clear hM hal b2 HMD HU1
  have hd1 := fun W (hu : Upd [] W2 W) => HD1.out x W HXM.out (HX2.out.stay hu)
  have hd2 := fun W (hu : Upd [] W2 W) => HD2.out x W HXM.out (HX2.out.stay hu)
  have hd3 := fun W (hu : Upd [] W2 W) => HD3.out x W HXM.out (HX2.out.stay hu)
  unfold GivesM encM encC encR cellsM cellsR at hd1 hd2 hd3
  simp only at hd1 hd2 hd3
  have HE1 := Lib.hid hd1; have HE2 := Lib.hid hd2; have HE3 := Lib.hid hd3
  clear hd1 hd2 hd3 HD1 HD2 HD3 HX2
  obtain ⟨x0, x1, x2, x3⟩ := cells4 HB2.out
  have HV2 : Hid (Upd [] W2 W2) := Lib.hid (Upd.refl [] W2)
  go_upto_region 4 with (go_at_call 14; (with_reducible refine (HE1.out _ HV2.out).mono ?_); rintro e w3 ⟨a, ya, rfl, hD⟩)
  obtain ⟨hal, b3, b4, _⟩ := two_boxes w3 (.cells #[.int .i64 a.cap, .slice a.es.ad a.es.l.length a.es.cap, .int .i64 a.nx, .slice a.is.ad a.is.l.length a.is.cap] 25) (.cells #[.int .i64 ya.e, .int .i64 ya.h, .bool ya.c, .slice ya.ev.ad ya.ev.l.length ya.ev.cap] 34)
  generalize (w3.alloc (.cells #[.int .i64 a.cap, .slice a.es.ad a.es.l.length a.es.cap, .int .i64 a.nx, .slice a.is.ad a.is.l.length a.is.cap] 25)).alloc (.cells #[.int .i64 ya.e, .int .i64 ya.h, .bool ya.c, .slice ya.ev.ad ya.ev.l.length ya.ev.cap] 34) = W3 at *
  generalize w3.heap.size = P3 at *
  have hvv := hD.upd.thn hal
  have HV3 := Lib.hid (HV2.out.thn hvv)
  have HBM3 := Lib.hid b3; have HBR3 := Lib.hid b4
  have HDM3 := Lib.hid hD.md; have HDR3 := Lib.hid hD.rs
  clear hD hal b3 b4 hvv x0 x1 x2 x3 HE1
  obtain ⟨x0, x1, x2, x3⟩ := cells4 (HV3.out.at HB2.out (by simp))
  go_upto_region 5 with (go_at_call 14; (with_reducible refine (HE2.out _ HV3.out).mono ?_); rintro e w4 ⟨b, yb, rfl, hD⟩)
  obtain ⟨hal, b3, b4, _⟩ := two_boxes w4 (.cells #[.int .i64 b.cap, .slice b.es.ad b.es.l.length b.es.cap, .int .i64 b.nx, .slice b.is.ad b.is.l.length b.is.cap] 25) (.cells #[.int .i64 yb.e, .int .i64 yb.h, .bool yb.c, .slice yb.ev.ad yb.ev.l.length yb.ev.cap] 34)
  generalize (w4.alloc (.cells #[.int .i64 b.cap, .slice b.es.ad b.es.l.length b.es.cap, .int .i64 b.nx, .slice b.is.ad b.is.l.length b.is.cap] 25)).alloc (.cells #[.int .i64 yb.e, .int .i64 yb.h, .bool yb.c, .slice yb.ev.ad yb.ev.l.length yb.ev.cap] 34) = W4 at *
  generalize w4.heap.size = P4 at *
  have hvv := hD.upd.thn hal
  have HV4 := Lib.hid (HV3.out.thn hvv)
  have HBM4 := Lib.hid b3; have HBR4 := Lib.hid b4
  have HDM4 := Lib.hid hD.md; have HDR4 := Lib.hid hD.rs
  have HBM3' := Lib.hid (hvv.at HBM3.out (by simp)); have HBR3' := Lib.hid (hvv.at HBR3.out (by simp)); clear HBM3 HBR3; have HBM3 := HBM3'; have HBR3 := HBR3'; clear HBM3' HBR3'
  clear hD hal b3 b4 hvv x0 x1 x2 x3 HE2
  obtain ⟨x0, x1, x2, x3⟩ := cells4 (HV4.out.at HB2.out (by simp))
  go_upto_region 6 with (go_at_call 14; (with_reducible refine (HE3.out _ HV4.out).mono ?_); rintro e w5 ⟨d, yd, rfl, hD⟩)
  obtain ⟨hal, b3, b4, _⟩ := two_boxes w5 (.cells #[.int .i64 d.cap, .slice d.es.ad d.es.l.length d.es.cap, .int .i64 d.nx, .slice d.is.ad d.is.l.length d.is.cap] 25) (.cells #[.int .i64 yd.e, .int .i64 yd.h, .bool yd.c, .slice yd.ev.ad yd.ev.l.length yd.ev.cap] 34)
  generalize (w5.alloc (.cells #[.int .i64 d.cap, .slice d.es.ad d.es.l.length d.es.cap, .int .i64 d.nx, .slice d.is.ad d.is.l.length d.is.cap] 25)).alloc (.cells #[.int .i64 yd.e, .int .i64 yd.h, .bool yd.c, .slice yd.ev.ad yd.ev.l.length yd.ev.cap] 34) = W5 at *
  generalize w5.heap.size = P5 at *
  have hvv := hD.upd.thn hal
  have HV5 := Lib.hid (HV4.out.thn hvv)
  have HBM5 := Lib.hid b3; have HBR5 := Lib.hid b4
  have HDM5 := Lib.hid hD.md; have HDR5 := Lib.hid hD.rs
  have HBM3' := Lib.hid (hvv.at HBM3.out (by simp)); have HBR3' := Lib.hid (hvv.at HBR3.out (by simp)); clear HBM3 HBR3; have HBM3 := HBM3'; have HBR3 := HBR3'; clear HBM3' HBR3'
  have HBM4' := Lib.hid (hvv.at HBM4.out (by simp)); have HBR4' := Lib.hid (hvv.at HBR4.out (by simp)); clear HBM4 HBR4; have HBM4 := HBM4'; have HBR4 := HBR4'; clear HBM4' HBR4'
  clear hD hal b3 b4 hvv x0 x1 x2 x3 HE3
  obtain ⟨x0, x1, x2, x3⟩ := cells4 (HV5.out.at HB2.out (by simp))
  obtain ⟨p0, p1, p2, p3⟩ := cells4 HBM3.out
  obtain ⟨q0, q1, q2, q3⟩ := cells4 HBR4.out
  obtain ⟨r0, r1, r2, r3⟩ := cells4 HBM5.out
  clear p0 p2 p3 q1 q2 q3 r0 r2 r3 x2 x3
  have e1 : a.es.l.length = x.es.l.length := by have h1 := H1.out; rw [← HDM3.out, ← HXM.out] at h1; exact h1
  have e2 : yb.e = 10 ↔ (x.es.l.length : Int) = x.cap := by have h1 := H2.out; rw [← HDR4.out, ← HXM.out] at h1; exact h1
  have e3 : d.es.l.length = 0 := by have h1 := H3.out; rw [← HDM5.out] at h1; simp only [MdR.md] at h1; rw [h1]; rfl
  rw [e1] at p1
  rw [e3] at r1
  clear e1 e3
  generalize x.es.l.length = nx at *
  by_cases he : yb.e = 10
  · have g1 : (yb.e == 10) = true := by simpa using he
    have g2 : ((nx : Int) == x.cap) = true := by simpa using e2.1 he
    clear he e2
    go_wp2_with fail
    go_ret
    exact ⟨rfl, HU2.out.thn HV5.out⟩
  · have g1 : (yb.e == 10) = false := by simpa using he
    have g2 : ((nx : Int) == x.cap) = false := by simpa using (fun h => he (e2.2 h))
    clear he e2
    go_wp2_with fail
    go_ret
    exact ⟨rfl, HU2.out.thn HV5.out⟩
end Go.Proofs.Ytpneljhplbkdkaa
