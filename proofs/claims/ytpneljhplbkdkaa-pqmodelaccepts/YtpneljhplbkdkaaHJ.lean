
/- Contract of layer 10: the program's Accepts. -/
import Derived.Test.YtpneljhplbkdkaaHH
import Derived.Test.YtpneljhplbkdkaaHI
namespace Go.Proofs.Ytpneljhplbkdkaa
open Go.RowKit Go.Lib

set_option maxRecDepth 100000 in
set_option maxHeartbeats 8000000 in
theorem PAccepts_has (m : MdR) (c : Ca) (r : RsR) (w : World) (hm : HasM w m) (hr : HasS LV w r.ev) (hk : OkM m.md) (hi : m.is.l.length ≤ 1000) (hv : r.ev.l.length ≤ 1000000) :
    Calls Try.prog 16 #[encM m, encC c, encR r] w (GivesA m (accM m.md c r.rs) w) := by
  have HM := Lib.hid hm
  have HCL := Lib.hid (fun W (hu : Upd [] w W) => PClone_has m W (hm.stay hu) (by have h1 := hk.len; have h2 := hk.cap.2; simp only [MdR.md] at h1 h2; omega) (by omega))
  have HDO := Lib.hid (fun W (hu : Upd [] w W) => PDo_has m c r.h W (hm.stay hu) hk hi)
  obtain ⟨eqr, heqr⟩ : ∃ f : RsR → Bool, ∀ y, f y = decide (r.rs = y.rs) := ⟨fun y => decide (r.rs = y.rs), fun _ => rfl⟩
  have HEQ := Lib.hid (fun W (y : RsR) (hu : Upd [] w W) (hy : HasS LV W y.ev) => PEqual_has r y W (hr.stay hu) hy hv)
  simp only [← heqr] at HEQ
  have HT : Hid (∀ y : RsR, y.rs = (doM m.md c r.h).2 → eqr y = true → accM m.md c r.rs = ((doM m.md c r.h).1, true)) := fun y h1 h2 => by
    rw [heqr] at h2
    unfold accM
    exact if_pos ((of_decide_eq_true h2).trans h1)
  have HN : Hid (∀ y : RsR, y.rs = (doM m.md c r.h).2 → eqr y = false → accM m.md c r.rs = (m.md, false)) := fun y h1 h2 => by
    rw [heqr] at h2
    unfold accM
    exact if_neg (fun h => of_decide_eq_false h2 (h.trans h1.symm))
  clear heqr
  generalize doM m.md c r.h = g at *
  generalize accM m.md c r.rs = res at *
  obtain ⟨gm, hgm⟩ : ∃ g, g = m.md := ⟨_, rfl⟩
  rw [← hgm] at HCL HN
  clear hgm hk
  obtain ⟨cap, ⟨es, ea, ec⟩, nx, ⟨is, ia, ic⟩⟩ := m
  obtain ⟨ck, ct, ch, cm, cb⟩ := c
  obtain ⟨re, rh, rc, ⟨rl, ra, rk⟩⟩ := r
  unfold encM cellsM encC encR cellsR at *
  unfold GivesM encM encR cellsM cellsR at HDO
  simp only at *
  have HRET : Hid (∀ n q, n = es.length → q = is.length → encM ⟨cap, ⟨es, ea, ec⟩, nx, ⟨is, ia, ic⟩⟩ = .agg #[.int .i64 cap, .slice ea n ec, .int .i64 nx, .slice ia q ic]) := fun n q h1 h2 => by rw [h1, h2]; rfl
  obtain ⟨n, hn⟩ : ∃ n, n = es.length := ⟨_, rfl⟩
  obtain ⟨q, hq⟩ : ∃ q, q = is.length := ⟨_, rfl⟩
  obtain ⟨v, hvv⟩ : ∃ v, v = rl.length := ⟨_, rfl⟩
  rw [← hn, ← hq] at HDO HCL ⊢
  rw [← hvv] at HEQ ⊢
  have HRET := Lib.hid (HRET.out n q hn hq)
  clear hn hq hvv hm hr hi hv
  go_enter Try.func16, Try.ntmps16
  go_upto_region 1 with (fail)
  obtain ⟨hu0, b0, b1, b2, b3, hs0⟩ := four_boxes w (.cells #[.int .i64 cap, .slice ea n ec, .int .i64 nx, .slice ia q ic] 25) (.cells #[.int .i64 ck, .int .i64 ct, .int .i64 ch, .int .i64 cm, .int .i64 cb] 28) (.cells #[.int .i64 re, .int .i64 rh, .bool rc, .slice ra v rk] 34) (.cells #[.int .i64 0, .slice none 0 0, .int .i64 0, .slice none 0 0] 25)
  generalize (((w.alloc (.cells #[.int .i64 cap, .slice ea n ec, .int .i64 nx, .slice ia q ic] 25)).alloc (.cells #[.int .i64 ck, .int .i64 ct, .int .i64 ch, .int .i64 cm, .int .i64 cb] 28)).alloc (.cells #[.int .i64 re, .int .i64 rh, .bool rc, .slice ra v rk] 34)).alloc (.cells #[.int .i64 0, .slice none 0 0, .int .i64 0, .slice none 0 0] 25) = W0 at *
  have HPP : Hid (w.heap.size ≤ w.heap.size) := Nat.le_refl _
  generalize hPe : w.heap.size = P at b0 b1 b2 b3 hs0 HPP ⊢
  have HSZ0 := Lib.hid hs0
  have HU0 := Lib.hid hu0
  have HB0 := Lib.hid b0; have HB2 := Lib.hid b2; have HB3 := Lib.hid b3
  obtain ⟨m0, m1, m2, m3⟩ := cells4 b0
  obtain ⟨c0, c1, c2, c3, c4⟩ := cells5 b1
  obtain ⟨r0, r1, r2, r3⟩ := cells4 b2
  have HCK := Lib.hid (HDO.out W0 hu0)
  clear hu0 b0 b1 b2 b3 hs0
  go_upto_region 2 with (go_at_call 14; (with_reducible refine HCK.out.mono ?_); rintro e w1 ⟨x, y, rfl, hD⟩)
  obtain ⟨hal, b5, b6, hs5⟩ := two_boxes w1 (.cells #[.int .i64 x.cap, .slice x.es.ad x.es.l.length x.es.cap, .int .i64 x.nx, .slice x.is.ad x.is.l.length x.is.cap] 25) (.cells #[.int .i64 y.e, .int .i64 y.h, .bool y.c, .slice y.ev.ad y.ev.l.length y.ev.cap] 34)
  have HD5 := Lib.hid (hD.stay hal)
  have hu5 := hD.upd.thn hal
  have HB0' := Lib.hid (hu5.at HB0.out (by simp))
  have HB2' := Lib.hid (hu5.at HB2.out (by simp))
  have HB3' := Lib.hid (hu5.at HB3.out (by simp))
  have HU5 := Lib.hid (HU0.out.thn hu5)
  generalize (w1.alloc (.cells #[.int .i64 x.cap, .slice x.es.ad x.es.l.length x.es.cap, .int .i64 x.nx, .slice x.is.ad x.is.l.length x.is.cap] 25)).alloc (.cells #[.int .i64 y.e, .int .i64 y.h, .bool y.c, .slice y.ev.ad y.ev.l.length y.ev.cap] 34) = W5 at *
  have hp5 := hD.upd.size
  generalize w1.heap.size = P5 at *
  have n3 : ¬ P5 = P + 1 + 1 + 1 := by have := HSZ0.out; omega
  clear hp5 hu5 HB0 HB2 HB3
  clear hal hs5 hD c0 c1 c2 c3 c4 m0 m1 m2 m3 r0 r1 r2 r3 HCK
  have HB5 := Lib.hid b5; have HB6 := Lib.hid b6
  clear b5 b6
  have HCE := Lib.hid (HEQ.out W5 y HU5.out HD5.out.ev)
  have HTT := Lib.hid (HT.out y HD5.out.rs); have HNN := Lib.hid (HN.out y HD5.out.rs)
  obtain ⟨bq, hbq⟩ : ∃ b, b = eqr y := ⟨_, rfl⟩
  rw [← hbq] at HCE HTT HNN
  clear hbq HT HN HEQ HDO
  obtain ⟨r0, r1, r2, r3⟩ := cells4 HB2'.out
  obtain ⟨s0, s1, s2, s3⟩ := cells4 HB6.out
  cases bq with
  | true =>
    have hres := HTT.out rfl
    subst hres
    go_upto_region 4 with (go_at_call 22; (with_reducible refine HCE.out.mono ?_); rintro e w2 ⟨rfl, hu2⟩)
    obtain ⟨m0, m1, m2, m3⟩ := cells4 (hu2.at HB5.out (by simp))
    have hb3 := hu2.at HB3'.out (by simp)
    obtain ⟨d0, d1, d2, d3⟩ := cells4 hb3
    obtain ⟨e0, e1, e2, e3⟩ := free4 hb3
    go_wp2_with fail
    have k8 := stored4 hb3 (.int .i64 x.cap) (.slice x.es.ad x.es.l.length x.es.cap) (.int .i64 x.nx) (.slice x.is.ad x.is.l.length x.is.cap)
    have u8 := upd_set4 w2 (P + 1 + 1 + 1) (.int .i64 x.cap) (.slice x.es.ad x.es.l.length x.es.cap) (.int .i64 x.nx) (.slice x.is.ad x.is.l.length x.is.cap)
    with_reducible generalize (((w2.setCell ⟨P + 1 + 1 + 1, 0, none⟩ (.int .i64 x.cap)).setCell ⟨P + 1 + 1 + 1, 1, none⟩ (.slice x.es.ad x.es.l.length x.es.cap)).setCell ⟨P + 1 + 1 + 1, 2, none⟩ (.int .i64 x.nx)).setCell ⟨P + 1 + 1 + 1, 3, none⟩ (.slice x.is.ad x.is.l.length x.is.cap) = W8 at k8 u8 ⊢
    obtain ⟨q0, q1, q2, q3⟩ := cells4 k8
    have hU : Upd [] w W8 := (HU5.out.thn hu2).trans u8 (fun x hx hl => by have := HPP.out; simp at hx; omega)
    exact bodyPost_ret (v := .tuple #[.agg #[.int .i64 x.cap, .slice x.es.ad x.es.l.length x.es.cap, .int .i64 x.nx, .slice x.is.ad x.is.l.length x.is.cap], .bool true]) (by simp [results, Try.results16, go_sem, q0, q1, q2, q3]) rfl (fin_acc (by have := HPP.out; omega) (by have := HSZ0.out; omega) HU0.out HM.out (HD5.out.stay hu2) u8 hU)
  | false =>
    have hres := HNN.out rfl
    subst hres
    go_upto_region 3 with (go_at_call 22; (with_reducible refine HCE.out.mono ?_); rintro e w2 ⟨rfl, hu2⟩)
    obtain ⟨m0, m1, m2, m3⟩ := cells4 (hu2.at HB0'.out (by simp))
    have hcl := HCL.out w2 (HU5.out.thn hu2)
    have HC2 := Lib.hid hcl
    have HU2 := Lib.hid (HU5.out.thn hu2)
    have HB33 := Lib.hid (hu2.at HB3'.out (by simp))
    have HSZ2 := Lib.hid (lt_block HB33.out)
    clear hcl hu2 HCL
    have hb3' := HB33.out
    obtain ⟨d0', d1', d2', d3'⟩ := cells4 hb3'
    clear hb3' d0' d1' d2' d3'
    go_wp2_with (go_at_call 28; (with_reducible refine HC2.out.mono ?_); rintro e w3 ⟨z, rfl, hzm, hzo, hu3⟩; have hb3 := hu3.at HB33.out (by simp); obtain ⟨d0, d1, d2, d3⟩ := cells4 hb3; obtain ⟨e0, e1, e2, e3⟩ := free4 hb3; have HZM := Lib.hid hzm; have HZO := Lib.hid hzo; have HU3 := Lib.hid (HU2.out.thn hu3); have HB34 := Lib.hid hb3; clear hzm hzo hu3 hb3)
    have k8 := stored4 HB34.out (.int .i64 z.cap) (.slice z.es.ad z.es.l.length z.es.cap) (.int .i64 z.nx) (.slice z.is.ad z.is.l.length z.is.cap)
    have u8 := upd_set4 w3 (P + 1 + 1 + 1) (.int .i64 z.cap) (.slice z.es.ad z.es.l.length z.es.cap) (.int .i64 z.nx) (.slice z.is.ad z.is.l.length z.is.cap)
    with_reducible generalize (((w3.setCell ⟨P + 1 + 1 + 1, 0, none⟩ (.int .i64 z.cap)).setCell ⟨P + 1 + 1 + 1, 1, none⟩ (.slice z.es.ad z.es.l.length z.es.cap)).setCell ⟨P + 1 + 1 + 1, 2, none⟩ (.int .i64 z.nx)).setCell ⟨P + 1 + 1 + 1, 3, none⟩ (.slice z.is.ad z.is.l.length z.is.cap) = W8 at k8 u8 ⊢
    obtain ⟨q0, q1, q2, q3⟩ := cells4 k8
    have hU : Upd [] w W8 := HU3.out.trans u8 (fun x hx hl => by have := HPP.out; simp at hx; omega)
    exact bodyPost_ret (v := .tuple #[.agg #[.int .i64 z.cap, .slice z.es.ad z.es.l.length z.es.cap, .int .i64 z.nx, .slice z.is.ad z.is.l.length z.is.cap], .bool false]) (by simp [results, Try.results16, go_sem, q0, q1, q2, q3]) rfl ⟨z, rfl, HZM.out, ⟨HZO.out.has.es.keep1 u8 (HZO.out.av HSZ2.out).es, HZO.out.has.is.keep1 u8 (HZO.out.av HSZ2.out).is⟩, fun b hb _ => HZO.out.av (by have := HU2.out.size; omega), hU⟩
end Go.Proofs.Ytpneljhplbkdkaa
