
/- Contract of layer 10: the reference's Accepts. -/
import Derived.Test.YtpneljhplbkdkaaAI
import Derived.Test.YtpneljhplbkdkaaAK
namespace Go.Proofs.Ytpneljhplbkdkaa
open Go.RowKit Go.Lib

/-- What Accepts gives. -/
def GivesA (m0 : MdR) (p : Md × Bool) (w : World) (e : Ending) (w' : World) : Prop := ∃ m : MdR, e = .returned (.tuple #[encM m, .bool p.2]) ∧ m.md = p.1 ∧ HasM w' m ∧ (∀ b, b < w.heap.size → AvM m0 b → AvM m b) ∧ Upd [] w w'
theorem fin_acc {w W0 W5 W8 : World} {P : Nat} {m0 : MdR} {g : Md × Rs} {x : MdR} {y : RsR} (hp : w.heap.size ≤ P) (hs : P < W0.heap.size) (hu0 : Upd [] w W0) (hm : HasM w m0) (hD : DidM m0 W0 g.1 g.2 W5 x y) (hu : Upd [P] W5 W8) (hU : Upd [] w W8) : GivesA m0 (g.1, true) w (.returned (.tuple #[encM x, .bool true])) W8 := by
  have a1 := hD.av P hs (hm.avoids hp)
  exact ⟨x, rfl, hD.md, ⟨hD.has.es.keep1 hu a1.1.es, hD.has.is.keep1 hu a1.1.is⟩, fun b hb ha => (hD.av b (Nat.lt_of_lt_of_le hb hu0.size) ha).1, hU⟩
set_option maxRecDepth 100000 in
set_option maxHeartbeats 8000000 in
theorem RAccepts_has (m : MdR) (c : Ca) (r : RsR) (w : World) (hm : HasM w m) (hr : HasS LV w r.ev) (hl : m.es.l.length ≤ 1000) (hi : m.is.l.length ≤ 100000) (hx : 0 ≤ m.nx ∧ m.nx ≤ 1000000) (hv : r.ev.l.length ≤ 1000000) :
    Calls Try.prog 17 #[encM m, encC c, encR r] w (GivesA m (accM m.md c r.rs) w) := by
  have HM := Lib.hid hm
  have HDO := Lib.hid (fun W (hu : Upd [] w W) => RDo_has m c r.h W (hm.stay hu) hl hi hx)
  obtain ⟨eqr, heqr⟩ : ∃ f : RsR → Bool, ∀ y, f y = decide (r.rs = y.rs) := ⟨fun y => decide (r.rs = y.rs), fun _ => rfl⟩
  have HEQ := Lib.hid (fun W (y : RsR) (hu : Upd [] w W) (hy : HasS LV W y.ev) => REqual_has r y W (hr.stay hu) hy hv)
  simp only [← heqr] at HEQ
  have HT : Hid (∀ y : RsR, y.rs = (doM m.md c r.h).2 → eqr y = true → accM m.md c r.rs = ((doM m.md c r.h).1, true)) := fun y h1 h2 => by
    rw [heqr] at h2
    unfold accM
    exact if_pos ((of_decide_eq_true h2).trans h1)
  have HN : Hid (∀ y : RsR, y.rs = (doM m.md c r.h).2 → eqr y = false → accM m.md c r.rs = (m.md, false)) := fun y h1 h2 => by
    rw [heqr] at h2
    unfold accM
    exact if_neg (fun h => of_decide_eq_false h2 (h.trans h1.symm))
  clear heqr
  generalize doM m.md c r.h = g at *
  generalize accM m.md c r.rs = res at *
  obtain ⟨cap, ⟨es, ea, ec⟩, nx, ⟨is, ia, ic⟩⟩ := m
  obtain ⟨ck, ct, ch, cm, cb⟩ := c
  obtain ⟨re, rh, rc, ⟨rl, ra, rk⟩⟩ := r
  unfold encM cellsM encC encR cellsR at *
  unfold GivesM encM encR cellsM cellsR at HDO
  simp only at *
  have HRET : Hid (∀ n q, n = es.length → q = is.length → encM ⟨cap, ⟨es, ea, ec⟩, nx, ⟨is, ia, ic⟩⟩ = .agg #[.int .i64 cap, .slice ea n ec, .int .i64 nx, .slice ia q ic]) := fun n q h1 h2 => by rw [h1, h2]; rfl
  obtain ⟨n, hn⟩ : ∃ n, n = es.length := ⟨_, rfl⟩
  obtain ⟨q, hq⟩ : ∃ q, q = is.length := ⟨_, rfl⟩
  obtain ⟨v, hvv⟩ : ∃ v, v = rl.length := ⟨_, rfl⟩
  rw [← hn, ← hq] at HDO ⊢
  rw [← hvv] at HEQ ⊢
  have HRET := Lib.hid (HRET.out n q hn hq)
  clear hn hq hvv hm hr hl hi hx hv
  go_enter Try.func17, Try.ntmps17
  go_upto_region 1 with (fail)
  obtain ⟨hu0, b0, b1, b2, b3, hs0⟩ := four_boxes w (.cells #[.int .i64 cap, .slice ea n ec, .int .i64 nx, .slice ia q ic] 25) (.cells #[.int .i64 ck, .int .i64 ct, .int .i64 ch, .int .i64 cm, .int .i64 cb] 28) (.cells #[.int .i64 re, .int .i64 rh, .bool rc, .slice ra v rk] 34) (.cells #[.int .i64 0, .slice none 0 0, .int .i64 0, .slice none 0 0] 25)
  generalize (((w.alloc (.cells #[.int .i64 cap, .slice ea n ec, .int .i64 nx, .slice ia q ic] 25)).alloc (.cells #[.int .i64 ck, .int .i64 ct, .int .i64 ch, .int .i64 cm, .int .i64 cb] 28)).alloc (.cells #[.int .i64 re, .int .i64 rh, .bool rc, .slice ra v rk] 34)).alloc (.cells #[.int .i64 0, .slice none 0 0, .int .i64 0, .slice none 0 0] 25) = W0 at *
  have HPP : Hid (w.heap.size ≤ w.heap.size) := Nat.le_refl _
  generalize hPe : w.heap.size = P at b0 b1 b2 b3 hs0 HPP ⊢
  have HSZ0 := Lib.hid hs0
  have HU0 := Lib.hid hu0
  have HB0 := Lib.hid b0; have HB2 := Lib.hid b2; have HB3 := Lib.hid b3
  obtain ⟨m0, m1, m2, m3⟩ := cells4 b0
  obtain ⟨c0, c1, c2, c3, c4⟩ := cells5 b1
  obtain ⟨r0, r1, r2, r3⟩ := cells4 b2
  have HCK := Lib.hid (HDO.out W0 hu0)
  clear hu0 b0 b1 b2 b3 hs0
  go_upto_region 2 with (go_at_call 15; (with_reducible refine HCK.out.mono ?_); rintro e w1 ⟨x, y, rfl, hD⟩)
  obtain ⟨hal, b5, b6, hs5⟩ := two_boxes w1 (.cells #[.int .i64 x.cap, .slice x.es.ad x.es.l.length x.es.cap, .int .i64 x.nx, .slice x.is.ad x.is.l.length x.is.cap] 25) (.cells #[.int .i64 y.e, .int .i64 y.h, .bool y.c, .slice y.ev.ad y.ev.l.length y.ev.cap] 34)
  have HD5 := Lib.hid (hD.stay hal)
  have hu5 := hD.upd.thn hal
  have HB0' := Lib.hid (hu5.at HB0.out (by simp))
  have HB2' := Lib.hid (hu5.at HB2.out (by simp))
  have HB3' := Lib.hid (hu5.at HB3.out (by simp))
  have HU5 := Lib.hid (HU0.out.thn hu5)
  generalize (w1.alloc (.cells #[.int .i64 x.cap, .slice x.es.ad x.es.l.length x.es.cap, .int .i64 x.nx, .slice x.is.ad x.is.l.length x.is.cap] 25)).alloc (.cells #[.int .i64 y.e, .int .i64 y.h, .bool y.c, .slice y.ev.ad y.ev.l.length y.ev.cap] 34) = W5 at *
  have hp5 := hD.upd.size
  generalize w1.heap.size = P5 at *
  have n3 : ¬ P5 = P + 1 + 1 + 1 := by have := HSZ0.out; omega
  clear hp5 hu5 HB0 HB2 HB3
  clear hal hs5 hD c0 c1 c2 c3 c4 m0 m1 m2 m3 r0 r1 r2 r3 HCK
  have HB5 := Lib.hid b5; have HB6 := Lib.hid b6
  clear b5 b6
  have HCE := Lib.hid (HEQ.out W5 y HU5.out HD5.out.ev)
  have HTT := Lib.hid (HT.out y HD5.out.rs); have HNN := Lib.hid (HN.out y HD5.out.rs)
  obtain ⟨bq, hbq⟩ : ∃ b, b = eqr y := ⟨_, rfl⟩
  rw [← hbq] at HCE HTT HNN
  clear hbq HT HN HEQ HDO
  obtain ⟨r0, r1, r2, r3⟩ := cells4 HB2'.out
  obtain ⟨s0, s1, s2, s3⟩ := cells4 HB6.out
  cases bq with
  | true =>
    have hres := HTT.out rfl
    subst hres
    go_upto_region 4 with (go_at_call 21; (with_reducible refine HCE.out.mono ?_); rintro e w2 ⟨rfl, hu2⟩)
    obtain ⟨m0, m1, m2, m3⟩ := cells4 (hu2.at HB5.out (by simp))
    have hb3 := hu2.at HB3'.out (by simp)
    obtain ⟨d0, d1, d2, d3⟩ := cells4 hb3
    obtain ⟨e0, e1, e2, e3⟩ := free4 hb3
    go_wp2_with fail
    have k8 := stored4 hb3 (.int .i64 x.cap) (.slice x.es.ad x.es.l.length x.es.cap) (.int .i64 x.nx) (.slice x.is.ad x.is.l.length x.is.cap)
    have u8 := upd_set4 w2 (P + 1 + 1 + 1) (.int .i64 x.cap) (.slice x.es.ad x.es.l.length x.es.cap) (.int .i64 x.nx) (.slice x.is.ad x.is.l.length x.is.cap)
    with_reducible generalize (((w2.setCell ⟨P + 1 + 1 + 1, 0, none⟩ (.int .i64 x.cap)).setCell ⟨P + 1 + 1 + 1, 1, none⟩ (.slice x.es.ad x.es.l.length x.es.cap)).setCell ⟨P + 1 + 1 + 1, 2, none⟩ (.int .i64 x.nx)).setCell ⟨P + 1 + 1 + 1, 3, none⟩ (.slice x.is.ad x.is.l.length x.is.cap) = W8 at k8 u8 ⊢
    obtain ⟨q0, q1, q2, q3⟩ := cells4 k8
    have hU : Upd [] w W8 := (HU5.out.thn hu2).trans u8 (fun x hx hl => by have := HPP.out; simp at hx; omega)
    exact bodyPost_ret (v := .tuple #[.agg #[.int .i64 x.cap, .slice x.es.ad x.es.l.length x.es.cap, .int .i64 x.nx, .slice x.is.ad x.is.l.length x.is.cap], .bool true]) (by simp [results, Try.results17, go_sem, q0, q1, q2, q3]) rfl (fin_acc (by have := HPP.out; omega) (by have := HSZ0.out; omega) HU0.out HM.out (HD5.out.stay hu2) u8 hU)
  | false =>
    have hres := HNN.out rfl
    subst hres
    go_upto_region 3 with (go_at_call 21; (with_reducible refine HCE.out.mono ?_); rintro e w2 ⟨rfl, hu2⟩)
    obtain ⟨m0, m1, m2, m3⟩ := cells4 (hu2.at HB0'.out (by simp))
    have hb3 := hu2.at HB3'.out (by simp)
    obtain ⟨d0, d1, d2, d3⟩ := cells4 hb3
    obtain ⟨e0, e1, e2, e3⟩ := free4 hb3
    go_wp2_with fail
    have k8 := stored4 hb3 (.int .i64 cap) (.slice ea n ec) (.int .i64 nx) (.slice ia q ic)
    have u8 := upd_set4 w2 (P + 1 + 1 + 1) (.int .i64 cap) (.slice ea n ec) (.int .i64 nx) (.slice ia q ic)
    with_reducible generalize (((w2.setCell ⟨P + 1 + 1 + 1, 0, none⟩ (.int .i64 cap)).setCell ⟨P + 1 + 1 + 1, 1, none⟩ (.slice ea n ec)).setCell ⟨P + 1 + 1 + 1, 2, none⟩ (.int .i64 nx)).setCell ⟨P + 1 + 1 + 1, 3, none⟩ (.slice ia q ic) = W8 at k8 u8 ⊢
    obtain ⟨q0, q1, q2, q3⟩ := cells4 k8
    have hU : Upd [] w W8 := (HU5.out.thn hu2).trans u8 (fun x hx hl => by have := HPP.out; simp at hx; omega)
    exact bodyPost_ret (v := .tuple #[.agg #[.int .i64 cap, .slice ea n ec, .int .i64 nx, .slice ia q ic], .bool false]) (by simp [results, Try.results17, go_sem, q0, q1, q2, q3]) rfl (⟨⟨cap, ⟨es, ea, ec⟩, nx, ⟨is, ia, ic⟩⟩, by rw [HRET.out], rfl, HM.out.stay hU, fun _ _ h => h, hU⟩)
end Go.Proofs.Ytpneljhplbkdkaa
