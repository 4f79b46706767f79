
/- P10.1 (PqmodelAccepts): the law's walk. -/
import Derived.Test.YtpneljhplbkdkaaHP
namespace Go.Proofs.Ytpneljhplbkdkaa
open Go.RowKit Go.Lib

theorem evs_len {m : Md} (c : Ca) (h : Int) : (doM m c h).2.ev.length ≤ 64 := by
  unfold doM
  split
  · unfold insM
    split
    · simp [errR]
    · split
      · simp [errR]
      · split <;> simp [errR]
  · split
    · unfold canM
      split <;> simp [errR]
    · split
      · unfold batM
        split
        · simp [errR]
        · rename_i hr
          have hr := Classical.not_not.1 hr
          have := scanB_le (b := c.b) (mx := c.m) m.es [] (by simp; omega)
          simp only
          omega
      · simp [errR]
/-- The result of Do is accepted. -/
theorem acc_yes {m : Md} {c : Ca} {h : Int} (hx : ¬ (c.k = 1 ∧ (doM m c h).2.e ≠ 0)) : accM m c (doM m c h).2 = ((doM m c h).1, true) := by
  unfold accM
  rw [acc_own m c h hx, if_pos rfl]
/-- No other with the same handle is. -/
theorem acc_no {m : Md} {c : Ca} {h : Int} (hx : ¬ (c.k = 1 ∧ (doM m c h).2.e ≠ 0)) {r : Rs} (hh : r.h = (doM m c h).2.h) (hr : r ≠ (doM m c h).2) : (accM m c r).2 = false := by
  unfold accM
  rw [hh, acc_own m c h hx, if_neg hr]
theorem step_row {α : Type} {L : Lay α} {ts te : TypeId} (T : RowTy L ts te) {w : World} {ops : Array Oper} {o : Oper} {a : Act} {K : Act → World → Prop} {Q : Exit → Act → World → Prop} {E : Prop} (hgd : o.guard = none) (s x : Operand)
    (ho : o.op = .call { callee := .builtin .append, args := #[s, x], argTypes := #[ts, ts] })
    (base : Nat) (v : Value) (n : Nat) (xs : List α) (hs : a.eval s = v) (hown : w.ownsRow base te L.k v n (L.flat xs))
    (ad : Option Addr) (m c : Nat) (ys : List α) (hx : a.eval x = .slice ad m c) (hm : m = ys.length) (hy : Row L w ad ys) (hnil : ad = none → c = 0) (hn : n + m ≤ 1000000) (hbase : base ≤ w.heap.size)
    (h : ∀ v' w', w'.ownsRow base te L.k v' (n + m) (L.flat (xs ++ ys)) → w.grownBy w' v.ownBlock → K (a.put o.dst v') w') :
    if Region.wanted o (yielded ops a.tmps) = true then Oper.wp Try.prog o a w K Q else E := by
  have hw : Region.wanted o (yielded ops a.tmps) = true := by simp [Region.wanted, hgd]
  rw [if_pos hw]
  obtain ⟨i0, z, b, hi0, hz0, hz1, hz2, hz3, hb⟩ := T.info
  cases ad with
  | none =>
    have e := row_none hy
    subst e
    obtain rfl := hnil rfl
    obtain rfl : m = 0 := by simpa using hm
    have hK := h v w (by simpa using hown) (grownBy_refl _ _)
    have hrun := run_append_owned_none (P := Try.prog) (w := w) base ts o.type te i0 L.k T.un hi0 v n _ hown
    unfold Oper.wp
    simp [execOp, ho, resolve, invoke, builtin, hs, hx, hrun, Result.andThen]
    exact hK
  | some ad =>
    have hbb : (n + m) * b ≤ 1000000 * 1000 := Nat.mul_le_mul hn hb
    refine wp_append_own w s x ts ho base te i0 z L.k b T.un hi0 hz0 hz1 hz2 hz3 L.pos v n _ hs hown ad m c (L.flat ys) hx (by rw [L.flat_length, hm]) hy.cells (L.flat_one ys) (by simp [maxLen]; omega) (by omega) hbase ?_
    intro v' w' h1 h2 _
    exact h v' w' (by rw [L.flat_append]; exact h1) h2
theorem made_second (w : World) (O : Obj) : ((w.alloc O).alloc (.cells #[] 51)).ownsRow w.heap.size 51 LV.k (.slice (some ⟨w.heap.size + 1, 0, none⟩) 0 0) 0 (LV.flat []) := by
  have h := World.ownsRow_made (e := 51) (size := LV.k) (w.alloc O) #[] 0 (Nat.le_refl _) (Nat.zero_le _) (by simp)
  rw [show (w.alloc O).heap.size = w.heap.size + 1 by simp] at h
  exact row_base h (by omega)
set_option maxRecDepth 100000 in
set_option maxHeartbeats 16000000 in
theorem Accepts_any (c : Int) (la : Option Addr) (lc : Nat) (l : List St) (s : St) (x : Ev) (w : World) (hc : 0 ≤ c ∧ c < 256) (hr : Row LP w la l) (hlm : l.length ≤ maxLen) :
    Calls Try.prog 8 #[.int .u8 c, .slice la l.length lc, encS s, .agg #[.int .i64 x.t, .int .i64 x.h]] w fun e w' => e = .returned (.bool true) ∧ Upd [] w w' := by
  have HHD := Lib.hid (fun W => Head_has W)
  have HMD := Lib.hid (fun W (hu : Upd [] w W) => Made_has c la lc l W hc (hr.stay hu) hlm)
  have hok0 := madeM_ok c l
  obtain ⟨n, hn⟩ : ∃ n, n = l.length := ⟨_, rfl⟩
  rw [← hn] at HMD ⊢
  generalize madeM c l = g at *
  obtain ⟨hok, hli⟩ := hok0
  have HOK := Lib.hid hok; have HLI := Lib.hid hli
  obtain ⟨⟨ck, ct, ch, cm, cb⟩, hh⟩ := s
  obtain ⟨xt, xh⟩ := x
  unfold encS
  simp only
  have hyes := @acc_yes g ⟨ck, ct, ch, cm, cb⟩ hh
  have hno := @acc_no g ⟨ck, ct, ch, cm, cb⟩ hh
  have hd1 := doM_ok hok ⟨ck, ct, ch, cm, cb⟩ hh
  have hd2 := doM_grow g ⟨ck, ct, ch, cm, cb⟩ hh
  have hd3 := @evs_len g ⟨ck, ct, ch, cm, cb⟩ hh
  have HDV := Lib.hid (fun (m : MdR) W (he : m.md = g) (hm : HasM W m) => he ▸ PDo_has m ⟨ck, ct, ch, cm, cb⟩ hh W hm (he ▸ hok) (by have h := hli; rw [← he] at h; simp only [MdR.md] at h; omega))
  have HAC := Lib.hid (fun (m : MdR) (r : RsR) W (he : m.md = g) (hm : HasM W m) (hv : HasS LV W r.ev) (hl : r.ev.l.length ≤ 1000) => he ▸ PAccepts_has m ⟨ck, ct, ch, cm, cb⟩ r W hm hv (he ▸ hok) (by have h := hli; rw [← he] at h; simp only [MdR.md] at h; omega) (by omega))
  generalize doM g ⟨ck, ct, ch, cm, cb⟩ hh = gd at *
  have HGD : Hid (∀ y : MdR, y.md = gd.1 → y.es.l.length ≤ 64 ∧ y.is.l.length ≤ 101) := fun y hy => ⟨ok_len (hy ▸ hd1), by have h := hd2; rw [← hy] at h; simp only [MdR.md] at h; omega⟩
  have HYES := Lib.hid hyes; have HNO := Lib.hid hno; have HD3 := Lib.hid hd3
  clear hr hn hlm hc hok hli hyes hno hd1 hd2 hd3
  go_enter Try.func8, Try.ntmps8
  go_upto_region 1 with (fail)
  obtain ⟨hu0, b0, b1, hs0⟩ := two_boxes w (.cells #[.int .i64 ck, .int .i64 ct, .int .i64 ch, .int .i64 cm, .int .i64 cb, .int .i64 hh] 30) (.cells #[.int .i64 xt, .int .i64 xh] 51)
  generalize (w.alloc (.cells #[.int .i64 ck, .int .i64 ct, .int .i64 ch, .int .i64 cm, .int .i64 cb, .int .i64 hh] 30)).alloc (.cells #[.int .i64 xt, .int .i64 xh] 51) = W0 at *
  generalize w.heap.size = P at *
  have HU0 := Lib.hid hu0; have HB0 := Lib.hid b0; have HB1 := Lib.hid b1
  clear hu0 b0 b1 hs0
  go_upto_region 2 with (go_at_call 9; (with_reducible refine (HHD.out _).mono ?_); rintro e w1 ⟨rfl, hu1⟩; have HU1 := Lib.hid (HU0.out.thn hu1); have HS1 := Lib.hid (hu1.at HB0.out (by simp)); have HX1 := Lib.hid (hu1.at HB1.out (by simp)); clear hu1)
  clear HHD HU0 HB0 HB1
  go_upto_region 3 with (go_at_call 13; (with_reducible refine (HMD.out _ HU1.out).mono ?_); rintro e w2 ⟨m, rfl, hM⟩; unfold encM cellsM)
  have hal := (Upd.refl [] w2).alloc (.cells #[.int .i64 m.cap, .slice m.es.ad m.es.l.length m.es.cap, .int .i64 m.nx, .slice m.is.ad m.is.l.length m.is.cap] 25)
  have b2 := heap_alloc1 w2 (.cells #[.int .i64 m.cap, .slice m.es.ad m.es.l.length m.es.cap, .int .i64 m.nx, .slice m.is.ad m.is.l.length m.is.cap] 25)
  generalize w2.alloc (.cells #[.int .i64 m.cap, .slice m.es.ad m.es.l.length m.es.cap, .int .i64 m.nx, .slice m.is.ad m.is.l.length m.is.cap] 25) = W2 at *
  generalize w2.heap.size = P2 at *
  have hup := hM.upd.thn hal
  have HU2 := Lib.hid (HU1.out.thn hup); have HS2 := Lib.hid (hup.at HS1.out (by simp)); have HX2 := Lib.hid (hup.at HX1.out (by simp)); have HB2 := Lib.hid b2; have HM2 := Lib.hid (hM.has.stay hal); have HMM := Lib.hid hM.md
  clear hM hal b2 hup HMD HU1 HS1 HX1
  obtain ⟨m0, m1, m2, m3⟩ := cells4 HB2.out
  obtain ⟨s0, s1, s2, s3, s4, s5⟩ := cells6 HS2.out
  have hdo := HDV.out m W2 HMM.out HM2.out
  unfold GivesM encM encC encR cellsM cellsR at hdo
  simp only at hdo
  have HD := Lib.hid hdo
  clear hdo HDV
  go_upto_region 4 with (go_at_call 14; (with_reducible refine HD.out.mono ?_); rintro e w3 ⟨z, ⟨ye, yh, yc, ⟨yl, ya, yk⟩⟩, rfl, hD⟩)
  have hrs := hD.rs
  simp only [RsR.rs] at hrs
  have hev := hD.ev
  simp only at hev
  obtain ⟨yn, hyn⟩ : ∃ n, n = yl.length := ⟨_, rfl⟩
  simp only [← hyn]
  have HYN := Lib.hid hyn
  obtain ⟨hal, b3, b4, -⟩ := two_boxes w3 (.cells #[.int .i64 z.cap, .slice z.es.ad z.es.l.length z.es.cap, .int .i64 z.nx, .slice z.is.ad z.is.l.length z.is.cap] 25) (.cells #[.int .i64 ye, .int .i64 yh, .bool yc, .slice ya yn yk] 34)
  generalize (w3.alloc (.cells #[.int .i64 z.cap, .slice z.es.ad z.es.l.length z.es.cap, .int .i64 z.nx, .slice z.is.ad z.is.l.length z.is.cap] 25)).alloc (.cells #[.int .i64 ye, .int .i64 yh, .bool yc, .slice ya yn yk] 34) = W3 at *
  generalize w3.heap.size = P3 at *
  have hup := hD.upd.thn hal
  have HU3 := Lib.hid (HU2.out.thn hup); have HS3 := Lib.hid (hup.at HS2.out (by simp)); have HX3 := Lib.hid (hup.at HX2.out (by simp)); have HB3 := Lib.hid (hup.at HB2.out (by simp)); have HM3 := Lib.hid (HM2.out.stay hup); have HZ3 := Lib.hid b3; have HY3 := Lib.hid b4; have HZM := Lib.hid hD.md; have HZH := Lib.hid (hD.has.stay hal); have HEV := Lib.hid (hev.stay hal); have HRS := Lib.hid hrs
  have HEL : Hid (yn ≤ 64) := Lib.hid (by have h := HD3.out; rw [← hrs] at h; simp only at h; omega)
  clear hD hal b3 b4 hup hrs hev HD HU2 HS2 HX2 HB2 HM2 HD3 hyn m0 m1 m2 m3 s0 s1 s2 s3 s4 s5
  obtain ⟨m0, m1, m2, m3⟩ := cells4 HB3.out
  obtain ⟨s0, s1, s2, s3, s4, s5⟩ := cells6 HS3.out
  obtain ⟨y0, y1, y2, y3⟩ := cells4 HY3.out
  have hac := HAC.out m ⟨ye, yh, yc, ⟨yl, ya, yk⟩⟩ W3 HMM.out HM3.out HEV.out (by have := HEL.out; have := HYN.out; simp only; omega)
  unfold GivesA encM encC encR cellsM cellsR at hac
  simp only [← HYN.out] at hac
  simp only [RsR.rs] at hac
  rw [HRS.out] at hac
  obtain ⟨ga, hga⟩ : ∃ p, p = accM g ⟨ck, ct, ch, cm, cb⟩ gd.2 := ⟨_, rfl⟩
  rw [← hga] at hac
  have HGA := Lib.hid hga
  have HA := Lib.hid hac
  clear hac hga
  go_upto_region 5 with (go_at_call 16; (with_reducible refine HA.out.mono ?_); rintro e w4 ⟨k, rfl, hkm, hkh, -, hku⟩)
  obtain ⟨hal, b3⟩ := one_box w4 (.cells #[.int .i64 k.cap, .slice k.es.ad k.es.l.length k.es.cap, .int .i64 k.nx, .slice k.is.ad k.is.l.length k.is.cap] 25)
  generalize w4.alloc (.cells #[.int .i64 k.cap, .slice k.es.ad k.es.l.length k.es.cap, .int .i64 k.nx, .slice k.is.ad k.is.l.length k.is.cap] 25) = W4 at *
  generalize w4.heap.size = P4 at *
  have hup := hku.thn hal
  have HU4 := Lib.hid (HU3.out.thn hup); have HS4 := Lib.hid (hup.at HS3.out (by simp)); have HX4 := Lib.hid (hup.at HX3.out (by simp)); have HB4 := Lib.hid (hup.at HB3.out (by simp)); have HM4 := Lib.hid (HM3.out.stay hup); have HZ4 := Lib.hid (hup.at HZ3.out (by simp)); have HY4 := Lib.hid (hup.at HY3.out (by simp)); have HZH4 := Lib.hid (HZH.out.stay hup); have HEV4 := Lib.hid (HEV.out.stay hup); have HK4 := Lib.hid b3; have HKM := Lib.hid hkm; have HKH := Lib.hid (hkh.stay hal)
  clear hkm hkh hku hal b3 hup HA HU3 HS3 HX3 HB3 HM3 HZ3 HY3 HZH HEV m0 m1 m2 m3 s0 s1 s2 s3 s4 s5 y0 y1 y2 y3
  obtain ⟨m0, m1, m2, m3⟩ := cells4 HB4.out
  obtain ⟨s0, s1, s2, s3, s4, s5⟩ := cells6 HS4.out
  obtain ⟨y0, y1, y2, y3⟩ := cells4 HY4.out
  obtain ⟨z0, z1, z2, z3⟩ := cells4 HZ4.out
  obtain ⟨k0, k1, k2, k3⟩ := cells4 HK4.out
  by_cases h1 : ck = 1 ∧ ye ≠ 0
  · have g1 : (ck == 1) = true := by simpa using h1.1
    have g2 : decide (ck = 1) = true := decide_eq_true h1.1
    have g3 : (ye != 0) = true := by simpa using h1.2
    obtain ⟨h1a, h1b⟩ := h1
    subst h1a
    clear g1 g2
    go_wp2_with fail
    go_ret
    exact ⟨rfl, HU4.out⟩
  · have hx : ¬ (ck = 1 ∧ gd.2.e ≠ 0) := by rw [← HRS.out]; exact h1
    have hgk := HYES.out hx
    rw [← HGA.out] at hgk
    have HGK := Lib.hid hgk
    have HNX := Lib.hid (fun (r : Rs) => HNO.out hx (r := r))
    have HKM2 : Hid (k.md = gd.1) := Lib.hid (by rw [HKM.out, HGK.out])
    have hb : ga.2 = true := by rw [HGK.out]
    generalize ga.2 = gb at *
    subst hb
    have hsame := (decide_eq_true (HKM2.out.trans HZM.out.symm) : decide (k.md = z.md) = true) ▸ RSame_has k z W4 HKH.out HZH4.out (by have := HGD.out k HKM2.out; omega) (by have := HGD.out k HKM2.out; omega)
    unfold encM cellsM at hsame
    have HSA := Lib.hid hsame
    clear hsame HYES HNO hgk hx
    have HG3 : Hid (ck = 1 → (ye != 0) = false) := Lib.hid (fun hk => by simpa using fun he => h1 ⟨hk, he⟩)
    clear h1
    by_cases hk : ck = 1
    · have g3 : (ye != 0) = false := HG3.out hk
      subst hk
      go_upto_region 9 with (go_at_call 20; (with_reducible refine HSA.out.mono ?_); rintro e w5 ⟨rfl, hu5⟩; have HU5 := Lib.hid (HU4.out.thn hu5); have HS5 := Lib.hid (hu5.at HS4.out (by simp)); have HX5 := Lib.hid (hu5.at HX4.out (by simp)); have HB5 := Lib.hid (hu5.at HB4.out (by simp)); have HM5 := Lib.hid (HM4.out.stay hu5); have HY5 := Lib.hid (hu5.at HY4.out (by simp)); have HEV5 := Lib.hid (HEV4.out.stay hu5); clear hu5 HU4 HS4 HX4 HB4 HM4 HY4 HEV4 HZ4 HZH4 HK4 HKH m0 m1 m2 m3 s0 s1 s2 s3 s4 s5 y0 y1 y2 y3 z0 z1 z2 z3 k0 k1 k2 k3; obtain ⟨y0, y1, y2, y3⟩ := cells4 HY5.out)
      go_upto_region 10 with (fail)
      have hu6 := (Upd.refl [] w5).alloc (.cells #[.int .i64 ye, .int .i64 yh, .bool yc, .slice ya yn yk] 34)
      have b6 := heap_alloc1 w5 (.cells #[.int .i64 ye, .int .i64 yh, .bool yc, .slice ya yn yk] 34)
      generalize w5.alloc (.cells #[.int .i64 ye, .int .i64 yh, .bool yc, .slice ya yn yk] 34) = W6 at *
      have hp6 : w5.heap.size ≤ w5.heap.size := Nat.le_refl _
      obtain ⟨P6, hP6⟩ : ∃ z, z = w5.heap.size := ⟨_, rfl⟩
      rw [← hP6] at b6 ⊢
      have HP6 := Lib.hid hP6
      have HUA := Lib.hid hu6
      have HQ6 := Lib.hid b6
      clear hp6 hP6 y0 y1 y2 y3
      have hy6 := hu6.at HY5.out (by simp)
      have hx6 := hu6.at HX5.out (by simp)
      have he6 := HEV5.out.stay hu6
      obtain ⟨y0, y1, y2, y3⟩ := cells4 hy6
      clear y0 y1 y2
      have v0 : W6.cell? ⟨P + 1, 0, none⟩ = some (.int .i64 xt) := by rw [cell_block hx6]; rfl
      have v1 : W6.cell? ⟨P + 1, 1, none⟩ = some (.int .i64 xh) := by rw [cell_block hx6]; rfl
      have HE6 := Lib.hid he6
      have hny : ya = none → yk = 0 := he6.nn
      have HNY := Lib.hid hny
      have HKP : Hid (∀ wz, Upd [] W6 wz → wz.cell? ⟨P3 + 1, 3, none⟩ = some (.slice ya yn yk) ∧ wz.cell? ⟨P + 1, 0, none⟩ = some (.int .i64 xt) ∧ wz.cell? ⟨P + 1, 1, none⟩ = some (.int .i64 xh)) := Lib.hid (fun wz hu => ⟨hu.cell y3 (by simp), hu.cell v0 (by simp), hu.cell v1 (by simp)⟩)
      have HKS : Hid (∀ wz, Upd [P6] W6 wz → wz.cell? ⟨P3 + 1, 3, none⟩ = some (.slice ya yn yk) ∧ wz.cell? ⟨P + 1, 0, none⟩ = some (.int .i64 xt) ∧ wz.cell? ⟨P + 1, 1, none⟩ = some (.int .i64 xh)) := Lib.hid (by have h1 := lt_block HY5.out; have h2 := lt_block HX5.out; have h3 := HP6.out; exact fun wz hu => ⟨hu.cell y3 (by simp; omega), hu.cell v0 (by simp; omega), hu.cell v1 (by simp; omega)⟩)
      have HRW : Hid (∀ wz, Upd [] W6 wz → Row LV wz ya yl) := Lib.hid (fun wz hu => he6.row.stay hu)
      have hel := HEL.out
      have hyn := HYN.out
      have HYK : Hid (yn = yl.length) := hyn
      clear hyn hy6 hx6 he6 hny hu6 b6
      go_cut [] from 64 to 71 (fun wx => ∃ va vc, Hid (wx.heap[P6]? = some (.cells #[.int .i64 ye, .int .i64 yh, .bool yc, .slice va (yn + 1) vc] 34 (0, 0))) ∧ Hid (HasS LV wx ⟨yl ++ [⟨xt, xh⟩], va, vc⟩) ∧ Hid (Upd [P6] W6 wx))
      case first =>
        go_region_held3 (fun wz => wz.cell? ⟨P3 + 1, 3, none⟩ = some (.slice ya yn yk) ∧ wz.cell? ⟨P + 1, 0, none⟩ = some (.int .i64 xt) ∧ wz.cell? ⟨P + 1, 1, none⟩ = some (.int .i64 xh)) (solve | (with_reducible exact ⟨y3, v0, v1⟩) | ((with_reducible refine HKP.out _ ?_); (repeat (first | with_reducible exact Upd.refl [] _ | with_reducible refine Upd.drew ?_ | with_reducible refine Upd.alloc ?_ _ | refine Upd.trans (T := []) ?_ (by assumption) (by simp)))) | ((with_reducible refine HKS.out _ ?_); (repeat (first | with_reducible exact Upd.refl _ _ | with_reducible refine Upd.setCell ?_ (by simp) _ | with_reducible refine Upd.drew ?_ | with_reducible refine Upd.alloc ?_ _ | refine Upd.mono (S := []) (by assumption) (by simp))))) (first
          | (refine step_row tyV rfl (.tmp 64) (.tmp 66) rfl W6.heap.size (.slice (some ⟨W6.heap.size, 0, none⟩) 0 0) 0 [] rfl (by first | exact World.ownsRow_made W6 #[] 0 (Nat.le_refl _) (Nat.zero_le _) (by simp) | exact (World.ownsRow_made W6 #[] 0 (Nat.le_refl _) (Nat.zero_le _) (by simp)).alloc _) ya yn yk yl rfl HYK.out (HRW.out _ (by (repeat (first | exact Upd.refl [] _ | refine Upd.drew ?_ | refine Upd.alloc ?_ _ | refine Upd.trans (T := []) ?_ (by assumption) (by simp))))) HNY.out (by omega) (by first | (simp; done) | (simp; omega)) ?_; intro v1 w7 hown hgrow; rw [Nat.zero_add, List.nil_append] at hown; have HO := Lib.hid hown; have hu7 : Upd [] W6 w7 := Upd.grown (by (repeat (first | exact Upd.refl [] _ | refine Upd.drew ?_ | refine Upd.alloc ?_ _ | refine Upd.trans (T := []) ?_ (by assumption) (by simp)))) hgrow (fun k hk hl => by simp [Value.ownBlock] at hk; omega); (first | have HBLK := Lib.hid ((upd_grown hgrow).at (b := w7) (heap_alloc2 W6 (.cells #[] 51) (.cells #[.int .i64 xt, .int .i64 xh] 51)) (by simp [Value.ownBlock])) | have HBLK := Lib.hid ((upd_grown hgrow).at (b := w7) (((Upd.refl [] (W6.alloc (.cells #[.int .i64 xt, .int .i64 xh] 51))).alloc (.cells #[] 51)).at (heap_alloc1 W6 (.cells #[.int .i64 xt, .int .i64 xh] 51)) (by simp)) (by simp [Value.ownBlock])) | skip); obtain ⟨oa, oc, rfl⟩ := row_shape HO.out; clear hown hgrow)
          | (refine step_row tyV rfl (.tmp 64) (.tmp 66) rfl W6.heap.size (.slice (some ⟨W6.heap.size + 1, 0, none⟩) 0 0) 0 [] rfl (by exact made_second W6 (.cells #[.int .i64 xt, .int .i64 xh] 51)) ya yn yk yl rfl HYK.out (HRW.out _ (by (repeat (first | exact Upd.refl [] _ | refine Upd.drew ?_ | refine Upd.alloc ?_ _ | refine Upd.trans (T := []) ?_ (by assumption) (by simp))))) HNY.out (by omega) (by first | (simp; done) | (simp; omega)) ?_; intro v1 w7 hown hgrow; rw [Nat.zero_add, List.nil_append] at hown; have HO := Lib.hid hown; have hu7 : Upd [] W6 w7 := Upd.grown (by (repeat (first | exact Upd.refl [] _ | refine Upd.drew ?_ | refine Upd.alloc ?_ _ | refine Upd.trans (T := []) ?_ (by assumption) (by simp)))) hgrow (fun k hk hl => by simp [Value.ownBlock] at hk; omega); (first | have HBLK := Lib.hid ((upd_grown hgrow).at (b := w7) (heap_alloc2 W6 (.cells #[] 51) (.cells #[.int .i64 xt, .int .i64 xh] 51)) (by simp [Value.ownBlock])) | have HBLK := Lib.hid ((upd_grown hgrow).at (b := w7) (((Upd.refl [] (W6.alloc (.cells #[.int .i64 xt, .int .i64 xh] 51))).alloc (.cells #[] 51)).at (heap_alloc1 W6 (.cells #[.int .i64 xt, .int .i64 xh] 51)) (by simp)) (by simp [Value.ownBlock])) | skip); obtain ⟨oa, oc, rfl⟩ := row_shape HO.out; clear hown hgrow)
          | (refine step_row tyV rfl (.tmp 67) (.tmp 69) rfl W6.heap.size (.slice oa yn oc) yn yl rfl (by first | exact HO.out | exact HO.out.alloc _) (some ⟨_, 0, none⟩) 1 1 [⟨xt, xh⟩] rfl rfl (by first | exact ev_cells (x := ⟨xt, xh⟩) HBLK.out | exact ev_cells (x := ⟨xt, xh⟩) (heap_alloc1 _ _)) (fun e => by simp at e) (by omega) (by have := hu7.size; simp; omega) ?_; intro v2 w8 hown hgrow; have HO2 := Lib.hid hown; have hu8 : Upd [] W6 w8 := Upd.grown (by (repeat (first | exact Upd.refl [] _ | refine Upd.drew ?_ | refine Upd.alloc ?_ _ | refine Upd.trans (T := []) ?_ (by assumption) (by simp)))) hgrow (fun k hk hl => by have := own_ge HO.out k hk; omega); obtain ⟨f0, f1, f2, f3⟩ := cells4 (hu8.at HQ6.out (by simp)); obtain ⟨z0, z1, z2, z3⟩ := free4 (hu8.at HQ6.out (by simp)); obtain ⟨va, vc, rfl⟩ := row_shape HO2.out; clear hown hgrow))
        all_goals go_wp2_with fail
        all_goals
          go_meet
          case rel =>
            have k8 := setCell_block (o := 3) (hu8.at HQ6.out (by simp)) (.slice va (yn + 1) vc)
            have u8 := upd_set1 w8 P6 3 (.slice va (yn + 1) vc)
            have ho9 := u8.row HO2.out (fun y hy hm => by have h1 := own_ge HO2.out y hy; have h2 := lt_block HQ6.out; simp at hm; omega)
            exact ⟨va, vc, Lib.hid k8, Lib.hid (hasS_any ho9).2, Lib.hid ((hu8.mono (by simp)).trans u8 (fun y hy _ => hy))⟩
      case rest =>
        obtain ⟨va, vc, HQ7, HE7, HU67⟩ := hcut
        clear y3 v0 v1 HKP HKS HRW HE6
        have hup : Upd [] w5 wc := HUA.out.new HU67.out (by have := HP6.out; omega)
        have HS7 := Lib.hid (hup.at HS5.out (by simp))
        have HB7 := Lib.hid (hup.at HB5.out (by simp))
        have HM7 := Lib.hid (HM5.out.stay hup)
        have HY7 := Lib.hid (hup.at HY5.out (by simp))
        have HEV7 := Lib.hid (HEV5.out.stay hup)
        have HU7 := Lib.hid (HU5.out.thn hup)
        clear hup HS5 HX5 HB5 HM5 HY5 HEV5 HU5 HUA HU67 HQ6
        obtain ⟨y0, y1, y2, y3⟩ := cells4 HY7.out
        go_upto_region 12 with (fail)
        have hu8 := (Upd.refl [] wc).alloc (.cells #[.int .i64 ye, .int .i64 yh, .bool yc, .slice ya yn yk] 34)
        have b8 := heap_alloc1 wc (.cells #[.int .i64 ye, .int .i64 yh, .bool yc, .slice ya yn yk] 34)
        generalize wc.alloc (.cells #[.int .i64 ye, .int .i64 yh, .bool yc, .slice ya yn yk] 34) = W8 at *
        obtain ⟨P8, hP8⟩ : ∃ z, z = wc.heap.size := ⟨_, rfl⟩
        rw [← hP8] at b8 ⊢
        have HP8 := Lib.hid hP8
        clear hP8 y0 y1 y2 y3
        obtain ⟨y0, y1, y2, y3⟩ := cells4 (hu8.at HY7.out (by simp))
        obtain ⟨f0, f1, f2, f3⟩ := cells4 b8
        obtain ⟨z0, z1, z2, z3⟩ := free4 b8
        clear y0 y1 y3 f0 f1 f3 z0 z1 z3
        go_upto_region 13 with (fail)
        have k9 := setCell_block (o := 2) b8 (.bool (!yc))
        have u9 := upd_set1 W8 P8 2 (.bool (!yc))
        have hup : Upd [] wc (W8.setCell ⟨P8, 2, none⟩ (.bool (!yc))) := hu8.new u9 (by have := HP8.out; omega)
        have HQ9 := Lib.hid (hup.at HQ7.out (by simp)); have HE9 := Lib.hid (HE7.out.stay hup); have HF9 : Hid ((W8.setCell ⟨P8, 2, none⟩ (.bool (!yc))).heap[P8]? = some (.cells #[.int .i64 ye, .int .i64 yh, .bool (!yc), .slice ya yn yk] 34 (0, 0))) := Lib.hid k9
        have HS9 := Lib.hid (hup.at HS7.out (by simp))
        have HB9 := Lib.hid (hup.at HB7.out (by simp))
        have HM9 := Lib.hid (HM7.out.stay hup)
        have HY9 := Lib.hid (hup.at HY7.out (by simp))
        have HEV9 := Lib.hid (HEV7.out.stay hup)
        have HU9 := Lib.hid (HU7.out.thn hup)
        generalize W8.setCell ⟨P8, 2, none⟩ (.bool (!yc)) = W9 at *
        clear hu8 b8 k9 u9 hup HS7 HB7 HM7 HY7 HEV7 HU7 HQ7 HE7 y2 f2 z2
        have HNQ := Lib.hid (fun (r : Rs) (h1 : r.h = yh) (h2 : r ≠ ⟨ye, yh, yc, yl⟩) => HNX.out r (by rw [h1, ← HRS.out]) (by rw [← HRS.out]; exact h2))
        obtain ⟨m0, m1, m2, m3⟩ := cells4 HB9.out
        obtain ⟨s0, s1, s2, s3, s4, s5⟩ := cells6 HS9.out
        obtain ⟨q0, q1, q2, q3⟩ := cells4 HQ9.out
        have hac := HAC.out m ⟨ye, yh, yc, ⟨yl ++ [⟨xt, xh⟩], va, vc⟩⟩ W9 HMM.out HM9.out HE9.out (by have := HEL.out; have := HYK.out; simp only [List.length_append, List.length_singleton]; omega)
        unfold GivesA encM encC encR cellsM cellsR at hac
        have hnq := HNQ.out (RsR.rs ⟨ye, yh, yc, ⟨yl ++ [⟨xt, xh⟩], va, vc⟩⟩) rfl (fun he => by simp only [RsR.rs, Rs.mk.injEq] at he; have h := congrArg List.length he.2.2.2; simp at h)
        rw [hnq] at hac
        simp only [RsR.rs] at hac
        simp only [List.length_append, List.length_singleton, ← HYK.out] at hac
        have HA := Lib.hid hac
        clear hac hnq
        go_upto_region 14 with (go_at_call 16; (with_reducible refine HA.out.mono ?_); rintro e x10 ⟨k10, rfl, -, -, -, hku⟩)
        have hal := (Upd.refl [] x10).alloc (.cells #[.int .i64 k10.cap, .slice k10.es.ad k10.es.l.length k10.es.cap, .int .i64 k10.nx, .slice k10.is.ad k10.is.l.length k10.is.cap] 25)
        have hup := hku.thn hal
        generalize x10.alloc (.cells #[.int .i64 k10.cap, .slice k10.es.ad k10.es.l.length k10.es.cap, .int .i64 k10.nx, .slice k10.is.ad k10.is.l.length k10.is.cap] 25) = W10 at *
        clear hku hal HA m0 m1 m2 m3 s0 s1 s2 s3 s4 s5 q0 q1 q2 q3
        have HS10 := Lib.hid (hup.at HS9.out (by simp))
        have HB10 := Lib.hid (hup.at HB9.out (by simp))
        have HM10 := Lib.hid (HM9.out.stay hup)
        have HY10 := Lib.hid (hup.at HY9.out (by simp))
        have HEV10 := Lib.hid (HEV9.out.stay hup)
        have HU10 := Lib.hid (HU9.out.thn hup)
        have HF10 := Lib.hid (hup.at HF9.out (by simp))
        clear hup HS9 HB9 HM9 HY9 HEV9 HU9 HQ9 HE9 HF9
        obtain ⟨m0, m1, m2, m3⟩ := cells4 HB10.out
        obtain ⟨s0, s1, s2, s3, s4, s5⟩ := cells6 HS10.out
        obtain ⟨q0, q1, q2, q3⟩ := cells4 HF10.out
        have hac := HAC.out m ⟨ye, yh, !yc, ⟨yl, ya, yk⟩⟩ W10 HMM.out HM10.out HEV10.out (by have := HEL.out; have := HYK.out; simp only; omega)
        unfold GivesA encM encC encR cellsM cellsR at hac
        have hnq := HNQ.out (RsR.rs ⟨ye, yh, !yc, ⟨yl, ya, yk⟩⟩) rfl (fun he => by simp only [RsR.rs, Rs.mk.injEq] at he; have h := he.2.2.1; cases yc <;> simp at h)
        rw [hnq] at hac
        simp only [RsR.rs] at hac
        simp only [← HYK.out] at hac
        have HA := Lib.hid hac
        clear hac hnq
        go_upto_region 15 with (go_at_call 16; (with_reducible refine HA.out.mono ?_); rintro e x11 ⟨k11, rfl, -, -, -, hku⟩)
        have hal := (Upd.refl [] x11).alloc (.cells #[.int .i64 k11.cap, .slice k11.es.ad k11.es.l.length k11.es.cap, .int .i64 k11.nx, .slice k11.is.ad k11.is.l.length k11.is.cap] 25)
        have hup := hku.thn hal
        generalize x11.alloc (.cells #[.int .i64 k11.cap, .slice k11.es.ad k11.es.l.length k11.es.cap, .int .i64 k11.nx, .slice k11.is.ad k11.is.l.length k11.is.cap] 25) = W11 at *
        clear hku hal HA m0 m1 m2 m3 s0 s1 s2 s3 s4 s5 q0 q1 q2 q3
        have HS11 := Lib.hid (hup.at HS10.out (by simp))
        have HB11 := Lib.hid (hup.at HB10.out (by simp))
        have HM11 := Lib.hid (HM10.out.stay hup)
        have HY11 := Lib.hid (hup.at HY10.out (by simp))
        have HEV11 := Lib.hid (HEV10.out.stay hup)
        have HU11 := Lib.hid (HU10.out.thn hup)
        clear hup HS10 HB10 HM10 HY10 HEV10 HU10 HF10
        obtain ⟨y0, y1, y2, y3⟩ := cells4 HY11.out
        by_cases hz : yn = 0
        · have g5 : ((yn : Int) == 0) = true := by simp; omega
          have g6 : decide (yn = 0) = true := decide_eq_true hz
          subst hz
          go_wp2_with fail
          go_ret
          exact ⟨rfl, HU11.out⟩
        have g5 : ((yn : Int) == 0) = false := by simp; omega
        have g6 : decide (yn = 0) = false := decide_eq_false hz
        have hyk : yn ≤ yk := by have h := HEV11.out.le; simp only at h; have := HYK.out; omega
        obtain ⟨v0, yt, hyl⟩ : ∃ e t, yl = e :: t := by
          cases yl with
          | nil => exact absurd (by have := HYK.out; simpa using this) hz
          | cons e t => exact ⟨e, t, rfl⟩
        obtain ⟨b, off, hya, -, -⟩ := HEV11.out.row.ev 0 (by have := HYK.out; simp only; omega)
        simp only at hya
        subst hya
        have hytl : yt.length = yn - 1 := by have h := HYK.out; rw [hyl] at h; simp at h; omega
        have HYT := Lib.hid hytl
        have HYL := Lib.hid hyl
        have hev1 : ∀ a2 c2, (1 < yk → a2 = some ⟨b, off + 2, none⟩ ∧ c2 = yk - 1) → (¬ 1 < yk → yt = [] ∧ a2.isSome ∧ c2 = 0) → HasS LV W11 ⟨yt, a2, c2⟩ := fun a2 c2 h1 h2 => by
          by_cases hk : 1 < yk
          · obtain ⟨rfl, rfl⟩ := h1 hk
            have h := row_drop 1 HEV11.out.row
            rw [hyl, List.drop_one, List.tail_cons] at h
            exact ⟨h, by simp only; omega, fun e => by simp at e⟩
          · obtain ⟨rfl, h3, rfl⟩ := h2 hk
            exact ⟨row_nil _ _ _, by simp, fun e => by subst e; simp at h3⟩
        have HEVT := Lib.hid hev1
        clear hyl hytl hev1
        go_upto_region 20 with (fail)
        clear g5 g6
        have hu12 := (Upd.refl [] W11).alloc (.cells #[.int .i64 ye, .int .i64 yh, .bool yc, .slice (some ⟨b, off, none⟩) yn yk] 34)
        have b12 := heap_alloc1 W11 (.cells #[.int .i64 ye, .int .i64 yh, .bool yc, .slice (some ⟨b, off, none⟩) yn yk] 34)
        generalize W11.alloc (.cells #[.int .i64 ye, .int .i64 yh, .bool yc, .slice (some ⟨b, off, none⟩) yn yk] 34) = W12 at *
        obtain ⟨P12, hP12⟩ : ∃ z, z = W11.heap.size := ⟨_, rfl⟩
        rw [← hP12] at b12 ⊢
        have HP12 := Lib.hid hP12
        clear hP12 y0 y1 y2 y3
        obtain ⟨y0, y1, y2, y3⟩ := cells4 (hu12.at HY11.out (by simp))
        obtain ⟨f0, f1, f2, f3⟩ := cells4 b12
        obtain ⟨z0, z1, z2, z3⟩ := free4 b12
        clear y0 y1 y2 f0 f1 f2 z0 z1 z2
        by_cases hk1 : yk = 1
        · subst hk1
          obtain rfl : yn = 1 := by omega
          have hnil : yt = [] := List.eq_nil_of_length_eq_zero (by have := HYT.out; omega)
          go_upto_region 21 with (fail)
          have k13 := setCell_block (o := 3) b12 (.slice (some ⟨b, off, none⟩) 0 0)
          have u13 := upd_set1 W12 P12 3 (.slice (some ⟨b, off, none⟩) 0 0)
          have hup : Upd [] W11 (W12.setCell ⟨P12, 3, none⟩ (.slice (some ⟨b, off, none⟩) 0 0)) := hu12.new u13 (by have := HP12.out; omega)
          have HQ13 : Hid ((W12.setCell ⟨P12, 3, none⟩ (.slice (some ⟨b, off, none⟩) 0 0)).heap[P12]? = some (.cells #[.int .i64 ye, .int .i64 yh, .bool yc, .slice (some ⟨b, off, none⟩) 0 0] 34 (0, 0))) := Lib.hid k13
          have HE13 := Lib.hid ((HEVT.out (some ⟨b, off, none⟩) 0 (fun h => by omega) (fun _ => ⟨hnil, rfl, rfl⟩)).stay hup)
          have HS13 := Lib.hid (hup.at HS11.out (by simp))
          have HB13 := Lib.hid (hup.at HB11.out (by simp))
          have HM13 := Lib.hid (HM11.out.stay hup)
          have HU13 := Lib.hid (HU11.out.thn hup)
          generalize W12.setCell ⟨P12, 3, none⟩ (.slice (some ⟨b, off, none⟩) 0 0) = W13 at *
          clear hu12 b12 k13 u13 hup HS11 HB11 HM11 HY11 HEV11 HU11 y3 f3 z3
          obtain ⟨m0, m1, m2, m3⟩ := cells4 HB13.out
          obtain ⟨s0, s1, s2, s3, s4, s5⟩ := cells6 HS13.out
          obtain ⟨q0, q1, q2, q3⟩ := cells4 HQ13.out
          have hac := HAC.out m ⟨ye, yh, yc, ⟨yt, (some ⟨b, off, none⟩), 0⟩⟩ W13 HMM.out HM13.out HE13.out (by have := HEL.out; have := HYT.out; simp only; omega)
          unfold GivesA encM encC encR cellsM cellsR at hac
          have hnq := HNQ.out (RsR.rs ⟨ye, yh, yc, ⟨yt, (some ⟨b, off, none⟩), 0⟩⟩) rfl (fun he => by simp only [RsR.rs, Rs.mk.injEq] at he; have h := congrArg List.length he.2.2.2; rw [HYL.out] at h; simp at h)
          rw [hnq] at hac
          simp only [RsR.rs] at hac
          simp only [HYT.out] at hac
          simp only [Nat.sub_self] at hac
          have HA := Lib.hid hac
          clear hac hnq
          go_upto_region 22 with (go_at_call 16; (with_reducible refine HA.out.mono ?_); rintro e x14 ⟨k14, rfl, -, -, -, hku⟩)
          have hal := (Upd.refl [] x14).alloc (.cells #[.int .i64 k14.cap, .slice k14.es.ad k14.es.l.length k14.es.cap, .int .i64 k14.nx, .slice k14.is.ad k14.is.l.length k14.is.cap] 25)
          have hup := hku.thn hal
          generalize x14.alloc (.cells #[.int .i64 k14.cap, .slice k14.es.ad k14.es.l.length k14.es.cap, .int .i64 k14.nx, .slice k14.is.ad k14.is.l.length k14.is.cap] 25) = W14 at *
          clear hku hal HA m0 m1 m2 m3 s0 s1 s2 s3 s4 s5 q0 q1 q2 q3
          have HUF := Lib.hid (HU13.out.thn hup)
          clear hup
          go_wp2_with fail
          go_ret
          exact ⟨rfl, HUF.out⟩
        · have hk2 : 1 < yk := by omega
          go_upto_region 21 with (fail)
          have k13 := setCell_block (o := 3) b12 (.slice (some ⟨b, off + 2, none⟩) (yn - 1) (yk - 1))
          have u13 := upd_set1 W12 P12 3 (.slice (some ⟨b, off + 2, none⟩) (yn - 1) (yk - 1))
          have hup : Upd [] W11 (W12.setCell ⟨P12, 3, none⟩ (.slice (some ⟨b, off + 2, none⟩) (yn - 1) (yk - 1))) := hu12.new u13 (by have := HP12.out; omega)
          have HQ13 : Hid ((W12.setCell ⟨P12, 3, none⟩ (.slice (some ⟨b, off + 2, none⟩) (yn - 1) (yk - 1))).heap[P12]? = some (.cells #[.int .i64 ye, .int .i64 yh, .bool yc, .slice (some ⟨b, off + 2, none⟩) (yn - 1) (yk - 1)] 34 (0, 0))) := Lib.hid k13
          have HE13 := Lib.hid ((HEVT.out (some ⟨b, off + 2, none⟩) (yk - 1) (fun _ => ⟨rfl, rfl⟩) (fun h => absurd hk2 h)).stay hup)
          have HS13 := Lib.hid (hup.at HS11.out (by simp))
          have HB13 := Lib.hid (hup.at HB11.out (by simp))
          have HM13 := Lib.hid (HM11.out.stay hup)
          have HU13 := Lib.hid (HU11.out.thn hup)
          generalize W12.setCell ⟨P12, 3, none⟩ (.slice (some ⟨b, off + 2, none⟩) (yn - 1) (yk - 1)) = W13 at *
          clear hu12 b12 k13 u13 hup HS11 HB11 HM11 HY11 HEV11 HU11 y3 f3 z3
          obtain ⟨m0, m1, m2, m3⟩ := cells4 HB13.out
          obtain ⟨s0, s1, s2, s3, s4, s5⟩ := cells6 HS13.out
          obtain ⟨q0, q1, q2, q3⟩ := cells4 HQ13.out
          have hac := HAC.out m ⟨ye, yh, yc, ⟨yt, (some ⟨b, off + 2, none⟩), (yk - 1)⟩⟩ W13 HMM.out HM13.out HE13.out (by have := HEL.out; have := HYT.out; simp only; omega)
          unfold GivesA encM encC encR cellsM cellsR at hac
          have hnq := HNQ.out (RsR.rs ⟨ye, yh, yc, ⟨yt, (some ⟨b, off + 2, none⟩), (yk - 1)⟩⟩) rfl (fun he => by simp only [RsR.rs, Rs.mk.injEq] at he; have h := congrArg List.length he.2.2.2; rw [HYL.out] at h; simp at h)
          rw [hnq] at hac
          simp only [RsR.rs] at hac
          simp only [HYT.out] at hac
          have HA := Lib.hid hac
          clear hac hnq
          go_upto_region 22 with (go_at_call 16; (with_reducible refine HA.out.mono ?_); rintro e x14 ⟨k14, rfl, -, -, -, hku⟩)
          have hal := (Upd.refl [] x14).alloc (.cells #[.int .i64 k14.cap, .slice k14.es.ad k14.es.l.length k14.es.cap, .int .i64 k14.nx, .slice k14.is.ad k14.is.l.length k14.is.cap] 25)
          have hup := hku.thn hal
          generalize x14.alloc (.cells #[.int .i64 k14.cap, .slice k14.es.ad k14.es.l.length k14.es.cap, .int .i64 k14.nx, .slice k14.is.ad k14.is.l.length k14.is.cap] 25) = W14 at *
          clear hku hal HA m0 m1 m2 m3 s0 s1 s2 s3 s4 s5 q0 q1 q2 q3
          have HUF := Lib.hid (HU13.out.thn hup)
          clear hup
          go_wp2_with fail
          go_ret
          exact ⟨rfl, HUF.out⟩
    · have g3 : (ck == 1) = false := by simpa using hk
      go_upto_region 9 with (go_at_call 20; (with_reducible refine HSA.out.mono ?_); rintro e w5 ⟨rfl, hu5⟩; have HU5 := Lib.hid (HU4.out.thn hu5); have HS5 := Lib.hid (hu5.at HS4.out (by simp)); have HX5 := Lib.hid (hu5.at HX4.out (by simp)); have HB5 := Lib.hid (hu5.at HB4.out (by simp)); have HM5 := Lib.hid (HM4.out.stay hu5); have HY5 := Lib.hid (hu5.at HY4.out (by simp)); have HEV5 := Lib.hid (HEV4.out.stay hu5); clear hu5 HU4 HS4 HX4 HB4 HM4 HY4 HEV4 HZ4 HZH4 HK4 HKH m0 m1 m2 m3 s0 s1 s2 s3 s4 s5 y0 y1 y2 y3 z0 z1 z2 z3 k0 k1 k2 k3; obtain ⟨y0, y1, y2, y3⟩ := cells4 HY5.out)
      go_upto_region 10 with (fail)
      have hu6 := (Upd.refl [] w5).alloc (.cells #[.int .i64 ye, .int .i64 yh, .bool yc, .slice ya yn yk] 34)
      have b6 := heap_alloc1 w5 (.cells #[.int .i64 ye, .int .i64 yh, .bool yc, .slice ya yn yk] 34)
      generalize w5.alloc (.cells #[.int .i64 ye, .int .i64 yh, .bool yc, .slice ya yn yk] 34) = W6 at *
      have hp6 : w5.heap.size ≤ w5.heap.size := Nat.le_refl _
      obtain ⟨P6, hP6⟩ : ∃ z, z = w5.heap.size := ⟨_, rfl⟩
      rw [← hP6] at b6 ⊢
      have HP6 := Lib.hid hP6
      have HUA := Lib.hid hu6
      have HQ6 := Lib.hid b6
      clear hp6 hP6 y0 y1 y2 y3
      have hy6 := hu6.at HY5.out (by simp)
      have hx6 := hu6.at HX5.out (by simp)
      have he6 := HEV5.out.stay hu6
      obtain ⟨y0, y1, y2, y3⟩ := cells4 hy6
      clear y0 y1 y2
      have v0 : W6.cell? ⟨P + 1, 0, none⟩ = some (.int .i64 xt) := by rw [cell_block hx6]; rfl
      have v1 : W6.cell? ⟨P + 1, 1, none⟩ = some (.int .i64 xh) := by rw [cell_block hx6]; rfl
      have HE6 := Lib.hid he6
      have hny : ya = none → yk = 0 := he6.nn
      have HNY := Lib.hid hny
      have HKP : Hid (∀ wz, Upd [] W6 wz → wz.cell? ⟨P3 + 1, 3, none⟩ = some (.slice ya yn yk) ∧ wz.cell? ⟨P + 1, 0, none⟩ = some (.int .i64 xt) ∧ wz.cell? ⟨P + 1, 1, none⟩ = some (.int .i64 xh)) := Lib.hid (fun wz hu => ⟨hu.cell y3 (by simp), hu.cell v0 (by simp), hu.cell v1 (by simp)⟩)
      have HKS : Hid (∀ wz, Upd [P6] W6 wz → wz.cell? ⟨P3 + 1, 3, none⟩ = some (.slice ya yn yk) ∧ wz.cell? ⟨P + 1, 0, none⟩ = some (.int .i64 xt) ∧ wz.cell? ⟨P + 1, 1, none⟩ = some (.int .i64 xh)) := Lib.hid (by have h1 := lt_block HY5.out; have h2 := lt_block HX5.out; have h3 := HP6.out; exact fun wz hu => ⟨hu.cell y3 (by simp; omega), hu.cell v0 (by simp; omega), hu.cell v1 (by simp; omega)⟩)
      have HRW : Hid (∀ wz, Upd [] W6 wz → Row LV wz ya yl) := Lib.hid (fun wz hu => he6.row.stay hu)
      have hel := HEL.out
      have hyn := HYN.out
      have HYK : Hid (yn = yl.length) := hyn
      clear hyn hy6 hx6 he6 hny hu6 b6
      go_cut [] from 64 to 71 (fun wx => ∃ va vc, Hid (wx.heap[P6]? = some (.cells #[.int .i64 ye, .int .i64 yh, .bool yc, .slice va (yn + 1) vc] 34 (0, 0))) ∧ Hid (HasS LV wx ⟨yl ++ [⟨xt, xh⟩], va, vc⟩) ∧ Hid (Upd [P6] W6 wx))
      case first =>
        go_region_held3 (fun wz => wz.cell? ⟨P3 + 1, 3, none⟩ = some (.slice ya yn yk) ∧ wz.cell? ⟨P + 1, 0, none⟩ = some (.int .i64 xt) ∧ wz.cell? ⟨P + 1, 1, none⟩ = some (.int .i64 xh)) (solve | (with_reducible exact ⟨y3, v0, v1⟩) | ((with_reducible refine HKP.out _ ?_); (repeat (first | with_reducible exact Upd.refl [] _ | with_reducible refine Upd.drew ?_ | with_reducible refine Upd.alloc ?_ _ | refine Upd.trans (T := []) ?_ (by assumption) (by simp)))) | ((with_reducible refine HKS.out _ ?_); (repeat (first | with_reducible exact Upd.refl _ _ | with_reducible refine Upd.setCell ?_ (by simp) _ | with_reducible refine Upd.drew ?_ | with_reducible refine Upd.alloc ?_ _ | refine Upd.mono (S := []) (by assumption) (by simp))))) (first
          | (refine step_row tyV rfl (.tmp 64) (.tmp 66) rfl W6.heap.size (.slice (some ⟨W6.heap.size, 0, none⟩) 0 0) 0 [] rfl (by first | exact World.ownsRow_made W6 #[] 0 (Nat.le_refl _) (Nat.zero_le _) (by simp) | exact (World.ownsRow_made W6 #[] 0 (Nat.le_refl _) (Nat.zero_le _) (by simp)).alloc _) ya yn yk yl rfl HYK.out (HRW.out _ (by (repeat (first | exact Upd.refl [] _ | refine Upd.drew ?_ | refine Upd.alloc ?_ _ | refine Upd.trans (T := []) ?_ (by assumption) (by simp))))) HNY.out (by omega) (by first | (simp; done) | (simp; omega)) ?_; intro v1 w7 hown hgrow; rw [Nat.zero_add, List.nil_append] at hown; have HO := Lib.hid hown; have hu7 : Upd [] W6 w7 := Upd.grown (by (repeat (first | exact Upd.refl [] _ | refine Upd.drew ?_ | refine Upd.alloc ?_ _ | refine Upd.trans (T := []) ?_ (by assumption) (by simp)))) hgrow (fun k hk hl => by simp [Value.ownBlock] at hk; omega); (first | have HBLK := Lib.hid ((upd_grown hgrow).at (b := w7) (heap_alloc2 W6 (.cells #[] 51) (.cells #[.int .i64 xt, .int .i64 xh] 51)) (by simp [Value.ownBlock])) | have HBLK := Lib.hid ((upd_grown hgrow).at (b := w7) (((Upd.refl [] (W6.alloc (.cells #[.int .i64 xt, .int .i64 xh] 51))).alloc (.cells #[] 51)).at (heap_alloc1 W6 (.cells #[.int .i64 xt, .int .i64 xh] 51)) (by simp)) (by simp [Value.ownBlock])) | skip); obtain ⟨oa, oc, rfl⟩ := row_shape HO.out; clear hown hgrow)
          | (refine step_row tyV rfl (.tmp 64) (.tmp 66) rfl W6.heap.size (.slice (some ⟨W6.heap.size + 1, 0, none⟩) 0 0) 0 [] rfl (by exact made_second W6 (.cells #[.int .i64 xt, .int .i64 xh] 51)) ya yn yk yl rfl HYK.out (HRW.out _ (by (repeat (first | exact Upd.refl [] _ | refine Upd.drew ?_ | refine Upd.alloc ?_ _ | refine Upd.trans (T := []) ?_ (by assumption) (by simp))))) HNY.out (by omega) (by first | (simp; done) | (simp; omega)) ?_; intro v1 w7 hown hgrow; rw [Nat.zero_add, List.nil_append] at hown; have HO := Lib.hid hown; have hu7 : Upd [] W6 w7 := Upd.grown (by (repeat (first | exact Upd.refl [] _ | refine Upd.drew ?_ | refine Upd.alloc ?_ _ | refine Upd.trans (T := []) ?_ (by assumption) (by simp)))) hgrow (fun k hk hl => by simp [Value.ownBlock] at hk; omega); (first | have HBLK := Lib.hid ((upd_grown hgrow).at (b := w7) (heap_alloc2 W6 (.cells #[] 51) (.cells #[.int .i64 xt, .int .i64 xh] 51)) (by simp [Value.ownBlock])) | have HBLK := Lib.hid ((upd_grown hgrow).at (b := w7) (((Upd.refl [] (W6.alloc (.cells #[.int .i64 xt, .int .i64 xh] 51))).alloc (.cells #[] 51)).at (heap_alloc1 W6 (.cells #[.int .i64 xt, .int .i64 xh] 51)) (by simp)) (by simp [Value.ownBlock])) | skip); obtain ⟨oa, oc, rfl⟩ := row_shape HO.out; clear hown hgrow)
          | (refine step_row tyV rfl (.tmp 67) (.tmp 69) rfl W6.heap.size (.slice oa yn oc) yn yl rfl (by first | exact HO.out | exact HO.out.alloc _) (some ⟨_, 0, none⟩) 1 1 [⟨xt, xh⟩] rfl rfl (by first | exact ev_cells (x := ⟨xt, xh⟩) HBLK.out | exact ev_cells (x := ⟨xt, xh⟩) (heap_alloc1 _ _)) (fun e => by simp at e) (by omega) (by have := hu7.size; simp; omega) ?_; intro v2 w8 hown hgrow; have HO2 := Lib.hid hown; have hu8 : Upd [] W6 w8 := Upd.grown (by (repeat (first | exact Upd.refl [] _ | refine Upd.drew ?_ | refine Upd.alloc ?_ _ | refine Upd.trans (T := []) ?_ (by assumption) (by simp)))) hgrow (fun k hk hl => by have := own_ge HO.out k hk; omega); obtain ⟨f0, f1, f2, f3⟩ := cells4 (hu8.at HQ6.out (by simp)); obtain ⟨z0, z1, z2, z3⟩ := free4 (hu8.at HQ6.out (by simp)); obtain ⟨va, vc, rfl⟩ := row_shape HO2.out; clear hown hgrow))
        all_goals go_wp2_with fail
        all_goals
          go_meet
          case rel =>
            have k8 := setCell_block (o := 3) (hu8.at HQ6.out (by simp)) (.slice va (yn + 1) vc)
            have u8 := upd_set1 w8 P6 3 (.slice va (yn + 1) vc)
            have ho9 := u8.row HO2.out (fun y hy hm => by have h1 := own_ge HO2.out y hy; have h2 := lt_block HQ6.out; simp at hm; omega)
            exact ⟨va, vc, Lib.hid k8, Lib.hid (hasS_any ho9).2, Lib.hid ((hu8.mono (by simp)).trans u8 (fun y hy _ => hy))⟩
      case rest =>
        obtain ⟨va, vc, HQ7, HE7, HU67⟩ := hcut
        clear y3 v0 v1 HKP HKS HRW HE6
        have hup : Upd [] w5 wc := HUA.out.new HU67.out (by have := HP6.out; omega)
        have HS7 := Lib.hid (hup.at HS5.out (by simp))
        have HB7 := Lib.hid (hup.at HB5.out (by simp))
        have HM7 := Lib.hid (HM5.out.stay hup)
        have HY7 := Lib.hid (hup.at HY5.out (by simp))
        have HEV7 := Lib.hid (HEV5.out.stay hup)
        have HU7 := Lib.hid (HU5.out.thn hup)
        clear hup HS5 HX5 HB5 HM5 HY5 HEV5 HU5 HUA HU67 HQ6
        obtain ⟨y0, y1, y2, y3⟩ := cells4 HY7.out
        go_upto_region 12 with (fail)
        have hu8 := (Upd.refl [] wc).alloc (.cells #[.int .i64 ye, .int .i64 yh, .bool yc, .slice ya yn yk] 34)
        have b8 := heap_alloc1 wc (.cells #[.int .i64 ye, .int .i64 yh, .bool yc, .slice ya yn yk] 34)
        generalize wc.alloc (.cells #[.int .i64 ye, .int .i64 yh, .bool yc, .slice ya yn yk] 34) = W8 at *
        obtain ⟨P8, hP8⟩ : ∃ z, z = wc.heap.size := ⟨_, rfl⟩
        rw [← hP8] at b8 ⊢
        have HP8 := Lib.hid hP8
        clear hP8 y0 y1 y2 y3
        obtain ⟨y0, y1, y2, y3⟩ := cells4 (hu8.at HY7.out (by simp))
        obtain ⟨f0, f1, f2, f3⟩ := cells4 b8
        obtain ⟨z0, z1, z2, z3⟩ := free4 b8
        clear y0 y1 y3 f0 f1 f3 z0 z1 z3
        go_upto_region 13 with (fail)
        have k9 := setCell_block (o := 2) b8 (.bool (!yc))
        have u9 := upd_set1 W8 P8 2 (.bool (!yc))
        have hup : Upd [] wc (W8.setCell ⟨P8, 2, none⟩ (.bool (!yc))) := hu8.new u9 (by have := HP8.out; omega)
        have HQ9 := Lib.hid (hup.at HQ7.out (by simp)); have HE9 := Lib.hid (HE7.out.stay hup); have HF9 : Hid ((W8.setCell ⟨P8, 2, none⟩ (.bool (!yc))).heap[P8]? = some (.cells #[.int .i64 ye, .int .i64 yh, .bool (!yc), .slice ya yn yk] 34 (0, 0))) := Lib.hid k9
        have HS9 := Lib.hid (hup.at HS7.out (by simp))
        have HB9 := Lib.hid (hup.at HB7.out (by simp))
        have HM9 := Lib.hid (HM7.out.stay hup)
        have HY9 := Lib.hid (hup.at HY7.out (by simp))
        have HEV9 := Lib.hid (HEV7.out.stay hup)
        have HU9 := Lib.hid (HU7.out.thn hup)
        generalize W8.setCell ⟨P8, 2, none⟩ (.bool (!yc)) = W9 at *
        clear hu8 b8 k9 u9 hup HS7 HB7 HM7 HY7 HEV7 HU7 HQ7 HE7 y2 f2 z2
        have HNQ := Lib.hid (fun (r : Rs) (h1 : r.h = yh) (h2 : r ≠ ⟨ye, yh, yc, yl⟩) => HNX.out r (by rw [h1, ← HRS.out]) (by rw [← HRS.out]; exact h2))
        obtain ⟨m0, m1, m2, m3⟩ := cells4 HB9.out
        obtain ⟨s0, s1, s2, s3, s4, s5⟩ := cells6 HS9.out
        obtain ⟨q0, q1, q2, q3⟩ := cells4 HQ9.out
        have hac := HAC.out m ⟨ye, yh, yc, ⟨yl ++ [⟨xt, xh⟩], va, vc⟩⟩ W9 HMM.out HM9.out HE9.out (by have := HEL.out; have := HYK.out; simp only [List.length_append, List.length_singleton]; omega)
        unfold GivesA encM encC encR cellsM cellsR at hac
        have hnq := HNQ.out (RsR.rs ⟨ye, yh, yc, ⟨yl ++ [⟨xt, xh⟩], va, vc⟩⟩) rfl (fun he => by simp only [RsR.rs, Rs.mk.injEq] at he; have h := congrArg List.length he.2.2.2; simp at h)
        rw [hnq] at hac
        simp only [RsR.rs] at hac
        simp only [List.length_append, List.length_singleton, ← HYK.out] at hac
        have HA := Lib.hid hac
        clear hac hnq
        go_upto_region 14 with (go_at_call 16; (with_reducible refine HA.out.mono ?_); rintro e x10 ⟨k10, rfl, -, -, -, hku⟩)
        have hal := (Upd.refl [] x10).alloc (.cells #[.int .i64 k10.cap, .slice k10.es.ad k10.es.l.length k10.es.cap, .int .i64 k10.nx, .slice k10.is.ad k10.is.l.length k10.is.cap] 25)
        have hup := hku.thn hal
        generalize x10.alloc (.cells #[.int .i64 k10.cap, .slice k10.es.ad k10.es.l.length k10.es.cap, .int .i64 k10.nx, .slice k10.is.ad k10.is.l.length k10.is.cap] 25) = W10 at *
        clear hku hal HA m0 m1 m2 m3 s0 s1 s2 s3 s4 s5 q0 q1 q2 q3
        have HS10 := Lib.hid (hup.at HS9.out (by simp))
        have HB10 := Lib.hid (hup.at HB9.out (by simp))
        have HM10 := Lib.hid (HM9.out.stay hup)
        have HY10 := Lib.hid (hup.at HY9.out (by simp))
        have HEV10 := Lib.hid (HEV9.out.stay hup)
        have HU10 := Lib.hid (HU9.out.thn hup)
        have HF10 := Lib.hid (hup.at HF9.out (by simp))
        clear hup HS9 HB9 HM9 HY9 HEV9 HU9 HQ9 HE9 HF9
        obtain ⟨m0, m1, m2, m3⟩ := cells4 HB10.out
        obtain ⟨s0, s1, s2, s3, s4, s5⟩ := cells6 HS10.out
        obtain ⟨q0, q1, q2, q3⟩ := cells4 HF10.out
        have hac := HAC.out m ⟨ye, yh, !yc, ⟨yl, ya, yk⟩⟩ W10 HMM.out HM10.out HEV10.out (by have := HEL.out; have := HYK.out; simp only; omega)
        unfold GivesA encM encC encR cellsM cellsR at hac
        have hnq := HNQ.out (RsR.rs ⟨ye, yh, !yc, ⟨yl, ya, yk⟩⟩) rfl (fun he => by simp only [RsR.rs, Rs.mk.injEq] at he; have h := he.2.2.1; cases yc <;> simp at h)
        rw [hnq] at hac
        simp only [RsR.rs] at hac
        simp only [← HYK.out] at hac
        have HA := Lib.hid hac
        clear hac hnq
        go_upto_region 15 with (go_at_call 16; (with_reducible refine HA.out.mono ?_); rintro e x11 ⟨k11, rfl, -, -, -, hku⟩)
        have hal := (Upd.refl [] x11).alloc (.cells #[.int .i64 k11.cap, .slice k11.es.ad k11.es.l.length k11.es.cap, .int .i64 k11.nx, .slice k11.is.ad k11.is.l.length k11.is.cap] 25)
        have hup := hku.thn hal
        generalize x11.alloc (.cells #[.int .i64 k11.cap, .slice k11.es.ad k11.es.l.length k11.es.cap, .int .i64 k11.nx, .slice k11.is.ad k11.is.l.length k11.is.cap] 25) = W11 at *
        clear hku hal HA m0 m1 m2 m3 s0 s1 s2 s3 s4 s5 q0 q1 q2 q3
        have HS11 := Lib.hid (hup.at HS10.out (by simp))
        have HB11 := Lib.hid (hup.at HB10.out (by simp))
        have HM11 := Lib.hid (HM10.out.stay hup)
        have HY11 := Lib.hid (hup.at HY10.out (by simp))
        have HEV11 := Lib.hid (HEV10.out.stay hup)
        have HU11 := Lib.hid (HU10.out.thn hup)
        clear hup HS10 HB10 HM10 HY10 HEV10 HU10 HF10
        obtain ⟨y0, y1, y2, y3⟩ := cells4 HY11.out
        by_cases hz : yn = 0
        · have g5 : ((yn : Int) == 0) = true := by simp; omega
          have g6 : decide (yn = 0) = true := decide_eq_true hz
          subst hz
          go_wp2_with fail
          go_ret
          exact ⟨rfl, HU11.out⟩
        have g5 : ((yn : Int) == 0) = false := by simp; omega
        have g6 : decide (yn = 0) = false := decide_eq_false hz
        have hyk : yn ≤ yk := by have h := HEV11.out.le; simp only at h; have := HYK.out; omega
        obtain ⟨v0, yt, hyl⟩ : ∃ e t, yl = e :: t := by
          cases yl with
          | nil => exact absurd (by have := HYK.out; simpa using this) hz
          | cons e t => exact ⟨e, t, rfl⟩
        obtain ⟨b, off, hya, -, -⟩ := HEV11.out.row.ev 0 (by have := HYK.out; simp only; omega)
        simp only at hya
        subst hya
        have hytl : yt.length = yn - 1 := by have h := HYK.out; rw [hyl] at h; simp at h; omega
        have HYT := Lib.hid hytl
        have HYL := Lib.hid hyl
        have hev1 : ∀ a2 c2, (1 < yk → a2 = some ⟨b, off + 2, none⟩ ∧ c2 = yk - 1) → (¬ 1 < yk → yt = [] ∧ a2.isSome ∧ c2 = 0) → HasS LV W11 ⟨yt, a2, c2⟩ := fun a2 c2 h1 h2 => by
          by_cases hk : 1 < yk
          · obtain ⟨rfl, rfl⟩ := h1 hk
            have h := row_drop 1 HEV11.out.row
            rw [hyl, List.drop_one, List.tail_cons] at h
            exact ⟨h, by simp only; omega, fun e => by simp at e⟩
          · obtain ⟨rfl, h3, rfl⟩ := h2 hk
            exact ⟨row_nil _ _ _, by simp, fun e => by subst e; simp at h3⟩
        have HEVT := Lib.hid hev1
        clear hyl hytl hev1
        go_upto_region 20 with (fail)
        clear g5 g6
        have hu12 := (Upd.refl [] W11).alloc (.cells #[.int .i64 ye, .int .i64 yh, .bool yc, .slice (some ⟨b, off, none⟩) yn yk] 34)
        have b12 := heap_alloc1 W11 (.cells #[.int .i64 ye, .int .i64 yh, .bool yc, .slice (some ⟨b, off, none⟩) yn yk] 34)
        generalize W11.alloc (.cells #[.int .i64 ye, .int .i64 yh, .bool yc, .slice (some ⟨b, off, none⟩) yn yk] 34) = W12 at *
        obtain ⟨P12, hP12⟩ : ∃ z, z = W11.heap.size := ⟨_, rfl⟩
        rw [← hP12] at b12 ⊢
        have HP12 := Lib.hid hP12
        clear hP12 y0 y1 y2 y3
        obtain ⟨y0, y1, y2, y3⟩ := cells4 (hu12.at HY11.out (by simp))
        obtain ⟨f0, f1, f2, f3⟩ := cells4 b12
        obtain ⟨z0, z1, z2, z3⟩ := free4 b12
        clear y0 y1 y2 f0 f1 f2 z0 z1 z2
        by_cases hk1 : yk = 1
        · subst hk1
          obtain rfl : yn = 1 := by omega
          have hnil : yt = [] := List.eq_nil_of_length_eq_zero (by have := HYT.out; omega)
          go_upto_region 21 with (fail)
          have k13 := setCell_block (o := 3) b12 (.slice (some ⟨b, off, none⟩) 0 0)
          have u13 := upd_set1 W12 P12 3 (.slice (some ⟨b, off, none⟩) 0 0)
          have hup : Upd [] W11 (W12.setCell ⟨P12, 3, none⟩ (.slice (some ⟨b, off, none⟩) 0 0)) := hu12.new u13 (by have := HP12.out; omega)
          have HQ13 : Hid ((W12.setCell ⟨P12, 3, none⟩ (.slice (some ⟨b, off, none⟩) 0 0)).heap[P12]? = some (.cells #[.int .i64 ye, .int .i64 yh, .bool yc, .slice (some ⟨b, off, none⟩) 0 0] 34 (0, 0))) := Lib.hid k13
          have HE13 := Lib.hid ((HEVT.out (some ⟨b, off, none⟩) 0 (fun h => by omega) (fun _ => ⟨hnil, rfl, rfl⟩)).stay hup)
          have HS13 := Lib.hid (hup.at HS11.out (by simp))
          have HB13 := Lib.hid (hup.at HB11.out (by simp))
          have HM13 := Lib.hid (HM11.out.stay hup)
          have HU13 := Lib.hid (HU11.out.thn hup)
          generalize W12.setCell ⟨P12, 3, none⟩ (.slice (some ⟨b, off, none⟩) 0 0) = W13 at *
          clear hu12 b12 k13 u13 hup HS11 HB11 HM11 HY11 HEV11 HU11 y3 f3 z3
          obtain ⟨m0, m1, m2, m3⟩ := cells4 HB13.out
          obtain ⟨s0, s1, s2, s3, s4, s5⟩ := cells6 HS13.out
          obtain ⟨q0, q1, q2, q3⟩ := cells4 HQ13.out
          have hac := HAC.out m ⟨ye, yh, yc, ⟨yt, (some ⟨b, off, none⟩), 0⟩⟩ W13 HMM.out HM13.out HE13.out (by have := HEL.out; have := HYT.out; simp only; omega)
          unfold GivesA encM encC encR cellsM cellsR at hac
          have hnq := HNQ.out (RsR.rs ⟨ye, yh, yc, ⟨yt, (some ⟨b, off, none⟩), 0⟩⟩) rfl (fun he => by simp only [RsR.rs, Rs.mk.injEq] at he; have h := congrArg List.length he.2.2.2; rw [HYL.out] at h; simp at h)
          rw [hnq] at hac
          simp only [RsR.rs] at hac
          simp only [HYT.out] at hac
          simp only [Nat.sub_self] at hac
          have HA := Lib.hid hac
          clear hac hnq
          go_upto_region 22 with (go_at_call 16; (with_reducible refine HA.out.mono ?_); rintro e x14 ⟨k14, rfl, -, -, -, hku⟩)
          have hal := (Upd.refl [] x14).alloc (.cells #[.int .i64 k14.cap, .slice k14.es.ad k14.es.l.length k14.es.cap, .int .i64 k14.nx, .slice k14.is.ad k14.is.l.length k14.is.cap] 25)
          have hup := hku.thn hal
          generalize x14.alloc (.cells #[.int .i64 k14.cap, .slice k14.es.ad k14.es.l.length k14.es.cap, .int .i64 k14.nx, .slice k14.is.ad k14.is.l.length k14.is.cap] 25) = W14 at *
          clear hku hal HA m0 m1 m2 m3 s0 s1 s2 s3 s4 s5 q0 q1 q2 q3
          have HUF := Lib.hid (HU13.out.thn hup)
          clear hup
          go_wp2_with fail
          go_ret
          exact ⟨rfl, HUF.out⟩
        · have hk2 : 1 < yk := by omega
          go_upto_region 21 with (fail)
          have k13 := setCell_block (o := 3) b12 (.slice (some ⟨b, off + 2, none⟩) (yn - 1) (yk - 1))
          have u13 := upd_set1 W12 P12 3 (.slice (some ⟨b, off + 2, none⟩) (yn - 1) (yk - 1))
          have hup : Upd [] W11 (W12.setCell ⟨P12, 3, none⟩ (.slice (some ⟨b, off + 2, none⟩) (yn - 1) (yk - 1))) := hu12.new u13 (by have := HP12.out; omega)
          have HQ13 : Hid ((W12.setCell ⟨P12, 3, none⟩ (.slice (some ⟨b, off + 2, none⟩) (yn - 1) (yk - 1))).heap[P12]? = some (.cells #[.int .i64 ye, .int .i64 yh, .bool yc, .slice (some ⟨b, off + 2, none⟩) (yn - 1) (yk - 1)] 34 (0, 0))) := Lib.hid k13
          have HE13 := Lib.hid ((HEVT.out (some ⟨b, off + 2, none⟩) (yk - 1) (fun _ => ⟨rfl, rfl⟩) (fun h => absurd hk2 h)).stay hup)
          have HS13 := Lib.hid (hup.at HS11.out (by simp))
          have HB13 := Lib.hid (hup.at HB11.out (by simp))
          have HM13 := Lib.hid (HM11.out.stay hup)
          have HU13 := Lib.hid (HU11.out.thn hup)
          generalize W12.setCell ⟨P12, 3, none⟩ (.slice (some ⟨b, off + 2, none⟩) (yn - 1) (yk - 1)) = W13 at *
          clear hu12 b12 k13 u13 hup HS11 HB11 HM11 HY11 HEV11 HU11 y3 f3 z3
          obtain ⟨m0, m1, m2, m3⟩ := cells4 HB13.out
          obtain ⟨s0, s1, s2, s3, s4, s5⟩ := cells6 HS13.out
          obtain ⟨q0, q1, q2, q3⟩ := cells4 HQ13.out
          have hac := HAC.out m ⟨ye, yh, yc, ⟨yt, (some ⟨b, off + 2, none⟩), (yk - 1)⟩⟩ W13 HMM.out HM13.out HE13.out (by have := HEL.out; have := HYT.out; simp only; omega)
          unfold GivesA encM encC encR cellsM cellsR at hac
          have hnq := HNQ.out (RsR.rs ⟨ye, yh, yc, ⟨yt, (some ⟨b, off + 2, none⟩), (yk - 1)⟩⟩) rfl (fun he => by simp only [RsR.rs, Rs.mk.injEq] at he; have h := congrArg List.length he.2.2.2; rw [HYL.out] at h; simp at h)
          rw [hnq] at hac
          simp only [RsR.rs] at hac
          simp only [HYT.out] at hac
          have HA := Lib.hid hac
          clear hac hnq
          go_upto_region 22 with (go_at_call 16; (with_reducible refine HA.out.mono ?_); rintro e x14 ⟨k14, rfl, -, -, -, hku⟩)
          have hal := (Upd.refl [] x14).alloc (.cells #[.int .i64 k14.cap, .slice k14.es.ad k14.es.l.length k14.es.cap, .int .i64 k14.nx, .slice k14.is.ad k14.is.l.length k14.is.cap] 25)
          have hup := hku.thn hal
          generalize x14.alloc (.cells #[.int .i64 k14.cap, .slice k14.es.ad k14.es.l.length k14.es.cap, .int .i64 k14.nx, .slice k14.is.ad k14.is.l.length k14.is.cap] 25) = W14 at *
          clear hku hal HA m0 m1 m2 m3 s0 s1 s2 s3 s4 s5 q0 q1 q2 q3
          have HUF := Lib.hid (HU13.out.thn hup)
          clear hup
          go_wp2_with fail
          go_ret
          exact ⟨rfl, HUF.out⟩
end Go.Proofs.Ytpneljhplbkdkaa
