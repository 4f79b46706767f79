
/- P10.3 (PqmodelOrder): the law's walk. -/
import Derived.Test.YtpneljhplbkdkaaHP
namespace Go.Proofs.Ytpneljhplbkdkaa
open Go.RowKit Go.Lib

theorem do_bat {m : Md} {k b : Int} (hk : 0 ≤ k ∧ k ≤ 64) (h : Int) : doM m ⟨3, 0, 0, k, b⟩ h = (⟨m.cap, (scanB b k m.es []).2, m.nx, m.is⟩, ⟨0, 0, false, (scanB b k m.es []).1⟩) := by
  unfold doM
  rw [if_neg (show ¬ (3 : Int) = 1 by decide), if_neg (show ¬ (3 : Int) = 2 by decide), if_pos rfl]
  unfold batM
  rw [if_neg (fun hn => hn hk)]
set_option maxRecDepth 100000 in
set_option maxHeartbeats 16000000 in
theorem Order_any (c : Int) (la : Option Addr) (lc : Nat) (l : List St) (mo bd : Int) (w : World) (hc : 0 ≤ c ∧ c < 256) (hr : Row LP w la l) (hlm : l.length ≤ maxLen) (hmo : 0 ≤ mo ∧ mo < 256) :
    Calls Try.prog 5 #[.int .u8 c, .slice la l.length lc, .int .u8 mo, .int .i64 bd] w fun e w' => e = .returned (.bool true) ∧ Upd [] w w' := by
  have HHD := Lib.hid (fun W => Head_has W)
  have HMD := Lib.hid (fun W (hu : Upd [] w W) => Made_has c la lc l W hc (hr.stay hu) hlm)
  have hok0 := madeM_ok c l
  obtain ⟨n, hn⟩ : ∃ n, n = l.length := ⟨_, rfl⟩
  rw [← hn] at HMD ⊢
  generalize madeM c l = g at *
  obtain ⟨hok, hli⟩ := hok0
  have hdk : mo.tmod 65 = mo % 65 := Int.tmod_eq_emod_of_nonneg hmo.1
  have hwk : IntKind.i64.wrap mo = mo := by rw [IntKind.wrap_i64]; omega
  have hwk2 : IntKind.i64.wrap (mo % 65) = mo % 65 := by rw [IntKind.wrap_i64]; omega
  obtain ⟨k, hk⟩ : ∃ k, k = mo % 65 := ⟨_, rfl⟩
  have hk0 : 0 ≤ k ∧ k ≤ 64 := by omega
  rw [← hk] at hdk hwk2
  have hout := outB hok (b := bd) (mx := k) hk0.1
  have hdb := do_bat (m := g) (b := bd) hk0 0
  have HDV := Lib.hid (fun (m : MdR) W (he : m.md = g) (hm : HasM W m) => he ▸ PDo_has m ⟨3, 0, 0, k, bd⟩ 0 W hm (he ▸ hok) (by have h := hli; rw [← he] at h; simp only [MdR.md] at h; omega))
  rw [hdb] at HDV
  have h64 := hok.len
  have h65 := hok.cap.2
  have HL64 : Hid (g.es.length ≤ 64) := Lib.hid (by omega)
  have HOK := Lib.hid hok
  generalize (scanB bd k g.es []).1 = ev at *
  generalize (scanB bd k g.es []).2 = lf at *
  have HOUT := Lib.hid hout
  clear hr hn hlm hc hok hli hout hdb hk h64 h65
  go_enter Try.func5, Try.ntmps5
  go_upto_region 2 with (go_at_call 9; (with_reducible refine (HHD.out _).mono ?_); rintro e w1 ⟨rfl, hu1⟩; have HU1 := Lib.hid hu1; clear hu1)
  clear HHD
  go_upto_region 3 with (go_at_call 13; (with_reducible refine (HMD.out _ HU1.out).mono ?_); rintro e w2 ⟨⟨mc, ⟨ml, ma, mk⟩, mx, ⟨mi, mb, mz⟩⟩, rfl, hM⟩; unfold encM cellsM)
  have hmd := hM.md
  simp only [MdR.md] at hmd
  obtain ⟨mn, hmn⟩ : ∃ z, z = ml.length := ⟨_, rfl⟩
  obtain ⟨mq, hmq⟩ : ∃ z, z = mi.length := ⟨_, rfl⟩
  simp only [← hmn, ← hmq]
  have hal := (Upd.refl [] w2).alloc (.cells #[.int .i64 mc, .slice ma mn mk, .int .i64 mx, .slice mb mq mz] 25)
  have b2 := heap_alloc1 w2 (.cells #[.int .i64 mc, .slice ma mn mk, .int .i64 mx, .slice mb mq mz] 25)
  generalize w2.alloc (.cells #[.int .i64 mc, .slice ma mn mk, .int .i64 mx, .slice mb mq mz] 25) = W2 at *
  generalize w2.heap.size = P2 at *
  have hhas := hM.has.stay hal
  have HU2 := Lib.hid (HU1.out.thn (hM.upd.thn hal)); have HB2 := Lib.hid b2; have HM2 := Lib.hid hhas.es.row; have hle := hhas.es.le
  have hdo := HDV.out ⟨mc, ⟨ml, ma, mk⟩, mx, ⟨mi, mb, mz⟩⟩ W2 hM.md hhas
  unfold GivesM encM encC encR cellsM cellsR at hdo
  simp only [← hmn, ← hmq] at hdo
  have HD := Lib.hid hdo
  have HGE : Hid (g.es = ml) := Lib.hid (by rw [← hmd])
  have HMN : Hid (mn = ml.length) := hmn
  simp only [← hmn] at hle
  have HM64 : Hid (mn ≤ 64) := Lib.hid (by have h1 := HL64.out; rw [HGE.out, ← hmn] at h1; exact h1)
  clear hM hal b2 hhas hdo HDV HMD HU1 hmd hmn hmq
  obtain ⟨m0, m1, m2, m3⟩ := cells4 HB2.out
  go_upto_region 5 with (go_at_call 14; (with_reducible refine HD.out.mono ?_); rintro e w3 ⟨⟨nc, ⟨nl, na, nk⟩, nx, ⟨ni, nb, nz⟩⟩, ⟨ye, yh, yc, ⟨yl, ya, yk⟩⟩, rfl, hD⟩)
  have hmd := hD.md
  have hrs := hD.rs
  simp only [MdR.md, RsR.rs, Md.mk.injEq, Rs.mk.injEq] at hmd hrs
  obtain ⟨-, hnl, -, -⟩ := hmd
  obtain ⟨rfl, rfl, rfl, hyl⟩ := hrs
  subst hnl
  subst hyl
  obtain ⟨nn, hnn⟩ : ∃ z, z = nl.length := ⟨_, rfl⟩
  obtain ⟨nq, hnq⟩ : ∃ z, z = ni.length := ⟨_, rfl⟩
  obtain ⟨yn, hyn⟩ : ∃ z, z = yl.length := ⟨_, rfl⟩
  simp only [← hnn, ← hnq, ← hyn]
  obtain ⟨hal, b3, b4, -⟩ := two_boxes w3 (.cells #[.int .i64 nc, .slice na nn nk, .int .i64 nx, .slice nb nq nz] 25) (.cells #[.int .i64 0, .int .i64 0, .bool false, .slice ya yn yk] 34)
  generalize (w3.alloc (.cells #[.int .i64 nc, .slice na nn nk, .int .i64 nx, .slice nb nq nz] 25)).alloc (.cells #[.int .i64 0, .int .i64 0, .bool false, .slice ya yn yk] 34) = W3 at *
  generalize w3.heap.size = P3 at *
  have hup := hD.upd.thn hal
  have HU3 := Lib.hid (HU2.out.thn hup); have HB3 := Lib.hid (hup.at HB2.out (by simp)); have HM3 := Lib.hid (HM2.out.stay hup); have HNB := Lib.hid b3; have HYB := Lib.hid b4; have HNR := Lib.hid (hD.has.stay hal).es.row; have HYR := Lib.hid (hD.ev.stay hal).row
  have hnle := (hD.has.stay hal).es.le
  have hyle := (hD.ev.stay hal).le
  simp only [← hnn] at hnle
  simp only [← hyn] at hyle
  have HNN : Hid (nn = nl.length) := hnn
  have HYN : Hid (yn = yl.length) := hyn
  have hyk : (yn : Int) ≤ k := by have h := HOUT.out.le; rw [← hyn] at h; exact h
  have hnm : nn ≤ mn := by have h := HOUT.out.len; rw [HGE.out, ← HMN.out, ← hnn] at h; exact h
  clear hD hal b3 b4 hup HD HU2 HB2 HM2 hnn hnq hyn m0 m1 m2 m3
  obtain ⟨y0, y1, y2, y3⟩ := cells4 HYB.out
  have g1 : decide (k < (yn : Int)) = false := decide_eq_false (by omega)
  have hyn64 : yn ≤ 64 := by omega
  have HIDX : Hid (∀ i (h : i < yn), ∃ ix, ∃ hj : ix < mn, ix = idxF liveE ml i ∧ (ml[ix]'(by rw [← HMN.out]; exact hj)).t = (yl[i]'(by rw [← HYN.out]; exact h)).t ∧ (ml[ix]'(by rw [← HMN.out]; exact hj)).h = (yl[i]'(by rw [← HYN.out]; exact h)).h ∧ (ml[ix]'(by rw [← HMN.out]; exact hj)).d = false ∧ (yl[i]'(by rw [← HYN.out]; exact h)).t < bd) := Lib.hid (by
    intro i h
    have h0 := HOUT.out.at' i (by rw [← HYN.out]; exact h)
    have e := HGE.out
    subst e
    obtain ⟨hj, h1⟩ := h0
    exact ⟨_, by rw [HMN.out]; exact hj, rfl, h1⟩)
  have HLT : Hid (∀ i j, i < j → j < yn → idxF liveE ml i < idxF liveE ml j) := Lib.hid (fun i j h1 h2 => by have h := HOUT.out.lt i j h1 (by rw [← HYN.out]; exact h2); rw [HGE.out] at h; exact h)
  have HREST : Hid ((yn : Int) < k → ∀ j (h : j < nl.length), bd ≤ (nl[j]).t) := Lib.hid (fun h1 j h => HOUT.out.rest (by rw [← HYN.out]; exact h1) _ (List.getElem_mem h))
  have HONE : Hid (∀ i j (hi : i < ml.length) (hj : j < ml.length), ml[i].h = ml[j].h → i = j) := Lib.hid (by have h := HOK.out; have e := HGE.out; intro i j hi hj he; exact h.one (i := i) (j := j) (by rw [e]; exact hi) (by rw [e]; exact hj) (by simp only [e]; exact he))
  clear HOUT HOK HL64 HGE
  go_wp2_with fail
  clear y0 y1 y2 y3 g1
  go_loopg [14, 15] yn (fun gk v14 v15 wr => ∃ (i : Nat) (z : Int), v14 = .int .i64 z ∧ v15 = .int .i64 i ∧ i + gk = yn ∧ Hid (-1 ≤ z ∧ z < 64) ∧ Hid (i < yn → z < (idxF liveE ml i : Int)) ∧ Hid (Upd [] W3 wr))
  case atStart => exact ⟨0, -1, rfl, rfl, by omega, Lib.hid ⟨by omega, by omega⟩, Lib.hid (fun h => by omega), Upd.refl _ _⟩
  case round =>
    obtain ⟨i, z, rfl, rfl, hig, HZB, HZ, HUR⟩ := hrel
    obtain ⟨y0, y1, y2, y3⟩ := cells4 (HUR.out.at HYB.out (by simp))
    clear y0 y1 y2
    by_cases hlt : i < yn
    · have hltz : (i : Int) < (yn : Int) := by omega
      have hi1 : i < yl.length := by have := HYN.out; omega
      obtain ⟨ix, hix, hixe, hi2, hi3, hi4, hi5⟩ := HIDX.out i hlt
      have hzx := HZ.out hlt
      obtain ⟨vb, vo, rfl, v0, v1⟩ := (HYR.out.stay HUR.out).ev i hi1
      obtain ⟨⟨vt, vh⟩, hv⟩ : ∃ x, x = yl[i]'hi1 := ⟨_, rfl⟩
      rw [← hv] at v0 v1
      simp only [← hv] at hi2 hi3 hi5
      simp only at v0 v1
      rw [← hixe] at hzx
      have HI1 := Lib.hid hi2; have HI2 := Lib.hid hi3; have HI3 := Lib.hid hi4; have HI4 := Lib.hid hi5; have HIX := Lib.hid hix; have HZX := Lib.hid hzx; have HIXE := Lib.hid hixe
      have HV0 := Lib.hid v0; have HV1 := Lib.hid v1
      clear hv hi1 hi2 hi3 hi4 hi5 hzx hixe v0 v1
      have hwi : IntKind.i64.wrap ((i : Int) + 1) = (i : Int) + 1 := by rw [IntKind.wrap_i64]; omega
      go_wp2_with fail
      clear y3
      go_loopg [16, 17] mn (fun gk2 v16 v17 wq => ∃ (j : Nat) (u : Int), v16 = .int .i64 u ∧ v17 = .int .i64 j ∧ j + gk2 = mn ∧ Hid (u = if ix < j then (ix : Int) else -1) ∧ Hid (Upd [] wr wq))
      case atStart => exact ⟨0, -1, rfl, rfl, by omega, Lib.hid (by simp), Upd.refl _ _⟩
      case round =>
        rename_i gk2
        obtain ⟨j, u, rfl, rfl, hjg, HUV, HUQ⟩ := hrel
        obtain ⟨m0, m1, m2, m3⟩ := cells4 ((HUR.out.thn HUQ.out).at HB3.out (by simp))
        clear m0 m2 m3
        have y3 := (cells4 ((HUR.out.thn HUQ.out).at HYB.out (by simp))).2.2.2
        by_cases hjl : j < mn
        · have hjz : (j : Int) < (mn : Int) := by omega
          have hj1 : j < ml.length := by have := HMN.out; omega
          obtain ⟨xb, xo, hxa, x0, x1, x2, x3⟩ := (HM3.out.stay (HUR.out.thn HUQ.out)).ent j hj1
          subst hxa
          have v0 := HUQ.out.cell HV0.out (by simp); have v1 := HUQ.out.cell HV1.out (by simp)
          have hwj : IntKind.i64.wrap ((j : Int) + 1) = (j : Int) + 1 := by have := HM64.out; rw [IntKind.wrap_i64]; omega
          have HNE : Hid (j ≠ ix → (ml[j]).h ≠ vh) := Lib.hid (fun hne he => hne (HONE.out j ix hj1 (by have h1 := HIX.out; have h2 := HMN.out; omega) (by rw [he, HI2.out])))
          have HEQ : Hid (j = ix → (ml[j]).h = vh ∧ (ml[j]).t = vt ∧ (ml[j]).d = false) := Lib.hid (fun he => by subst he; exact ⟨HI2.out, HI1.out, HI3.out⟩)
          generalize ml[j].t = et at *
          generalize ml[j].q = eq at *
          generalize ml[j].h = eh at *
          generalize ml[j].d = ed at *
          clear hj1
          have jm1 := kept_at m1; have jy3 := kept_at y3; have j0 := kept_at x0; have j1 := kept_at x1; have j2 := kept_at x2; have j3 := kept_at x3; have k0 := kept_at v0; have k1 := kept_at v1
          go_upto_region 15 with (fail)
          clear m1 y3 x0 x1 x2 x3 v0 v1
          by_cases hji : j = ix
          · obtain ⟨e1, e2, e3⟩ := HEQ.out hji
            subst e1
            subst e2
            subst e3
            have HJI := Lib.hid hji
            clear hji
            refine wp_region_quiet_kept mixed (by kernel_rfl) ?_
            repeat (go_big_quiet_step (fail))
            refine wpQuiet_nil ?_
            intro w5 hw'
            obtain ⟨⟨Wy, hd⟩, hw''⟩ := hw'
            simp only at hw''
            subst hw''
            have HU5 := Lib.hid (HUQ.out.thn hd)
            clear hd jm1 jy3 j0 j1 j2 j3 k0 k1
            go_wp2_with fail
            go_roundg (mn - (j + 1))
            case measure => omega
            case rel => exact ⟨j + 1, (j : Int), rfl, by go_num, by omega, Lib.hid (by rw [if_pos (by have := HJI.out; omega), HJI.out]), HU5⟩
          · have g1 : (eh == vh) = false := by simpa using HNE.out hji
            have g2 : decide (eh = vh) = false := decide_eq_false (HNE.out hji)
            have HJI := Lib.hid hji
            clear hji
            refine wp_region_quiet_kept mixed (by kernel_rfl) ?_
            repeat (go_big_quiet_step (fail))
            refine wpQuiet_nil ?_
            intro w5 hw'
            obtain ⟨⟨Wy, hd⟩, hw''⟩ := hw'
            simp only at hw''
            subst hw''
            have HU5 := Lib.hid (HUQ.out.thn hd)
            clear hd jm1 jy3 j0 j1 j2 j3 k0 k1
            clear g1 g2
            go_wp2_with fail
            go_roundg (mn - (j + 1))
            case measure => omega
            case rel => exact ⟨j + 1, u, rfl, by go_num, by omega, Lib.hid (by have h := HUV.out; have h2 := HJI.out; rw [h]; by_cases h3 : ix < j; rw [if_pos h3, if_pos (by omega)]; rw [if_neg h3, if_neg (by omega)]), HU5⟩
        · have hjz : ¬ (j : Int) < (mn : Int) := by omega
          obtain rfl : u = (ix : Int) := by have h := HUV.out; rw [if_pos (by have := HIX.out; omega)] at h; exact h
          have v0 := HUQ.out.cell HV0.out (by simp)
          have d1 : decide ((ix : Int) ≤ z) = false := decide_eq_false (by have := HZX.out; omega)
          have d2 : decide (bd ≤ vt) = false := decide_eq_false (by have := HI4.out; omega)
          have HU6 := Lib.hid (HUR.out.thn HUQ.out)
          clear HUV
          go_wp2_with fail
          go_roundg (yn - (i + 1))
          case measure => omega
          case rel => exact ⟨i + 1, (ix : Int), rfl, by go_num, by omega, Lib.hid ⟨by omega, by have h1 := HIX.out; have h2 := HM64.out; omega⟩, Lib.hid (fun h => by have h1 := HLT.out i (i + 1) (by omega) h; rw [← HIXE.out] at h1; omega), HU6⟩
    · have hltz : ¬ (i : Int) < (yn : Int) := by omega
      go_wp2_with fail
      clear y3
      go_loopg [18] nn (fun gk3 v18 wq => ∃ j : Nat, v18 = .int .i64 j ∧ j + gk3 = nn ∧ Hid (Upd [] wr wq))
      case atStart => exact ⟨0, rfl, by omega, Upd.refl _ _⟩
      case round =>
        rename_i gk3
        obtain ⟨j, rfl, hjg, HUQ⟩ := hrel
        have y3 := (cells4 ((HUR.out.thn HUQ.out).at HYB.out (by simp))).2.2.2
        have n1 := (cells4 ((HUR.out.thn HUQ.out).at HNB.out (by simp))).2.1
        have m1 := (cells4 ((HUR.out.thn HUQ.out).at HB3.out (by simp))).2.1
        by_cases hjl : j < nn
        · have hjz : (j : Int) < (nn : Int) := by omega
          have hj1 : j < nl.length := by have := HNN.out; omega
          obtain ⟨xb, xo, hxa, x0, x1, x2, x3⟩ := (HNR.out.stay (HUR.out.thn HUQ.out)).ent j hj1
          subst hxa
          have hwj : IntKind.i64.wrap ((j : Int) + 1) = (j : Int) + 1 := by have := HM64.out; rw [IntKind.wrap_i64]; omega
          have HRB : Hid ((yn : Int) < k → bd ≤ (nl[j]).t) := Lib.hid (fun h => HREST.out h j hj1)
          generalize nl[j].t = et at *
          generalize nl[j].q = eq at *
          generalize nl[j].h = eh at *
          generalize nl[j].d = ed at *
          clear hj1
          by_cases hyk2 : (yn : Int) < k
          · have d1 : decide ((yn : Int) < k) = true := decide_eq_true hyk2
            have d2 : decide (et < bd) = false := decide_eq_false (by have := HRB.out hyk2; omega)
            go_wp2_with fail
            go_roundg (nn - (j + 1))
            case measure => omega
            case rel => exact ⟨j + 1, by go_num, by omega, HUQ⟩
          · have d1 : decide ((yn : Int) < k) = false := decide_eq_false hyk2
            go_wp2_with fail
            go_roundg (nn - (j + 1))
            case measure => omega
            case rel => exact ⟨j + 1, by go_num, by omega, HUQ⟩
        · have hjz : ¬ (j : Int) < (nn : Int) := by omega
          have d1 : decide (nn ≤ mn) = true := decide_eq_true hnm
          have d2 : decide ((nn : Int) ≤ (mn : Int)) = true := decide_eq_true (by omega)
          go_wp2_with fail
          go_ret
          exact ⟨rfl, HU3.out.thn (HUR.out.thn HUQ.out)⟩
end Go.Proofs.Ytpneljhplbkdkaa
