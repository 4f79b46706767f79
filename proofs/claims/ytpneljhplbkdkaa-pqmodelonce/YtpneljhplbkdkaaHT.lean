
/- P10.3 (PqmodelOnce): the law's walk. -/
import Derived.Test.YtpneljhplbkdkaaHP
import Derived.Deep.QuietTactic
import Derived.BigQuiet
namespace Go.Proofs.Ytpneljhplbkdkaa
open Go.RowKit Go.Lib

theorem ev_le64 (m : Md) (c : Ca) (h : Int) : (doM m c h).2.ev.length ≤ 64 := by
  unfold doM
  split
  · unfold insM
    split
    · simp [errR]
    · split
      · simp [errR]
      · split <;> simp [errR]
  · split
    · unfold canM
      split <;> simp [errR]
    · split
      · unfold batM
        split
        · simp [errR]
        · rename_i hr
          have hr := Classical.not_not.1 hr
          have := scanB_le (b := c.b) (mx := c.m) m.es [] (by simp; omega)
          simp only
          omega
      · simp [errR]
/-- Where the law stands between two calls: the model lies in box P. -/
structure OnAt (W : World) (P : Nat) (wr : World) (x : MdR) : Prop where
  bx : wr.heap[P]? = some (.cells (cellsM x) 25 (0, 0))
  has : HasM wr x
  avP : AvM x P
  upd : Upd [P] W wr
theorem OnAt.step {W wr wx w5 : World} {P P2 Q2 : Nat} {g2 : Md} {s : Rs} {x x2 : MdR} {y : RsR} (h : OnAt W P wr x) (hb : Box2 wr x g2 s P2 Q2 wx x2 y) (hu : Upd [P] wx w5) (bx : w5.heap[P]? = some (.cells (cellsM x2) 25 (0, 0))) : OnAt W P w5 x2 := by
  have hPl := lt_block h.bx
  have a1 := (hb.did.av P hPl h.avP).1
  exact ⟨bx, ⟨hb.did.has.es.keep1 hu a1.es, hb.did.has.is.keep1 hu a1.is⟩, a1, (h.upd.trans hb.did.upd (by simp)).trans hu (fun x hx _ => hx)⟩
theorem OnAt.stay {W wr wx : World} {P : Nat} {x : MdR} (h : OnAt W P wr x) (hu : Upd [] wr wx) : OnAt W P wx x := ⟨hu.at h.bx (by simp), h.has.stay hu, h.avP, h.upd.trans hu (by simp)⟩
set_option maxRecDepth 100000 in
set_option maxHeartbeats 16000000 in
theorem Once_any (c : Int) (la : Option Addr) (lc : Nat) (l : List St) (s : St) (pa : Option Addr) (pc : Nat) (ls : List St) (w : World) (hc : 0 ≤ c ∧ c < 256) (hr : Row LP w la l) (hlm : l.length ≤ maxLen) (hp : Row LP w pa ls) (hpm : ls.length ≤ maxLen) :
    Calls Try.prog 6 #[.int .u8 c, .slice la l.length lc, encS s, .slice pa ls.length pc] w fun e w' => e = .returned (.bool true) ∧ Upd [] w w' := by
  have HHD := Lib.hid (fun W => Head_has W)
  have HMD := Lib.hid (fun W (hu : Upd [] w W) => Made_has c la lc l W hc (hr.stay hu) hlm)
  have hok0 := madeM_ok c l
  obtain ⟨n, hn⟩ : ∃ n, n = l.length := ⟨_, rfl⟩
  rw [← hn] at HMD ⊢
  generalize madeM c l = g at *
  obtain ⟨hok, hli⟩ := hok0
  obtain ⟨pn, hpn⟩ : ∃ n, n = ls.length := ⟨_, rfl⟩
  rw [← hpn] at hpm ⊢
  have HPN := Lib.hid hpn
  have HPR := Lib.hid hp
  have hpz : pn ≤ 9223372036854775807 := hpm
  obtain ⟨⟨ck, ct, ch, cm, cb⟩, hh⟩ := s
  unfold encS
  simp only
  have HDV := Lib.hid (fun (m : MdR) W (he : m.md = g) (hm : HasM W m) => he ▸ PDo_has m ⟨ck, ct, ch, cm, cb⟩ hh W hm (he ▸ hok) (by have h := hli; rw [← he] at h; simp only [MdR.md] at h; omega))
  have hd1 := doM_ok hok ⟨ck, ct, ch, cm, cb⟩ hh
  have hd2 := doM_grow g ⟨ck, ct, ch, cm, cb⟩ hh
  have hd3 := ev_le64 g ⟨ck, ct, ch, cm, cb⟩ hh
  have hgs := gone_start hok ⟨ck, ct, ch, cm, cb⟩ hh
  generalize doM g ⟨ck, ct, ch, cm, cb⟩ hh = gd at *
  have HD1 := Lib.hid hd1; have HD2 : Hid (gd.1.is.length ≤ 101) := Lib.hid (by omega); have HD3 := Lib.hid hd3; have HGS := Lib.hid hgs
  clear hr hn hlm hc hok hli hp hpm hpn hd1 hd2 hd3 hgs
  go_enter Try.func6, Try.ntmps6
  go_upto_region 1 with (fail)
  obtain ⟨hu0, b0⟩ := one_box w (.cells #[.int .i64 ck, .int .i64 ct, .int .i64 ch, .int .i64 cm, .int .i64 cb, .int .i64 hh] 30)
  generalize w.alloc (.cells #[.int .i64 ck, .int .i64 ct, .int .i64 ch, .int .i64 cm, .int .i64 cb, .int .i64 hh] 30) = W0 at *
  generalize w.heap.size = P at *
  have HU0 := Lib.hid hu0; have HB0 := Lib.hid b0
  clear hu0 b0
  go_upto_region 2 with (go_at_call 9; (with_reducible refine (HHD.out _).mono ?_); rintro e w1 ⟨rfl, hu1⟩; have HU1 := Lib.hid (HU0.out.thn hu1); have HS1 := Lib.hid (hu1.at HB0.out (by simp)); clear hu1)
  clear HHD HU0 HB0
  by_cases hpl : 60 < pn
  · have g1 : decide (60 < pn) = true := decide_eq_true hpl
    have g2 : decide ((60 : Int) < (pn : Int)) = true := decide_eq_true (by omega)
    go_wp2_with fail
    go_ret
    exact ⟨rfl, HU1.out⟩
  have g1 : decide (60 < pn) = false := decide_eq_false hpl
  have g2 : decide ((60 : Int) < (pn : Int)) = false := decide_eq_false (by omega)
  go_upto_region 5 with (go_at_call 13; (with_reducible refine (HMD.out _ HU1.out).mono ?_); rintro e w2 ⟨m, rfl, hM⟩; unfold encM cellsM)
  clear g1 g2
  have hal := (Upd.refl [] w2).alloc (.cells #[.int .i64 m.cap, .slice m.es.ad m.es.l.length m.es.cap, .int .i64 m.nx, .slice m.is.ad m.is.l.length m.is.cap] 25)
  have b2 := heap_alloc1 w2 (.cells #[.int .i64 m.cap, .slice m.es.ad m.es.l.length m.es.cap, .int .i64 m.nx, .slice m.is.ad m.is.l.length m.is.cap] 25)
  generalize w2.alloc (.cells #[.int .i64 m.cap, .slice m.es.ad m.es.l.length m.es.cap, .int .i64 m.nx, .slice m.is.ad m.is.l.length m.is.cap] 25) = W2 at *
  generalize w2.heap.size = P2 at *
  have hup := hM.upd.thn hal
  have HU2 := Lib.hid (HU1.out.thn hup); have HS2 := Lib.hid (hup.at HS1.out (by simp)); have HB2 := Lib.hid b2; have HM2 := Lib.hid (hM.has.stay hal); have HMM := Lib.hid hM.md
  clear hM hal b2 hup HMD HU1 HS1
  obtain ⟨m0, m1, m2, m3⟩ := cells4 HB2.out
  obtain ⟨s0, s1, s2, s3, s4, s5⟩ := cells6 HS2.out
  have hdo := HDV.out m W2 HMM.out HM2.out
  unfold GivesM encM encC encR cellsM cellsR at hdo
  simp only at hdo
  have HD := Lib.hid hdo
  clear hdo HDV
  go_upto_region 6 with (go_at_call 14; (with_reducible refine HD.out.mono ?_); rintro e w3 ⟨z, ⟨ye, yh, yc, ⟨yl, ya, yk⟩⟩, rfl, hD⟩)
  have hrs := hD.rs
  simp only [RsR.rs] at hrs
  have hev := hD.ev
  obtain ⟨yn, hyn⟩ : ∃ n, n = yl.length := ⟨_, rfl⟩
  simp only [← hyn]
  have HYN := Lib.hid hyn
  have HPW : Hid (w.heap.size ≤ w3.heap.size) := Lib.hid (Nat.le_trans HU2.out.size hD.upd.size)
  have hZA0 : AvM z w3.heap.size := hD.has.avoids (Nat.le_refl _)
  obtain ⟨hal, b3, b4, -⟩ := two_boxes w3 (.cells #[.int .i64 z.cap, .slice z.es.ad z.es.l.length z.es.cap, .int .i64 z.nx, .slice z.is.ad z.is.l.length z.is.cap] 25) (.cells #[.int .i64 ye, .int .i64 yh, .bool yc, .slice ya yn yk] 34)
  generalize (w3.alloc (.cells #[.int .i64 z.cap, .slice z.es.ad z.es.l.length z.es.cap, .int .i64 z.nx, .slice z.is.ad z.is.l.length z.is.cap] 25)).alloc (.cells #[.int .i64 ye, .int .i64 yh, .bool yc, .slice ya yn yk] 34) = W3 at *
  generalize w3.heap.size = P3 at *
  have HZAV : Hid (AvM z P3) := Lib.hid hZA0
  have hup := hD.upd.thn hal
  have HU3 := Lib.hid (HU2.out.thn hup); have HS3 := Lib.hid (hup.at HS2.out (by simp)); have HZ3 := Lib.hid b3; have HY3 := Lib.hid b4; have HZM := Lib.hid hD.md; have HZH := Lib.hid (hD.has.stay hal); have HEV := Lib.hid (hev.stay hal).row; have HYL := Lib.hid (hev.stay hal).le; have HRS := Lib.hid hrs
  clear hal b3 b4 hup hrs hev HD HU2 HS2 HB2 HM2 hyn m0 m1 m2 m3 s0 s1 s2 s3 s4 s5
  have HEL : Hid (yn ≤ 64) := Lib.hid (by have h := HD3.out; rw [← HRS.out] at h; simp only at h; have := HYN.out; omega)
  have hyk : yn ≤ yk := by have h := HYL.out; simp only at h; rw [HYN.out]; exact h
  have HGS2 : Hid (Gone ((if yc = true then [ch] else []) ++ yl.map (fun e => e.h)) gd.1) := Lib.hid (by have h := HGS.out; rw [← HRS.out] at h; exact h)
  clear HD3 HGS HYL
  obtain ⟨s0, s1, s2, s3, s4, s5⟩ := cells6 HS3.out
  obtain ⟨y0, y1, y2, y3⟩ := cells4 HY3.out
  clear s0 s1 s3 s4 s5 y0 y1 y3
  have HBS : Hid (P3 < W3.heap.size) := lt_block HZ3.out
  go_upto_if 37 with (fail)
  go_cut [13] (fun v wx => ∃ ga gc, v = .slice ga (if yc = true then [ch] else ([] : List Int)).length gc ∧ Hid (wx.ownsRow W3.heap.size 3 LN.k (.slice ga (if yc = true then [ch] else ([] : List Int)).length gc) (if yc = true then [ch] else ([] : List Int)).length (LN.flat (if yc = true then [ch] else []))) ∧ Hid (Upd [] W3 wx))
  case first =>
    cases yc with
    | false =>
      go_wp2_with fail
      go_meet
      case rel => exact ⟨none, 0, rfl, ⟨rfl, .inl ⟨rfl, rfl⟩⟩, Upd.refl _ _⟩
    | true =>
      have hu1 := (Upd.refl [] W3).alloc (.cells #[.int .i64 ch] 3)
      have HRZ := Lib.hid (num_cells (x := ch) (heap_alloc1 W3 (.cells #[.int .i64 ch] 3)))
      have HU4 := Lib.hid hu1
      have hbs : W3.heap.size ≤ (W3.alloc (.cells #[.int .i64 ch] 3)).heap.size := by simp
      clear hu1
      go_wp2_with (at_builtin; go_loud (refine app_row tyN rfl _ _ rfl W3.heap.size (.slice none 0 0) 0 [] rfl ⟨rfl, .inl ⟨rfl, rfl⟩⟩ (some ⟨W3.heap.size, 0, none⟩) 1 1 [ch] rfl rfl HRZ.out (fun e => by simp at e) (by omega) hbs ?_; intro v4 w4 hown hgrow; obtain ⟨va, vc, rfl⟩ := row_shape hown; have HO4 := Lib.hid hown; have HU5 : Hid (Upd [] W3 w4) := Lib.hid (HU4.out.grown hgrow (fun k hk hl => by simp [Value.ownBlock] at hk)); clear hown hgrow))
      go_meet
      case rel => exact ⟨va, vc, rfl, HO4.out, HU5.out⟩
  case rest =>
    obtain ⟨ga, gc, rfl, HG0, HUG⟩ := hcut
    clear y2 s2
    have HGZ0 : Hid ((if yc = true then [ch] else ([] : List Int)).length ≤ 1) := Lib.hid (by split <;> simp)
    generalize hgz : (if yc = true then [ch] else ([] : List Int)) = gz at *
    clear hgz
    have HGZ := HGZ0
    clear HGZ0
    go_wp2_with fail
    go_loopg [13, 14] yn (fun gk v13 v14 wr => ∃ (i : Nat) (ga : Option Addr) (gc : Nat), v13 = .slice ga (gz ++ (yl.take i).map (fun e => e.h)).length gc ∧ v14 = .int .i64 i ∧ i + gk = yn ∧ Hid (wr.ownsRow W3.heap.size 3 LN.k (.slice ga (gz ++ (yl.take i).map (fun e => e.h)).length gc) (gz ++ (yl.take i).map (fun e => e.h)).length (LN.flat (gz ++ (yl.take i).map (fun e => e.h)))) ∧ Hid (Upd [] W3 wr))
    case atStart => exact ⟨0, ga, gc, by simp, rfl, by omega, Lib.hid (by simpa using HG0.out), HUG.out⟩
    case round =>
      clear HG0 HUG
      obtain ⟨i, ga, gc, rfl, rfl, hig, HG, HUR⟩ := hrel
      have y3 := (cells4 (HUR.out.at HY3.out (by simp))).2.2.2
      by_cases hlt : i < yn
      · have hltz : (i : Int) < (yn : Int) := by omega
        have hi1 : i < yl.length := by have := HYN.out; omega
        obtain ⟨vb, vo, rfl, v0, v1⟩ := (HEV.out.stay HUR.out).ev i hi1
        have HTK : Hid (gz ++ (yl.take (i + 1)).map (fun e => e.h) = (gz ++ (yl.take i).map (fun e => e.h)) ++ [(yl[i]'hi1).h]) := Lib.hid (by rw [List.take_succ_eq_append_getElem hi1, List.map_append, List.append_assoc]; rfl)
        have HGL : Hid ((gz ++ (yl.take i).map (fun e => e.h)).length ≤ 200) := Lib.hid (by simp only [List.length_append, List.length_map, List.length_take]; have := HGZ.out; have := HEL.out; omega)
        generalize (yl[i]'hi1).h = vh at *
        generalize gz ++ (yl.take i).map (fun e => e.h) = gl at *
        have hwi : IntKind.i64.wrap ((i : Int) + 1) = (i : Int) + 1 := by have := HEL.out; rw [IntKind.wrap_i64]; omega
        have hu1 := (Upd.refl [] wr).alloc (.cells #[.int .i64 vh] 3)
        have HRZ := Lib.hid (num_cells (x := vh) (heap_alloc1 wr (.cells #[.int .i64 vh] 3)))
        have HU4 := Lib.hid (HUR.out.thn hu1)
        have HG4 := Lib.hid (hu1.row HG.out (by simp))
        have hbs : W3.heap.size ≤ (wr.alloc (.cells #[.int .i64 vh] 3)).heap.size := Nat.le_trans HUR.out.size hu1.size
        have hgl := HGL.out
        clear hu1 hi1 v0 HG
        go_wp2_with (at_builtin; go_loud (refine app_row tyN rfl _ _ rfl W3.heap.size (.slice ga gl.length gc) gl.length gl rfl HG4.out (some ⟨wr.heap.size, 0, none⟩) 1 1 [vh] rfl rfl HRZ.out (fun e => by simp at e) (by omega) hbs ?_; intro v4 w4 hown hgrow; obtain ⟨va, vc, rfl⟩ := row_shape hown; have HO4 := Lib.hid hown; have HU5 : Hid (Upd [] W3 w4) := Lib.hid (HU4.out.grown hgrow (fun k hk hl => by have := own_ge HG4.out k hk; omega)); have HLN : Hid (gl.length + 1 = (gl ++ [vh]).length) := Lib.hid (by simp); clear hown hgrow y3 v1))
        go_roundg (yn - (i + 1))
        case measure => omega
        case rel => exact ⟨i + 1, va, vc, by rw [HTK.out, ← HLN.out], by go_num, by omega, Lib.hid (by rw [HTK.out, ← HLN.out]; exact HO4.out), HU5⟩
      · have hltz : ¬ (i : Int) < (yn : Int) := by omega
        obtain rfl : i = yn := by omega
        have hall : gz ++ (yl.take i).map (fun e => e.h) = gz ++ yl.map (fun e => e.h) := by rw [List.take_of_length_le (by have := HYN.out; omega)]
        rw [hall] at HG
        rw [hall]
        clear hall
        have HGL : Hid ((gz ++ yl.map (fun e => e.h)).length ≤ 200) := Lib.hid (by simp only [List.length_append, List.length_map]; have := HGZ.out; have := HEL.out; have := HYN.out; omega)
        generalize gz ++ yl.map (fun e => e.h) = gl at *
        have HGA : Hid (∀ b, b < W3.heap.size → AvS (⟨gl, ga, gc⟩ : SlR Int) b) := Lib.hid (fun b hb => av_any HG.out hb)
        have HGR : Hid (HasS LN wr ⟨gl, ga, gc⟩) := Lib.hid (hasS_any HG.out).2
        have HZ5 := Lib.hid (HUR.out.at HZ3.out (by simp)); have HZH5 := Lib.hid (HZH.out.stay HUR.out); have HU5 := Lib.hid (HU3.out.thn HUR.out)
        have HON : Hid (OnAt wr P3 wr z) := Lib.hid ⟨HZ5.out, HZH5.out, HZAV.out, Upd.refl _ _⟩
        have HGN : Hid (Gone gl z.md ∧ OkM z.md ∧ z.md.is.length ≤ 101 + 0) := Lib.hid (by rw [HZM.out]; exact ⟨HGS2.out, HD1.out, HD2.out⟩)
        clear HZ5 HZH5 HG HYN HEL HEV hyk HGS2 HD1 HD2 HZM HZH HRS HGZ
        obtain ⟨wo, hwo⟩ : ∃ x, x = wr := ⟨_, rfl⟩
        subst hwo
        go_wp2_with fail
        clear y3
        go_loopg [15] pn (fun gk2 v15 wq => ∃ (k : Nat) (x : MdR), v15 = .int .i64 k ∧ k + gk2 = pn ∧ Hid (OnAt wo P3 wq x) ∧ Hid (Gone gl x.md ∧ OkM x.md ∧ x.md.is.length ≤ 101 + k))
        case atStart => exact ⟨0, z, rfl, by omega, HON, HGN⟩
        case round =>
          rename_i gk2
          clear HON HGN
          obtain ⟨k, x, rfl, hkg, HX, HG⟩ := hrel
          by_cases hlk : k < pn
          · have hkz : (k : Int) < (pn : Int) := by omega
            have hk1 : k < ls.length := by have := HPN.out; omega
            have HUW : Hid (Upd [] w wr) := Lib.hid (HU5.out.trans HX.out.upd (fun y hy hl => by have := HPW.out; simp at hy; omega))
            have hgs := fun c h => gone_step HG.out.1 c h
            obtain ⟨bb, oo, hla, s0, s1, s2, s3, s4, s5⟩ := (HPR.out.stay HUW.out).stp k hk1
            subst hla
            have hdo : ∀ W, Upd [] wr W → Calls Try.prog 14 #[encM x, encC ls[k].c, .int .i64 ls[k].h] W (GivesM x (doM x.md ls[k].c ls[k].h) W) := fun W hu => PDo_has x ls[k].c ls[k].h W (HX.out.has.stay hu) HG.out.2.1 (by have h := HG.out.2.2; simp only [MdR.md] at h; omega)
            have hg2 := hgs ls[k].c ls[k].h
            have hg3 := doM_ok HG.out.2.1 ls[k].c ls[k].h
            have hg4 := doM_grow x.md ls[k].c ls[k].h
            have hg5 := ev_le64 x.md ls[k].c ls[k].h
            have hg6 := HG.out.2.2
            generalize doM x.md ls[k].c ls[k].h = gk2 at *
            generalize ls[k] = sk at *
            obtain ⟨⟨ck, ct, ch, cm, cb⟩, hh⟩ := sk
            have HGN : Hid (Gone gl gk2.1 ∧ OkM gk2.1 ∧ gk2.1.is.length ≤ 101 + (k + 1)) := Lib.hid ⟨hg2.1, hg3, by omega⟩
            have HF1 : Hid (gk2.2.e = 0 → ck = 1 → gk2.2.h ∉ gl) := Lib.hid hg2.2.1
            have HF2 : Hid (gk2.2.c = true → ch ∉ gl) := Lib.hid hg2.2.2.1
            have HF3 : Hid (∀ v ∈ gk2.2.ev, v.h ∉ gl) := Lib.hid hg2.2.2.2
            have HF4 := Lib.hid hg5
            unfold encM cellsM encC at hdo
            unfold GivesM encM encR cellsM cellsR at hdo
            simp only at hdo s0 s1 s2 s3 s4 s5
            have HDO := Lib.hid hdo
            clear hdo hgs hg2 hg3 hg4 hg5 hg6 hk1
            have hbx := HX.out.bx
            unfold cellsM at hbx
            obtain ⟨x0, x1, x2, x3⟩ := cells4 hbx
            clear hbx
            have hwk : IntKind.i64.wrap ((k : Int) + 1) = (k : Int) + 1 := by rw [IntKind.wrap_i64]; omega
            have HHM := Lib.hid HX.out.has
            go_upto_region 16 with (fail)
            go_cut [16, 17] from 66 to 80 (fun v8 v9 wx => ∃ P2 Q2 x2 y2, v8 = .pointer (some ⟨P2, 0, none⟩) ∧ v9 = .pointer (some ⟨Q2, 0, none⟩) ∧ Hid (Box2 wr x gk2.1 gk2.2 P2 Q2 wx x2 y2))
            case first =>
              obtain ⟨xc, ⟨xel, xea, xec⟩, xn, ⟨xil, xia, xic⟩⟩ := x
              simp only at HDO x0 x1 x2 x3
              obtain ⟨xen, hxen⟩ : ∃ z, z = xel.length := ⟨_, rfl⟩
              obtain ⟨xin, hxin⟩ : ∃ z, z = xil.length := ⟨_, rfl⟩
              rw [← hxen, ← hxin] at HDO
              rw [← hxen] at x1
              rw [← hxin] at x3
              clear hxen hxin
              obtain ⟨g1, g2⟩ := gk2
              simp only at HDO ⊢
              have HKP : Hid (∀ wz, Upd [] wr wz → wz.cell? ⟨P3, 0, none⟩ = some (.int .i64 xc) ∧ wz.cell? ⟨P3, 1, none⟩ = some (.slice xea xen xec) ∧ wz.cell? ⟨P3, 2, none⟩ = some (.int .i64 xn) ∧ wz.cell? ⟨P3, 3, none⟩ = some (.slice xia xin xic) ∧ wz.cell? ⟨bb, oo + k * 6, none⟩ = some (.int .i64 ck) ∧ wz.cell? ⟨bb, oo + k * 6 + 1, none⟩ = some (.int .i64 ct) ∧ wz.cell? ⟨bb, oo + k * 6 + 2, none⟩ = some (.int .i64 ch) ∧ wz.cell? ⟨bb, oo + k * 6 + 3, none⟩ = some (.int .i64 cm) ∧ wz.cell? ⟨bb, oo + k * 6 + 4, none⟩ = some (.int .i64 cb) ∧ wz.cell? ⟨bb, oo + k * 6 + 5, none⟩ = some (.int .i64 hh)) := Lib.hid (fun wz hu => ⟨hu.cell x0 (by simp), hu.cell x1 (by simp), hu.cell x2 (by simp), hu.cell x3 (by simp), hu.cell s0 (by simp), hu.cell s1 (by simp), hu.cell s2 (by simp), hu.cell s3 (by simp), hu.cell s4 (by simp), hu.cell s5 (by simp)⟩)
              go_region_held3 (fun wz => wz.cell? ⟨P3, 0, none⟩ = some (.int .i64 xc) ∧ wz.cell? ⟨P3, 1, none⟩ = some (.slice xea xen xec) ∧ wz.cell? ⟨P3, 2, none⟩ = some (.int .i64 xn) ∧ wz.cell? ⟨P3, 3, none⟩ = some (.slice xia xin xic) ∧ wz.cell? ⟨bb, oo + k * 6, none⟩ = some (.int .i64 ck) ∧ wz.cell? ⟨bb, oo + k * 6 + 1, none⟩ = some (.int .i64 ct) ∧ wz.cell? ⟨bb, oo + k * 6 + 2, none⟩ = some (.int .i64 ch) ∧ wz.cell? ⟨bb, oo + k * 6 + 3, none⟩ = some (.int .i64 cm) ∧ wz.cell? ⟨bb, oo + k * 6 + 4, none⟩ = some (.int .i64 cb) ∧ wz.cell? ⟨bb, oo + k * 6 + 5, none⟩ = some (.int .i64 hh)) (first | (with_reducible exact ⟨x0, x1, x2, x3, s0, s1, s2, s3, s4, s5⟩) | ((with_reducible refine HKP.out _ ?_); (repeat (first | with_reducible exact Upd.refl [] _ | with_reducible refine Upd.setCell ?_ (fun hl => absurd hl (Nat.not_lt.2 (by first | (with_reducible exact Nat.le_refl _) | (dsimp only; omega)))) _ | with_reducible refine Upd.drew ?_ | with_reducible refine Upd.alloc ?_ _ | refine Upd.trans (T := []) ?_ (by assumption) (by simp))))) (first
                | (go_at_call 14; (with_reducible refine (HDO.out _ ?_).mono ?_); (repeat (first | with_reducible exact Upd.refl [] _ | with_reducible refine Upd.setCell ?_ (fun hl => absurd hl (Nat.not_lt.2 (by first | (with_reducible exact Nat.le_refl _) | (dsimp only; omega)))) _ | with_reducible refine Upd.drew ?_ | with_reducible refine Upd.alloc ?_ _ | refine Upd.trans (T := []) ?_ (by assumption) (by simp))); rintro e w' ⟨x2, y2, rfl, hD⟩; have hu := hD.upd; (first | have hu1 : Upd [] (wr.drew) w' := (by with_reducible exact hu) | (have hu1 : Upd [] ((wr.alloc (.cells #[.int .i64 0, .slice none 0 0, .int .i64 0, .slice none 0 0] 25)).drew) w' := (by with_reducible exact hu); have pb := hu1.at (Upd.at (Upd.drew (Upd.refl [] _)) (heap_alloc1 wr (.cells #[.int .i64 0, .slice none 0 0, .int .i64 0, .slice none 0 0] 25)) (by simp)) (by simp); obtain ⟨y0, y1, y2', y3⟩ := cells4 pb; obtain ⟨z0, z1, z2, z3⟩ := free4 pb; have hlt := lt_block pb; have hne : ¬ wr.heap.size = w'.heap.size := (by omega); have HPB := Lib.hid pb; clear pb) | (have hu1 : Upd [] ((wr.alloc (.cells #[.int .i64 0, .int .i64 0, .bool false, .slice none 0 0] 34)).drew) w' := (by with_reducible exact hu); have pb := hu1.at (Upd.at (Upd.drew (Upd.refl [] _)) (heap_alloc1 wr (.cells #[.int .i64 0, .int .i64 0, .bool false, .slice none 0 0] 34)) (by simp)) (by simp); obtain ⟨y0, y1, y2', y3⟩ := cells4 pb; obtain ⟨z0, z1, z2, z3⟩ := free4 pb; have hlt := lt_block pb; have hne : ¬ wr.heap.size = w'.heap.size := (by omega); have HPB := Lib.hid pb; clear pb) | (have hu1 : Upd [] (((wr.alloc (.cells #[.int .i64 0, .slice none 0 0, .int .i64 0, .slice none 0 0] 25)).alloc (.cells #[.int .i64 0, .int .i64 0, .bool false, .slice none 0 0] 34)).drew) w' := (by with_reducible exact hu); have pb := hu1.at (Upd.at (Upd.drew (Upd.refl [] _)) ((two_boxes wr (.cells #[.int .i64 0, .slice none 0 0, .int .i64 0, .slice none 0 0] 25) (.cells #[.int .i64 0, .int .i64 0, .bool false, .slice none 0 0] 34)).2.1) (by simp)) (by simp); have qb := hu1.at (Upd.at (Upd.drew (Upd.refl [] _)) ((two_boxes wr (.cells #[.int .i64 0, .slice none 0 0, .int .i64 0, .slice none 0 0] 25) (.cells #[.int .i64 0, .int .i64 0, .bool false, .slice none 0 0] 34)).2.2.1) (by simp)) (by simp); obtain ⟨y0, y1, y2', y3⟩ := cells4 pb; obtain ⟨z0, z1, z2, z3⟩ := free4 pb; obtain ⟨t0, t1, t2, t3⟩ := cells4 qb; obtain ⟨u0, u1, u2, u3⟩ := free4 qb; have HPB := Lib.hid pb; have HQB := Lib.hid qb; clear pb qb) | (have hu1 : Upd [] (((wr.alloc (.cells #[.int .i64 0, .int .i64 0, .bool false, .slice none 0 0] 34)).alloc (.cells #[.int .i64 0, .slice none 0 0, .int .i64 0, .slice none 0 0] 25)).drew) w' := (by with_reducible exact hu); have pb := hu1.at (Upd.at (Upd.drew (Upd.refl [] _)) ((two_boxes wr (.cells #[.int .i64 0, .int .i64 0, .bool false, .slice none 0 0] 34) (.cells #[.int .i64 0, .slice none 0 0, .int .i64 0, .slice none 0 0] 25)).2.1) (by simp)) (by simp); have qb := hu1.at (Upd.at (Upd.drew (Upd.refl [] _)) ((two_boxes wr (.cells #[.int .i64 0, .int .i64 0, .bool false, .slice none 0 0] 34) (.cells #[.int .i64 0, .slice none 0 0, .int .i64 0, .slice none 0 0] 25)).2.2.1) (by simp)) (by simp); obtain ⟨y0, y1, y2', y3⟩ := cells4 pb; obtain ⟨z0, z1, z2, z3⟩ := free4 pb; obtain ⟨t0, t1, t2, t3⟩ := cells4 qb; obtain ⟨u0, u1, u2, u3⟩ := free4 qb; have HPB := Lib.hid pb; have HQB := Lib.hid qb; clear pb qb) | (trace_state; fail))))
              all_goals go_wp2_with fail
              all_goals go_meet
              case rel =>
                refine ⟨_, _, x2, y2, rfl, rfl, ?_⟩
                have hb := b2_none HHM.out (by (repeat (first | with_reducible exact Upd.refl [] _ | with_reducible refine Upd.setCell ?_ (fun hl => absurd hl (Nat.not_lt.2 (by first | (with_reducible exact Nat.le_refl _) | (dsimp only; omega)))) _ | with_reducible refine Upd.drew ?_ | with_reducible refine Upd.alloc ?_ _ | refine Upd.trans (T := []) ?_ (by assumption) (by simp)))) hD
                exact Lib.hid hb
              case rel =>
                refine ⟨_, _, x2, y2, rfl, rfl, ?_⟩
                have hb := b2_enon HHM.out (by (repeat (first | with_reducible exact Upd.refl [] _ | with_reducible refine Upd.setCell ?_ (fun hl => absurd hl (Nat.not_lt.2 (by first | (with_reducible exact Nat.le_refl _) | (dsimp only; omega)))) _ | with_reducible refine Upd.drew ?_ | with_reducible refine Upd.alloc ?_ _ | refine Upd.trans (T := []) ?_ (by assumption) (by simp)))) hD
                exact Lib.hid hb
              case rel =>
                refine ⟨_, _, x2, y2, rfl, rfl, ?_⟩
                have hb := b2_mod HHM.out (by (repeat (first | with_reducible exact Upd.refl [] _ | with_reducible refine Upd.setCell ?_ (fun hl => absurd hl (Nat.not_lt.2 (by first | (with_reducible exact Nat.le_refl _) | (dsimp only; omega)))) _ | with_reducible refine Upd.drew ?_ | with_reducible refine Upd.alloc ?_ _ | refine Upd.trans (T := []) ?_ (by assumption) (by simp)))) hD (Nat.le_refl _) (by simp <;> omega) HPB.out
                exact Lib.hid hb
              case rel =>
                refine ⟨_, _, x2, y2, rfl, rfl, ?_⟩
                have hb := b2_two HHM.out (by (repeat (first | with_reducible exact Upd.refl [] _ | with_reducible refine Upd.setCell ?_ (fun hl => absurd hl (Nat.not_lt.2 (by first | (with_reducible exact Nat.le_refl _) | (dsimp only; omega)))) _ | with_reducible refine Upd.drew ?_ | with_reducible refine Upd.alloc ?_ _ | refine Upd.trans (T := []) ?_ (by assumption) (by simp)))) hD (by omega) (Nat.le_refl _) (by simp <;> omega) (by omega) (by simp <;> omega) HPB.out HQB.out
                exact Lib.hid hb
              case rel =>
                refine ⟨_, _, x2, y2, rfl, rfl, ?_⟩
                have hb := b2_res HHM.out (by (repeat (first | with_reducible exact Upd.refl [] _ | with_reducible refine Upd.setCell ?_ (fun hl => absurd hl (Nat.not_lt.2 (by first | (with_reducible exact Nat.le_refl _) | (dsimp only; omega)))) _ | with_reducible refine Upd.drew ?_ | with_reducible refine Upd.alloc ?_ _ | refine Upd.trans (T := []) ?_ (by assumption) (by simp)))) hD (Nat.le_refl _) (by simp <;> omega) HPB.out
                exact Lib.hid hb
              case rel =>
                refine ⟨_, _, x2, y2, rfl, rfl, ?_⟩
                have hb := b2_two HHM.out (by (repeat (first | with_reducible exact Upd.refl [] _ | with_reducible refine Upd.setCell ?_ (fun hl => absurd hl (Nat.not_lt.2 (by first | (with_reducible exact Nat.le_refl _) | (dsimp only; omega)))) _ | with_reducible refine Upd.drew ?_ | with_reducible refine Upd.alloc ?_ _ | refine Upd.trans (T := []) ?_ (by assumption) (by simp)))) hD (by omega) (by omega) (by simp <;> omega) (Nat.le_refl _) (by simp <;> omega) HQB.out HPB.out
                exact Lib.hid hb
            case rest =>
              obtain ⟨P4, Q4, x4, ⟨qe, qh, qc, ⟨ql, qa, qk⟩⟩, rfl, rfl, HBX⟩ := hcut
              obtain ⟨w5, hw5⟩ : ∃ x, x = wc := ⟨_, rfl⟩
              subst hw5
              have hqr := HBX.out.did.rs
              simp only [RsR.rs] at hqr
              rw [← hqr] at HF1 HF2 HF3 HF4
              simp only at HF1 HF2 HF3 HF4
              clear hqr
              have hup := HBX.out.did.upd
              have HON5 := Lib.hid (HX.out.stay hup)
              have HQB := Lib.hid HBX.out.bq
              have HQR := Lib.hid HBX.out.did.ev.row
              have HQL := Lib.hid HBX.out.did.ev.le
              have HGR5 : Hid (HasS LN w5 ⟨gl, ga, gc⟩) := Lib.hid ((HGR.out.keep1 HX.out.upd (HGA.out P3 HBS.out)).stay hup)
              have hha := fun v => RHas_has ga gc gl v w5 HGR5.out.row (by have := HGL.out; omega)
              have HHA := Lib.hid hha
              have s0 := hup.cell s0 (by simp); have s2 := hup.cell s2 (by simp)
              clear s1 s3 s4 s5 x0 x1 x2 x3 hup hha
              have hqb := HQB.out
              unfold cellsR at hqb
              simp only at hqb
              obtain ⟨qn, hqn⟩ : ∃ n, n = ql.length := ⟨_, rfl⟩
              rw [← hqn] at hqb
              have HQN := Lib.hid hqn
              have HQ5 := Lib.hid hqb
              clear hqb hqn HQB
              obtain ⟨q0, q1, q2, q3⟩ := cells4 HQ5.out
              go_upto_region 17 with (fail)
              go_cut [112] from 81 to 112 (fun v wx => v = .bool false ∧ wx = w5)
              case first =>
                by_cases he : qe = 0
                · have e1 : (qe == 0) = true := by simpa using he
                  by_cases hk : ck = 1
                  · have e2 : (ck == 1) = true := by simpa using hk
                    have hh1 := HHA.out qh
                    rw [decide_eq_false (HF1.out he hk)] at hh1
                    have HH1 := Lib.hid hh1
                    clear hh1
                    subst he
                    subst hk
                    cases qc with
                    | false =>
                      go_wp2_with (go_at_call 23; ((first | with_reducible refine (HH1.out).mono ?_); rintro e w9 ⟨rfl, rfl⟩))
                      go_meet
                      case rel => exact ⟨rfl, rfl⟩
                    | true =>
                      have hh2 := HHA.out ch
                      rw [decide_eq_false (HF2.out rfl)] at hh2
                      have HH2 := Lib.hid hh2
                      clear hh2
                      go_wp2_with (go_at_call 23; ((first | with_reducible refine (HH1.out).mono ?_ | with_reducible refine (HH2.out).mono ?_); rintro e w9 ⟨rfl, rfl⟩))
                      go_meet
                      case rel => exact ⟨rfl, rfl⟩
                  · have e2 : (ck == 1) = false := by simpa using hk
                    subst he
                    cases qc with
                    | false =>
                      go_wp2_with fail
                      go_meet
                      case rel => exact ⟨rfl, rfl⟩
                    | true =>
                      have hh2 := HHA.out ch
                      rw [decide_eq_false (HF2.out rfl)] at hh2
                      have HH2 := Lib.hid hh2
                      clear hh2
                      go_wp2_with (go_at_call 23; ((first | with_reducible refine (HH2.out).mono ?_); rintro e w9 ⟨rfl, rfl⟩))
                      go_meet
                      case rel => exact ⟨rfl, rfl⟩
                · have e1 : (qe == 0) = false := by simpa using he
                  cases qc with
                  | false =>
                    go_wp2_with fail
                    go_meet
                    case rel => exact ⟨rfl, rfl⟩
                  | true =>
                    have hh2 := HHA.out ch
                    rw [decide_eq_false (HF2.out rfl)] at hh2
                    have HH2 := Lib.hid hh2
                    clear hh2
                    go_wp2_with (go_at_call 23; ((first | with_reducible refine (HH2.out).mono ?_); rintro e w9 ⟨rfl, rfl⟩))
                    go_meet
                    case rel => exact ⟨rfl, rfl⟩
              case rest =>
                obtain ⟨rfl, rfl⟩ := hcut
                clear s0 s2 q0 q1 q2 q3
                go_wp2_with fail
                go_loopg [18] qn (fun gk3 v18 wz => ∃ j : Nat, v18 = .int .i64 j ∧ j + gk3 = qn ∧ wc = wz)
                case atStart => exact ⟨0, rfl, by omega, rfl⟩
                case round =>
                  rename_i gk3
                  obtain ⟨j, rfl, hjg, rfl⟩ := hrel
                  obtain ⟨q0, q1, q2, q3⟩ := cells4 HQ5.out
                  clear q0 q1 q2
                  by_cases hjl : j < qn
                  · have hjz : (j : Int) < (qn : Int) := by omega
                    have hj1 : j < ql.length := by have := HQN.out; omega
                    have hjk : j < qk := by have h : ql.length ≤ qk := HQL.out; have h2 := HQN.out; omega
                    obtain ⟨vb, vo, hva, v0, v1⟩ := HQR.out.ev j hj1
                    subst hva
                    have hh3 := HHA.out (ql[j]).h
                    rw [decide_eq_false (HF3.out _ (List.getElem_mem hj1))] at hh3
                    have HH3 := Lib.hid hh3
                    generalize (ql[j]).h = vh at *
                    generalize (ql[j]).t = vt at *
                    clear hh3 hj1
                    have hwj : IntKind.i64.wrap ((j : Int) + 1) = (j : Int) + 1 := by have h := HF4.out; have h2 := HQN.out; rw [IntKind.wrap_i64]; omega
                    go_wp2_with (go_at_call 23; (with_reducible refine (HH3.out).mono ?_); rintro e w9 ⟨rfl, rfl⟩)
                    go_roundg (qn - (j + 1))
                    case measure => omega
                    case rel => exact ⟨j + 1, by go_num, by omega, rfl⟩
                  · have hjz : ¬ (j : Int) < (qn : Int) := by omega
                    have hpb := HBX.out.bp
                    unfold cellsM at hpb
                    obtain ⟨a0, a1, a2, a3⟩ := cells4 hpb
                    have hq0 := HON5.out.bx
                    unfold cellsM at hq0
                    obtain ⟨t0, t1, t2, t3⟩ := cells4 hq0
                    obtain ⟨z0, z1, z2, z3⟩ := free4 hq0
                    have HQ0 := Lib.hid hq0
                    clear hpb hq0
                    go_upto_region 15 with (fail)
                    have k8 := stored4 HQ0.out (.int .i64 x4.cap) (.slice x4.es.ad x4.es.l.length x4.es.cap) (.int .i64 x4.nx) (.slice x4.is.ad x4.is.l.length x4.is.cap)
                    have u8 := upd_set4 wc P3 (.int .i64 x4.cap) (.slice x4.es.ad x4.es.l.length x4.es.cap) (.int .i64 x4.nx) (.slice x4.is.ad x4.is.l.length x4.is.cap)
                    with_reducible generalize (((wc.setCell ⟨P3, 0, none⟩ (.int .i64 x4.cap)).setCell ⟨P3, 1, none⟩ (.slice x4.es.ad x4.es.l.length x4.es.cap)).setCell ⟨P3, 2, none⟩ (.int .i64 x4.nx)).setCell ⟨P3, 3, none⟩ (.slice x4.is.ad x4.is.l.length x4.is.cap) = w6 at k8 u8 ⊢
                    have HX2 : Hid (OnAt wo P3 w6 x4) := Lib.hid (HX.out.step HBX.out u8 k8)
                    have HG2 : Hid (Gone gl x4.md ∧ OkM x4.md ∧ x4.md.is.length ≤ 101 + (k + 1)) := Lib.hid (by rw [HBX.out.did.md]; exact HGN.out)
                    clear a0 a1 a2 a3 t0 t1 t2 t3 z0 z1 z2 z3 k8 u8 q3
                    go_wp2_with fail
                    go_roundg (pn - (k + 1))
                    case measure => omega
                    case rel => exact ⟨k + 1, x4, by go_num, by omega, HX2, HG2⟩
          · have hkz : ¬ (k : Int) < (pn : Int) := by omega
            have HUW : Hid (Upd [] w wr) := Lib.hid (HU5.out.trans HX.out.upd (fun y hy hl => by have := HPW.out; simp at hy; omega))
            go_wp2_with fail
            go_ret
            exact ⟨rfl, HUW.out⟩
end Go.Proofs.Ytpneljhplbkdkaa
