
/- Contract: the program's Next: what it gives is new and apart. -/
import Derived.Test.YtpabapjodcafkaaGreatUO
namespace Go.Proofs.YtpabapjodcafkaaGreat
open Go.RowKit Go.Lib

/-- What Next gives: a rung of new blocks, and a row of the call's own apart from it. -/
structure NextO (w : World) (p : Rg × List It × Int × Bool) (w' : World) (r' : RgR) (s : SlR It) : Prop where
  eq : r'.rg = p.1
  seq : s.l = p.2.1
  has : HasR w' r'
  av : ∀ b, b < w.heap.size → AvR r' b
  own : w'.ownsRow w.heap.size 38 3 s.v s.l.length (LI.flat s.l)
  ap : ∀ x, s.v.ownBlock = some x → AvR r' x
  upd : Upd [] w w'
def GivesRO (_r : RgR) (p : Rg × List It × Int × Bool) (w : World) (e : Ending) (w' : World) : Prop := ∃ (r' : RgR) (s : SlR It), e = .returned (.tuple #[encR r', .slice s.ad s.l.length s.cap, .int .i64 p.2.2.1, .bool p.2.2.2]) ∧ NextO w p w' r' s
theorem Part.apart {w w' : World} {bl sl : List (SlR It)} {k g : Nat} (h : Part w bl k w' sl g) {i : Nat} (hi : i < sl.length) {x : Nat} (hx : sl[i].v.ownBlock = some x) {fr wd cu : Int} {c : Nat} : AvR ⟨fr, wd, cu, ⟨sl.set i ⟨[], none, 0⟩, some ⟨g, 0, none⟩, c⟩⟩ x := by
  obtain ⟨cur, hc, _⟩ := h.held.ex
  refine ⟨fun _ a ea he => ?_, fun y hy => ?_⟩
  · obtain rfl := Option.some.inj ea
    simp only at he
    subst he
    exact ne_own hc (h.own _ (List.getElem_mem hi)) (by decide) hx
  · obtain ⟨j, hj, rfl⟩ := List.mem_iff_getElem.1 hy
    simp only [List.length_set] at hj
    by_cases e : i = j
    · subst e
      rw [List.getElem_set_self]
      exact fun h => absurd rfl h
    · rw [List.getElem_set_ne e]
      refine av_of_own fun hx2 => ?_
      rcases Nat.lt_or_gt_of_ne e with hij | hij
      · exact h.dis i j hi hj hij x hx hx2
      · exact h.dis j i hj hi hij x hx2 hx
theorem Part.own_g {w w' : World} {bl sl : List (SlR It)} {k g : Nat} (h : Part w bl k w' sl g) {s : SlR It} (hs : s ∈ sl) : s.v.ownBlock ≠ some g := by
  obtain ⟨cur, hc, _⟩ := h.held.ex
  exact ne_own hc (h.own s hs) (by decide)
set_option maxRecDepth 100000 in
set_option maxHeartbeats 8000000 in
theorem NextO_has (r : RgR) (w : World) (ha : HasR w r) (hg : GoodR r.rg) (hl : lenL r.rg.bs ≤ 100000) :
    Calls Tryz.prog 79 #[encR r] w (GivesRO r (nextR r.rg) w) := by
  have hlen : r.bk.l.length = 8 := by have := hg.len; simpa [RgR.rg, rowsOf_length] using this
  have HBL : Hid (∀ i (h : i < r.bk.l.length), r.bk.l[i].l.length ≤ 100000) := fun i h => by
    have h1 := len_le (bs := rowsOf r.bk.l) (k := i) (by rw [rowsOf_length]; exact h)
    rw [rowsOf_get h] at h1
    exact Nat.le_trans h1 hl
  have hCL := fun W (hu : Upd [] w W) => clone_has r W (ha.stay hu) (by omega) (fun s hs => by obtain ⟨i, hi, rfl⟩ := List.mem_iff_getElem.1 hs; have := HBL.out i hi; omega)
  have hST := fun (i : Nat) (hi : i < 8) W => start_has r (i : Int) W ⟨hg.fr0, hg.fr1⟩ (by have h1 := hg.prod (i := i) (by omega) (by omega); have h2 := hg.wd1; simp only [RgR.rg] at h1 h2; omega)
  have HPU : Hid (∀ p, nextR r.rg = p → ∀ e W, GivesRO r p w e W → GivesRO r (nextR r.rg) w e W) := fun p hp e W h => by rw [hp]; exact h
  obtain ⟨fr, wd, cu, bl, ba, bc⟩ := r
  have HL8 := Lib.hid hlen
  simp only at HL8 HBL
  unfold encR at hCL hST ⊢
  simp only at hlen hCL hST
  rw [hlen] at hCL hST ⊢
  have HCL := Lib.hid hCL
  have HST := Lib.hid hST
  clear ha hg hlen hCL hST hl
  go_enter Tryz.func79, Tryz.ntmps79
  go_upto_region 1 with (fail)
  generalize hA : (Obj.cells #[.int .i64 fr, .int .i64 wd, .int .i64 cu, .slice ba 8 bc] 59 : Obj) = A
  generalize hC : (Obj.cells #[.int .i64 0, .int .i64 0, .int .i64 0, .slice none 0 0] 59 : Obj) = C
  obtain ⟨hu, b0, b2, hsz⟩ := two_boxes w A C
  generalize (w.alloc A).alloc C = W at *
  generalize hH : w.heap.size = H at *
  rw [← hA] at b0
  rw [← hC] at b2
  have HU := Lib.hid hu; have HB0 := Lib.hid b0; have HB2 := Lib.hid b2; have HH := Lib.hid hH; have HSZ := Lib.hid hsz
  obtain ⟨c0, c1, c2, c3⟩ := cells4 b0
  clear hu hA hC b0 b2 hH hsz
  go_upto_region 2 with (go_at_call 56; (with_reducible refine (HCL.out _ HU.out).mono ?_); rintro e w1 ⟨sl, g, rfl, hP⟩)
  have hpu := (Upd.refl [] w1).alloc (.cells #[.int .i64 fr, .int .i64 wd, .int .i64 cu, .slice (some ⟨g, 0, none⟩) 8 8] 59)
  have bp := heap_alloc1 w1 (.cells #[.int .i64 fr, .int .i64 wd, .int .i64 cu, .slice (some ⟨g, 0, none⟩) 8 8] 59)
  have HP := Lib.hid (hP.stay hpu)
  have hWU := hP.upd.thn hpu
  have hPs : W.heap.size ≤ w1.heap.size := hP.upd.size
  generalize w1.alloc (.cells #[.int .i64 fr, .int .i64 wd, .int .i64 cu, .slice (some ⟨g, 0, none⟩) 8 8] 59) = W1 at *
  generalize w1.heap.size = P at *
  have HWU := Lib.hid hWU; have HBP := Lib.hid bp
  have hPH : H + 1 < P := by have := HSZ.out; omega
  have q0 := hWU.at HB0.out (by simp); have q2 := hWU.at HB2.out (by simp)
  have HQ0 := Lib.hid q0; have HQ2 := Lib.hid q2
  have HUW1 : Hid (Upd [] w W1) := HU.out.thn hWU
  clear c0 c1 c2 c3 hP hpu hWU hPs q0 q2
  obtain ⟨p0, p1, p2, p3⟩ := cells4 bp
  obtain ⟨y0, y1, y2, y3⟩ := free4 bp
  clear bp
  have HNG := Lib.hid (HP.out.neBox HBP.out)
  have HNH := Lib.hid (HP.out.neBox HQ2.out)
  have HN0 := Lib.hid (HP.out.neBox HQ0.out)
  go_wp2_with fail
  go_loopg [14] 8 (fun gk vi wr => ∃ k : Nat, vi = .int .i64 k ∧ k + gk = 8 ∧ Hid (∀ j, j < k → bAt (rowsOf bl) j = []) ∧ W1 = wr)
  case atStart => exact ⟨0, rfl, by omega, fun j hj => by omega, rfl⟩
  case round =>
    obtain ⟨k, rfl, hkg, HK, rfl⟩ := hrel
    by_cases hlt : k < 8
    · have hltz : (k : Int) < 8 := by omega
      have hk1 : k < bl.length := by have := HL8.out; omega
      have hisl : k < sl.length := by rw [HP.out.len]; exact hk1
      obtain ⟨b0, zz⟩ := HP.out.held.cell k hisl 0 _ rfl
      rw [show k * LB.k + 0 = k from by show k * 1 + 0 = _; omega] at b0 zz
      have hdn := HP.out.done k hisl hk1 hlt
      have hro := rowsOf_at hk1
      rw [← hdn] at hro
      have hir := HP.out.has _ (List.getElem_mem hisl)
      have hbl := HBL.out k hk1
      rw [← hdn] at hbl
      have hmem := List.getElem_mem hisl
      obtain ⟨bi, hbi⟩ : ∃ x, x = sl[k]'hisl := ⟨_, rfl⟩
      rw [← hbi] at b0 hro hir hbl hmem
      obtain ⟨il, am, cm⟩ := bi
      have HIR := Lib.hid hir; have HRO := Lib.hid hro; have HME := Lib.hid hmem; have HBI := Lib.hid hbi
      simp only at b0 HRO hbl
      generalize hlm : il.length = m at *
      have HLM := Lib.hid hlm
      clear hir hbi hlm hdn hro hmem
      by_cases hm : m = 0
      · have hd : decide (0 < m) = false := by simp; omega
        have HM := Lib.hid hm
        clear hm
        go_wp2_with fail
        go_roundg (gk - 1)
        case measure => omega
        case rel => exact ⟨k + 1, by go_num, by omega, fun j hj => by
          by_cases hj2 : j = k
          · subst hj2
            rw [HRO.out]
            exact List.eq_nil_of_length_eq_zero (by rw [HLM.out, HM.out])
          · exact HK.out j (by omega), rfl⟩
      · have hd : decide (0 < m) = true := by simp; omega
        have HM := Lib.hid hm
        clear hm
        have hwk : IntKind.i64.wrap ((k : Int) + 1) = (k : Int) + 1 := by rw [IntKind.wrap_i64]; omega
        go_upto_region 7 with (fail)
        have hp2 : Part W bl bl.length W1 sl g := by rw [HL8.out]; exact HP.out
        have hput := hp2.put (w2 := W1) hisl nilB (Upd.refl _ _) (World.ownsRow_nil _ _ _ _)
        simp only [nilB, SlR.v, List.length_nil] at hput
        have hUg := upd_set1 W1 g k (.slice none 0 0)
        have hng := HNG.out
        have hnh := HNH.out
        have hn0 := HN0.out
        have qp := hUg.at HBP.out (by simpa using fun e => hng e.symm)
        have q2 := hUg.at HQ2.out (by simpa using fun e => hnh e.symm)
        have q0 := hUg.at HQ0.out (by simpa using fun e => hn0 e.symm)
        have HI2 := Lib.hid (HIR.out.keep1 hUg (HP.out.avG _ HME.out))
        have HPT := Lib.hid hput
        generalize W1.setCell ⟨g, k, none⟩ (.slice none 0 0) = w2 at hUg qp q2 q0 HI2 HPT ⊢
        have HQP := Lib.hid qp; have HQ22 := Lib.hid q2; have HQ02 := Lib.hid q0; have HUG := Lib.hid hUg
        clear p0 p1 p2 p3 y0 y1 y2 y3 b0 zz hput hp2 hng hnh hn0 hUg
        obtain ⟨p0, p1, p2, p3⟩ := cells4 qp
        obtain ⟨y0, y1, y2, y3⟩ := free4 qp
        clear qp q2 q0
        go_upto_region 8 with (fail)
        have bp : (w2.setCell ⟨P, 2, none⟩ (.int .i64 (k + 1))).heap[P]? = some (.cells #[.int .i64 fr, .int .i64 wd, .int .i64 (k + 1), .slice (some ⟨g, 0, none⟩) 8 8] 59 (0, 0)) := setCell_block HQP.out _
        have hu8 := upd_set1 w2 P 2 (.int .i64 (k + 1))
        generalize w2.setCell ⟨P, 2, none⟩ (.int .i64 (k + 1)) = w3 at bp hu8 ⊢
        have q0 := hu8.at HQ02.out (by simp; omega)
        have q2 := hu8.at HQ22.out (by simp; omega)
        have HQ3 := Lib.hid q2; have HU8 := Lib.hid hu8
        clear p0 p1 p2 p3 y0 y1 y2 y3
        obtain ⟨p0, p1, p2, p3⟩ := cells4 bp
        obtain ⟨c0, c1, c2, c3⟩ := cells4 q0
        obtain ⟨e0, e1, e2, e3⟩ := cells4 q2
        obtain ⟨z0, z1, z2, z3⟩ := free4 q2
        have hkp := Lib.hid (fun W (hu : Upd [H + 1] w3 W) => (⟨hu.cell p0 (by simp; omega), hu.cell p1 (by simp; omega), hu.cell p2 (by simp; omega), hu.cell p3 (by simp; omega), hu.cell c0 (by simp), hu.cell c1 (by simp), hu.cell c2 (by simp), hu.cell c3 (by simp)⟩ : W.cell? ⟨P, 0, none⟩ = some (.int .i64 fr) ∧ W.cell? ⟨P, 1, none⟩ = some (.int .i64 wd) ∧ W.cell? ⟨P, 2, none⟩ = some (.int .i64 (k + 1)) ∧ W.cell? ⟨P, 3, none⟩ = some (.slice (some ⟨g, 0, none⟩) 8 8) ∧ W.cell? ⟨H, 0, none⟩ = some (.int .i64 fr) ∧ W.cell? ⟨H, 1, none⟩ = some (.int .i64 wd) ∧ W.cell? ⟨H, 2, none⟩ = some (.int .i64 cu) ∧ W.cell? ⟨H, 3, none⟩ = some (.slice ba 8 bc)))
        have HSTK := Lib.hid (HST.out k hlt)
        clear bp q0 q2 hu8
        go_region_held3 (fun wz => wz.cell? ⟨P, 0, none⟩ = some (.int .i64 fr) ∧ wz.cell? ⟨P, 1, none⟩ = some (.int .i64 wd) ∧ wz.cell? ⟨P, 2, none⟩ = some (.int .i64 (k + 1)) ∧ wz.cell? ⟨P, 3, none⟩ = some (.slice (some ⟨g, 0, none⟩) 8 8) ∧ wz.cell? ⟨H, 0, none⟩ = some (.int .i64 fr) ∧ wz.cell? ⟨H, 1, none⟩ = some (.int .i64 wd) ∧ wz.cell? ⟨H, 2, none⟩ = some (.int .i64 cu) ∧ wz.cell? ⟨H, 3, none⟩ = some (.slice ba 8 bc)) (first | exact ⟨p0, p1, p2, p3, c0, c1, c2, c3⟩ | (refine hkp.out _ ?_; (repeat (first | exact Upd.refl _ _ | refine Upd.drew ?_ | refine Upd.setCell ?_ (by simp) _ | refine Upd.trans (T := []) ?_ (by assumption) (by simp))))) (first | (go_at_call 55; (with_reducible refine (HSTK.out _).mono ?_); rintro e w' ⟨rfl, hus⟩; try (have qz := hus.at HQ3.out (by simp); obtain ⟨x0, x1, x2, x3⟩ := cells4 qz; obtain ⟨v0, v1, v2, v3⟩ := free4 qz; clear qz)))
        have pf := stored4 (hus.at HQ3.out (by simp)) (.int .i64 fr) (.int .i64 wd) (.int .i64 (k + 1)) (.slice (some ⟨g, 0, none⟩) 8 8)
        have hU9 := ((Upd.refl [H + 1] w3).drew.trans hus (by simp)).trans (upd_set4 w' (H + 1) (.int .i64 fr) (.int .i64 wd) (.int .i64 (k + 1)) (.slice (some ⟨g, 0, none⟩) 8 8)) (fun x hx _ => hx)
        generalize ((((w'.setCell ⟨H + 1, 0, none⟩ (.int .i64 fr)).setCell ⟨H + 1, 1, none⟩ (.int .i64 wd)).setCell ⟨H + 1, 2, none⟩ (.int .i64 (k + 1))).setCell ⟨H + 1, 3, none⟩ (.slice (some ⟨g, 0, none⟩) 8 8)) = w4 at pf hU9 ⊢
        have HPF := Lib.hid pf; have HU9 := Lib.hid hU9
        clear p0 p1 p2 p3 c0 c1 c2 c3 e0 e1 e2 e3 z0 z1 z2 z3 x0 x1 x2 x3 v0 v1 v2 v3 hus pf hU9
        go_wp2_with fail
        obtain ⟨r0, r1, r2, r3⟩ := cells4 HPF.out
        have hh := HH.out
        have hsz := HSZ.out
        obtain ⟨t1, t2, t3, t4⟩ := HPT.out
        have havP : AvR ⟨fr, wd, (k : Int) + 1, ⟨sl.set k ⟨[], none, 0⟩, some ⟨g, 0, none⟩, bl.length⟩⟩ P := avR_of HNG.out (avs_set (HP.out.avBox HBP.out) (avS_nilB P))
        have havH : AvR ⟨fr, wd, (k : Int) + 1, ⟨sl.set k ⟨[], none, 0⟩, some ⟨g, 0, none⟩, bl.length⟩⟩ (H + 1) := avR_of HNH.out (avs_set (HP.out.avBox HQ2.out) (avS_nilB _))
        have hhas : HasR w4 ⟨fr, wd, (k : Int) + 1, ⟨sl.set k ⟨[], none, 0⟩, some ⟨g, 0, none⟩, bl.length⟩⟩ := (HasR.keep1 (w := w2) ⟨t1, t2⟩ HU8.out havP).keep1 HU9.out havH
        have hgg : W.heap.size ≤ g := HP.out.ge
        have hUF : Upd [] w w4 := ((HU.out.thn t4).new HU8.out (by omega)).new HU9.out (by omega)
        have hne : il ≠ [] := fun e => by have h1 := HLM.out; rw [e] at h1; have h2 := HM.out; simp at h1; omega
        have hnx := nextR_yes (r := (⟨fr, wd, cu, ⟨bl, ba, bc⟩⟩ : RgR).rg) (i := k) (by show k < (rowsOf bl).length; rw [rowsOf_length]; exact hk1) (by show bAt (rowsOf bl) k ≠ []; rw [HRO.out]; exact hne) HK.out
        have hrows : rowsOf sl = rowsOf bl := by
          have hp2 : Part W bl bl.length W1 sl g := by rw [HL8.out]; exact HP.out
          exact hp2.rows
        have hsl : sl.length = 8 := by rw [HP.out.len, HL8.out]
        have hit : HasS LI w4 ⟨il, am, cm⟩ := (HI2.out.keep1 HU8.out (HP.out.avBox HBP.out _ HME.out)).keep1 HU9.out (HP.out.avBox HQ2.out _ HME.out)
        have hia : ∀ b, b < w.heap.size → AvS ⟨il, am, cm⟩ b := fun b hb => HP.out.av (by omega) _ HME.out
        have hown0 := HP.out.own _ HME.out
        have hown1 := HUG.out.row hown0 (fun x hx hm => HP.out.own_g HME.out (by simp only [List.mem_singleton] at hm; rw [← hm]; exact hx))
        have hown2 := HU8.out.row hown1 (fun x hx hm => ne_own HQP.out hown1 (by decide) (by simp only [List.mem_singleton] at hm; rw [← hm]; exact hx))
        have hown3 := HU9.out.row hown2 (fun x hx hm => ne_own HQ3.out hown2 (by decide) (by simp only [List.mem_singleton] at hm; rw [← hm]; exact hx))
        simp only [SlR.v, HLM.out] at hown3
        have hbase : w.heap.size ≤ W.heap.size := by omega
        have hownF := row_base hown3 hbase
        refine bodyPost_ret (v := .tuple #[.agg #[.int .i64 fr, .int .i64 wd, .int .i64 (k + 1), .slice (some ⟨g, 0, none⟩) 8 8], .slice am m cm, .int .i64 (fr + k * wd), .bool true]) (by simp [results, Tryz.results79, go_sem, r0, r1, r2, r3]) rfl (HPU.out _ hnx _ _ ⟨⟨fr, wd, (k : Int) + 1, ⟨sl.set k ⟨[], none, 0⟩, some ⟨g, 0, none⟩, bl.length⟩⟩, ⟨il, am, cm⟩, ?_, ⟨?_, HRO.out.symm, hhas, fun b hb => ⟨fun _ a ea => by obtain rfl := Option.some.inj ea; simp only; omega, t3 b (by omega)⟩, by simp only [SlR.v, HLM.out]; exact hownF, fun x hx => HP.out.apart hisl (by rw [← HBI.out]; exact hx), hUF⟩⟩)
        · simp only [encR, List.length_set, HL8.out, hsl, HLM.out, RgR.rg]
        · simp only [RgR.rg, takeR, rowsOf_set, hrows]
    · have hltz : ¬ (k : Int) < 8 := by omega
      obtain rfl : k = 8 := by omega
      go_upto_region 11 with (fail)
      have bp : (W1.setCell ⟨P, 2, none⟩ (.int .i64 8)).heap[P]? = some (.cells #[.int .i64 fr, .int .i64 wd, .int .i64 8, .slice (some ⟨g, 0, none⟩) 8 8] 59 (0, 0)) := setCell_block HBP.out _
      have hu8 := upd_set1 W1 P 2 (.int .i64 8)
      have HPZ := Lib.hid (HP.out.box HBP.out (by have := HSZ.out; omega) hu8)
      generalize W1.setCell ⟨P, 2, none⟩ (.int .i64 8) = w3 at bp hu8 HPZ ⊢
      have q2 := hu8.at HQ2.out (by simp; omega)
      have HQ3 := Lib.hid q2
      clear p0 p1 p2 p3 y0 y1 y2 y3
      obtain ⟨c0, c1, c2, c3⟩ := cells4 bp
      obtain ⟨e0, e1, e2, e3⟩ := cells4 q2
      obtain ⟨z0, z1, z2, z3⟩ := free4 q2
      clear bp q2 hu8
      go_wp2_with fail
      have p2 := stored4 HQ3.out (.int .i64 fr) (.int .i64 wd) (.int .i64 8) (.slice (some ⟨g, 0, none⟩) 8 8)
      have hU5 := upd_set4 w3 (H + 1) (.int .i64 fr) (.int .i64 wd) (.int .i64 8) (.slice (some ⟨g, 0, none⟩) 8 8)
      have HPF := (HPZ.out.of_upd HU.out).box HQ3.out (by have := HH.out; omega) hU5
      generalize (((w3.setCell ⟨H + 1, 0, none⟩ (.int .i64 fr)).setCell ⟨H + 1, 1, none⟩ (.int .i64 wd)).setCell ⟨H + 1, 2, none⟩ (.int .i64 8)).setCell ⟨H + 1, 3, none⟩ (.slice (some ⟨g, 0, none⟩) 8 8) = w4 at p2 hU5 HPF ⊢
      obtain ⟨r0, r1, r2, r3⟩ := cells4 p2
      have hnx := nextR_no (r := (⟨fr, wd, cu, ⟨bl, ba, bc⟩⟩ : RgR).rg) (fun j hj => HK.out j (by have : j < (rowsOf bl).length := hj; rw [rowsOf_length, HL8.out] at this; exact this))
      have hp2 : Part w bl bl.length w4 sl g := by rw [HL8.out]; exact HPF
      have hN := Part.nxt (r := ⟨fr, wd, cu, ⟨bl, ba, bc⟩⟩) hp2
      have hsl : sl.length = 8 := by rw [HPF.len, HL8.out]
      exact bodyPost_ret (v := .tuple #[.agg #[.int .i64 fr, .int .i64 wd, .int .i64 8, .slice (some ⟨g, 0, none⟩) 8 8], .slice none 0 0, .int .i64 0, .bool false]) (by simp [results, Tryz.results79, go_sem, r0, r1, r2, r3]) rfl (HPU.out _ hnx _ _ ⟨⟨fr, wd, 8, ⟨sl, some ⟨g, 0, none⟩, bl.length⟩⟩, nilS, by simp only [encR, HL8.out, hsl, nilS, List.length_nil], ⟨by simp only [RgR.rg, hp2.rows], rfl, ⟨hN.has.bk, hN.has.its⟩, fun b hb => ⟨fun _ a ea => by obtain rfl := Option.some.inj ea; have := hp2.ge; simp only; omega, hp2.av hb⟩, World.ownsRow_nil _ _ _ _, fun x hx => by simp [nilS, SlR.v, Value.ownBlock] at hx, hN.upd⟩⟩)
end Go.Proofs.YtpabapjodcafkaaGreat
