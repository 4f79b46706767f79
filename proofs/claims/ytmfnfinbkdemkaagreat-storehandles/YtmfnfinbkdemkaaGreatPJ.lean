/- Contract: the program's Next: what it gives is new and apart. -/
/- append to a row of the call's own: the new row's block is the old one or new. -/
/- Frames of the program's queue; sorting a row in place. -/
import Derived.Test.YtmfnfinbkdemkaaGreatUP
import Derived.Test.YtmfnfinbkdemkaaGreatGE
import Derived.Deep.AppendSrc
import Derived.Test.YtmfnfinbkdemkaaGreatPB
import Derived.Test.YtmfnfinbkdemkaaGreatPE
namespace Go.Proofs.YtmfnfinbkdemkaaGreat
open Go.RowKit Go.Lib

/-- What Next gives: a rung of new blocks, and a row of the call's own apart from it. -/
structure NextO (w : World) (p : Rg × List It × Int × Bool) (w' : World) (r' : RgR) (s : SlR It) : Prop where
  eq : r'.rg = p.1
  seq : s.l = p.2.1
  has : HasR w' r'
  av : ∀ b, b < w.heap.size → AvR r' b
  own : w'.ownsRow w.heap.size 36 3 s.v s.l.length (LI.flat s.l)
  ap : ∀ x, s.v.ownBlock = some x → AvR r' x
  upd : Upd [] w w'
def GivesRO (_r : RgR) (p : Rg × List It × Int × Bool) (w : World) (e : Ending) (w' : World) : Prop := ∃ (r' : RgR) (s : SlR It), e = .returned (.tuple #[encR r', .slice s.ad s.l.length s.cap, .int .i64 p.2.2.1, .bool p.2.2.2]) ∧ NextO w p w' r' s
theorem Part.apart {w w' : World} {bl sl : List (SlR It)} {k g : Nat} (h : Part w bl k w' sl g) {i : Nat} (hi : i < sl.length) {x : Nat} (hx : sl[i].v.ownBlock = some x) {fr wd cu : Int} {c : Nat} : AvR ⟨fr, wd, cu, ⟨sl.set i ⟨[], none, 0⟩, some ⟨g, 0, none⟩, c⟩⟩ x := by
  obtain ⟨cur, hc, _⟩ := h.held.ex
  refine ⟨fun _ a ea he => ?_, fun y hy => ?_⟩
  · obtain rfl := Option.some.inj ea
    simp only at he
    subst he
    exact ne_own hc (h.own _ (List.getElem_mem hi)) (by decide) hx
  · obtain ⟨j, hj, rfl⟩ := List.mem_iff_getElem.1 hy
    simp only [List.length_set] at hj
    by_cases e : i = j
    · subst e
      rw [List.getElem_set_self]
      exact fun h => absurd rfl h
    · rw [List.getElem_set_ne e]
      refine av_of_own fun hx2 => ?_
      rcases Nat.lt_or_gt_of_ne e with hij | hij
      · exact h.dis i j hi hj hij x hx hx2
      · exact h.dis j i hj hi hij x hx2 hx
theorem Part.own_g {w w' : World} {bl sl : List (SlR It)} {k g : Nat} (h : Part w bl k w' sl g) {s : SlR It} (hs : s ∈ sl) : s.v.ownBlock ≠ some g := by
  obtain ⟨cur, hc, _⟩ := h.held.ex
  exact ne_own hc (h.own s hs) (by decide)
set_option maxRecDepth 100000 in
set_option maxHeartbeats 8000000 in
theorem NextO_has (r : RgR) (w : World) (ha : HasR w r) (hg : GoodR r.rg) (hl : lenL r.rg.bs ≤ 100000) :
    Calls Tryz.prog 116 #[encR r] w (GivesRO r (nextR r.rg) w) := by
  have hlen : r.bk.l.length = 8 := by have := hg.len; simpa [RgR.rg, rowsOf_length] using this
  have HBL : Hid (∀ i (h : i < r.bk.l.length), r.bk.l[i].l.length ≤ 100000) := fun i h => by
    have h1 := len_le (bs := rowsOf r.bk.l) (k := i) (by rw [rowsOf_length]; exact h)
    rw [rowsOf_get h] at h1
    exact Nat.le_trans h1 hl
  have hCL := fun W (hu : Upd [] w W) => clone_has r W (ha.stay hu) (by omega) (fun s hs => by obtain ⟨i, hi, rfl⟩ := List.mem_iff_getElem.1 hs; have := HBL.out i hi; omega)
  have hST := fun (i : Nat) (hi : i < 8) W => start_has r (i : Int) W ⟨hg.fr0, hg.fr1⟩ (by have h1 := hg.prod (i := i) (by omega) (by omega); have h2 := hg.wd1; simp only [RgR.rg] at h1 h2; omega)
  have HPU : Hid (∀ p, nextR r.rg = p → ∀ e W, GivesRO r p w e W → GivesRO r (nextR r.rg) w e W) := fun p hp e W h => by rw [hp]; exact h
  obtain ⟨fr, wd, cu, bl, ba, bc⟩ := r
  have HL8 := Lib.hid hlen
  simp only at HL8 HBL
  unfold encR at hCL hST ⊢
  simp only at hlen hCL hST
  rw [hlen] at hCL hST ⊢
  have HCL := Lib.hid hCL
  have HST := Lib.hid hST
  clear ha hg hlen hCL hST hl
  go_enter Tryz.func116, Tryz.ntmps116
  go_upto_region 1 with (fail)
  generalize hA : (Obj.cells #[.int .i64 fr, .int .i64 wd, .int .i64 cu, .slice ba 8 bc] 93 : Obj) = A
  generalize hC : (Obj.cells #[.int .i64 0, .int .i64 0, .int .i64 0, .slice none 0 0] 93 : Obj) = C
  obtain ⟨hu, b0, b2, hsz⟩ := two_boxes w A C
  generalize (w.alloc A).alloc C = W at *
  generalize hH : w.heap.size = H at *
  rw [← hA] at b0
  rw [← hC] at b2
  have HU := Lib.hid hu; have HB0 := Lib.hid b0; have HB2 := Lib.hid b2; have HH := Lib.hid hH; have HSZ := Lib.hid hsz
  obtain ⟨c0, c1, c2, c3⟩ := cells4 b0
  clear hu hA hC b0 b2 hH hsz
  go_upto_region 2 with (go_at_call 110; (with_reducible refine (HCL.out _ HU.out).mono ?_); rintro e w1 ⟨sl, g, rfl, hP⟩)
  have hpu := (Upd.refl [] w1).alloc (.cells #[.int .i64 fr, .int .i64 wd, .int .i64 cu, .slice (some ⟨g, 0, none⟩) 8 8] 93)
  have bp := heap_alloc1 w1 (.cells #[.int .i64 fr, .int .i64 wd, .int .i64 cu, .slice (some ⟨g, 0, none⟩) 8 8] 93)
  have HP := Lib.hid (hP.stay hpu)
  have hWU := hP.upd.thn hpu
  have hPs : W.heap.size ≤ w1.heap.size := hP.upd.size
  generalize w1.alloc (.cells #[.int .i64 fr, .int .i64 wd, .int .i64 cu, .slice (some ⟨g, 0, none⟩) 8 8] 93) = W1 at *
  generalize w1.heap.size = P at *
  have HWU := Lib.hid hWU; have HBP := Lib.hid bp
  have hPH : H + 1 < P := by have := HSZ.out; omega
  have q0 := hWU.at HB0.out (by simp); have q2 := hWU.at HB2.out (by simp)
  have HQ0 := Lib.hid q0; have HQ2 := Lib.hid q2
  have HUW1 : Hid (Upd [] w W1) := HU.out.thn hWU
  clear c0 c1 c2 c3 hP hpu hWU hPs q0 q2
  obtain ⟨p0, p1, p2, p3⟩ := cells4 bp
  obtain ⟨y0, y1, y2, y3⟩ := free4 bp
  clear bp
  have HNG := Lib.hid (HP.out.neBox HBP.out)
  have HNH := Lib.hid (HP.out.neBox HQ2.out)
  have HN0 := Lib.hid (HP.out.neBox HQ0.out)
  go_wp2_with fail
  go_loopg [14] 8 (fun gk vi wr => ∃ k : Nat, vi = .int .i64 k ∧ k + gk = 8 ∧ Hid (∀ j, j < k → bAt (rowsOf bl) j = []) ∧ W1 = wr)
  case atStart => exact ⟨0, rfl, by omega, fun j hj => by omega, rfl⟩
  case round =>
    obtain ⟨k, rfl, hkg, HK, rfl⟩ := hrel
    by_cases hlt : k < 8
    · have hltz : (k : Int) < 8 := by omega
      have hk1 : k < bl.length := by have := HL8.out; omega
      have hisl : k < sl.length := by rw [HP.out.len]; exact hk1
      obtain ⟨b0, zz⟩ := HP.out.held.cell k hisl 0 _ rfl
      rw [show k * LB.k + 0 = k from by show k * 1 + 0 = _; omega] at b0 zz
      have hdn := HP.out.done k hisl hk1 hlt
      have hro := rowsOf_at hk1
      rw [← hdn] at hro
      have hir := HP.out.has _ (List.getElem_mem hisl)
      have hbl := HBL.out k hk1
      rw [← hdn] at hbl
      have hmem := List.getElem_mem hisl
      obtain ⟨bi, hbi⟩ : ∃ x, x = sl[k]'hisl := ⟨_, rfl⟩
      rw [← hbi] at b0 hro hir hbl hmem
      obtain ⟨il, am, cm⟩ := bi
      have HIR := Lib.hid hir; have HRO := Lib.hid hro; have HME := Lib.hid hmem; have HBI := Lib.hid hbi
      simp only at b0 HRO hbl
      generalize hlm : il.length = m at *
      have HLM := Lib.hid hlm
      clear hir hbi hlm hdn hro hmem
      by_cases hm : m = 0
      · have hd : decide (0 < m) = false := by simp; omega
        have HM := Lib.hid hm
        clear hm
        go_wp2_with fail
        go_roundg (gk - 1)
        case measure => omega
        case rel => exact ⟨k + 1, by go_num, by omega, fun j hj => by
          by_cases hj2 : j = k
          · subst hj2
            rw [HRO.out]
            exact List.eq_nil_of_length_eq_zero (by rw [HLM.out, HM.out])
          · exact HK.out j (by omega), rfl⟩
      · have hd : decide (0 < m) = true := by simp; omega
        have HM := Lib.hid hm
        clear hm
        have hwk : IntKind.i64.wrap ((k : Int) + 1) = (k : Int) + 1 := by rw [IntKind.wrap_i64]; omega
        go_upto_region 7 with (fail)
        have hp2 : Part W bl bl.length W1 sl g := by rw [HL8.out]; exact HP.out
        have hput := hp2.put (w2 := W1) hisl nilB (Upd.refl _ _) (World.ownsRow_nil _ _ _ _)
        simp only [nilB, SlR.v, List.length_nil] at hput
        have hUg := upd_set1 W1 g k (.slice none 0 0)
        have hng := HNG.out
        have hnh := HNH.out
        have hn0 := HN0.out
        have qp := hUg.at HBP.out (by simpa using fun e => hng e.symm)
        have q2 := hUg.at HQ2.out (by simpa using fun e => hnh e.symm)
        have q0 := hUg.at HQ0.out (by simpa using fun e => hn0 e.symm)
        have HI2 := Lib.hid (HIR.out.keep1 hUg (HP.out.avG _ HME.out))
        have HPT := Lib.hid hput
        generalize W1.setCell ⟨g, k, none⟩ (.slice none 0 0) = w2 at hUg qp q2 q0 HI2 HPT ⊢
        have HQP := Lib.hid qp; have HQ22 := Lib.hid q2; have HQ02 := Lib.hid q0; have HUG := Lib.hid hUg
        clear p0 p1 p2 p3 y0 y1 y2 y3 b0 zz hput hp2 hng hnh hn0 hUg
        obtain ⟨p0, p1, p2, p3⟩ := cells4 qp
        obtain ⟨y0, y1, y2, y3⟩ := free4 qp
        clear qp q2 q0
        go_upto_region 8 with (fail)
        have bp : (w2.setCell ⟨P, 2, none⟩ (.int .i64 (k + 1))).heap[P]? = some (.cells #[.int .i64 fr, .int .i64 wd, .int .i64 (k + 1), .slice (some ⟨g, 0, none⟩) 8 8] 93 (0, 0)) := setCell_block HQP.out _
        have hu8 := upd_set1 w2 P 2 (.int .i64 (k + 1))
        generalize w2.setCell ⟨P, 2, none⟩ (.int .i64 (k + 1)) = w3 at bp hu8 ⊢
        have q0 := hu8.at HQ02.out (by simp; omega)
        have q2 := hu8.at HQ22.out (by simp; omega)
        have HQ3 := Lib.hid q2; have HU8 := Lib.hid hu8
        clear p0 p1 p2 p3 y0 y1 y2 y3
        obtain ⟨p0, p1, p2, p3⟩ := cells4 bp
        obtain ⟨c0, c1, c2, c3⟩ := cells4 q0
        obtain ⟨e0, e1, e2, e3⟩ := cells4 q2
        obtain ⟨z0, z1, z2, z3⟩ := free4 q2
        have hkp := Lib.hid (fun W (hu : Upd [H + 1] w3 W) => (⟨hu.cell p0 (by simp; omega), hu.cell p1 (by simp; omega), hu.cell p2 (by simp; omega), hu.cell p3 (by simp; omega), hu.cell c0 (by simp), hu.cell c1 (by simp), hu.cell c2 (by simp), hu.cell c3 (by simp)⟩ : W.cell? ⟨P, 0, none⟩ = some (.int .i64 fr) ∧ W.cell? ⟨P, 1, none⟩ = some (.int .i64 wd) ∧ W.cell? ⟨P, 2, none⟩ = some (.int .i64 (k + 1)) ∧ W.cell? ⟨P, 3, none⟩ = some (.slice (some ⟨g, 0, none⟩) 8 8) ∧ W.cell? ⟨H, 0, none⟩ = some (.int .i64 fr) ∧ W.cell? ⟨H, 1, none⟩ = some (.int .i64 wd) ∧ W.cell? ⟨H, 2, none⟩ = some (.int .i64 cu) ∧ W.cell? ⟨H, 3, none⟩ = some (.slice ba 8 bc)))
        have HSTK := Lib.hid (HST.out k hlt)
        clear bp q0 q2 hu8
        go_region_held3 (fun wz => wz.cell? ⟨P, 0, none⟩ = some (.int .i64 fr) ∧ wz.cell? ⟨P, 1, none⟩ = some (.int .i64 wd) ∧ wz.cell? ⟨P, 2, none⟩ = some (.int .i64 (k + 1)) ∧ wz.cell? ⟨P, 3, none⟩ = some (.slice (some ⟨g, 0, none⟩) 8 8) ∧ wz.cell? ⟨H, 0, none⟩ = some (.int .i64 fr) ∧ wz.cell? ⟨H, 1, none⟩ = some (.int .i64 wd) ∧ wz.cell? ⟨H, 2, none⟩ = some (.int .i64 cu) ∧ wz.cell? ⟨H, 3, none⟩ = some (.slice ba 8 bc)) (first | exact ⟨p0, p1, p2, p3, c0, c1, c2, c3⟩ | (refine hkp.out _ ?_; (repeat (first | exact Upd.refl _ _ | refine Upd.drew ?_ | refine Upd.setCell ?_ (by simp) _ | refine Upd.trans (T := []) ?_ (by assumption) (by simp))))) (first | (go_at_call 93; (with_reducible refine (HSTK.out _).mono ?_); rintro e w' ⟨rfl, hus⟩; try (have qz := hus.at HQ3.out (by simp); obtain ⟨x0, x1, x2, x3⟩ := cells4 qz; obtain ⟨v0, v1, v2, v3⟩ := free4 qz; clear qz)))
        have pf := stored4 (hus.at HQ3.out (by simp)) (.int .i64 fr) (.int .i64 wd) (.int .i64 (k + 1)) (.slice (some ⟨g, 0, none⟩) 8 8)
        have hU9 := ((Upd.refl [H + 1] w3).drew.trans hus (by simp)).trans (upd_set4 w' (H + 1) (.int .i64 fr) (.int .i64 wd) (.int .i64 (k + 1)) (.slice (some ⟨g, 0, none⟩) 8 8)) (fun x hx _ => hx)
        generalize ((((w'.setCell ⟨H + 1, 0, none⟩ (.int .i64 fr)).setCell ⟨H + 1, 1, none⟩ (.int .i64 wd)).setCell ⟨H + 1, 2, none⟩ (.int .i64 (k + 1))).setCell ⟨H + 1, 3, none⟩ (.slice (some ⟨g, 0, none⟩) 8 8)) = w4 at pf hU9 ⊢
        have HPF := Lib.hid pf; have HU9 := Lib.hid hU9
        clear p0 p1 p2 p3 c0 c1 c2 c3 e0 e1 e2 e3 z0 z1 z2 z3 x0 x1 x2 x3 v0 v1 v2 v3 hus pf hU9
        go_wp2_with fail
        obtain ⟨r0, r1, r2, r3⟩ := cells4 HPF.out
        have hh := HH.out
        have hsz := HSZ.out
        obtain ⟨t1, t2, t3, t4⟩ := HPT.out
        have havP : AvR ⟨fr, wd, (k : Int) + 1, ⟨sl.set k ⟨[], none, 0⟩, some ⟨g, 0, none⟩, bl.length⟩⟩ P := avR_of HNG.out (avs_set (HP.out.avBox HBP.out) (avS_nilB P))
        have havH : AvR ⟨fr, wd, (k : Int) + 1, ⟨sl.set k ⟨[], none, 0⟩, some ⟨g, 0, none⟩, bl.length⟩⟩ (H + 1) := avR_of HNH.out (avs_set (HP.out.avBox HQ2.out) (avS_nilB _))
        have hhas : HasR w4 ⟨fr, wd, (k : Int) + 1, ⟨sl.set k ⟨[], none, 0⟩, some ⟨g, 0, none⟩, bl.length⟩⟩ := (HasR.keep1 (w := w2) ⟨t1, t2⟩ HU8.out havP).keep1 HU9.out havH
        have hgg : W.heap.size ≤ g := HP.out.ge
        have hUF : Upd [] w w4 := ((HU.out.thn t4).new HU8.out (by omega)).new HU9.out (by omega)
        have hne : il ≠ [] := fun e => by have h1 := HLM.out; rw [e] at h1; have h2 := HM.out; simp at h1; omega
        have hnx := nextR_yes (r := (⟨fr, wd, cu, ⟨bl, ba, bc⟩⟩ : RgR).rg) (i := k) (by show k < (rowsOf bl).length; rw [rowsOf_length]; exact hk1) (by show bAt (rowsOf bl) k ≠ []; rw [HRO.out]; exact hne) HK.out
        have hrows : rowsOf sl = rowsOf bl := by
          have hp2 : Part W bl bl.length W1 sl g := by rw [HL8.out]; exact HP.out
          exact hp2.rows
        have hsl : sl.length = 8 := by rw [HP.out.len, HL8.out]
        have hit : HasS LI w4 ⟨il, am, cm⟩ := (HI2.out.keep1 HU8.out (HP.out.avBox HBP.out _ HME.out)).keep1 HU9.out (HP.out.avBox HQ2.out _ HME.out)
        have hia : ∀ b, b < w.heap.size → AvS ⟨il, am, cm⟩ b := fun b hb => HP.out.av (by omega) _ HME.out
        have hown0 := HP.out.own _ HME.out
        have hown1 := HUG.out.row hown0 (fun x hx hm => HP.out.own_g HME.out (by simp only [List.mem_singleton] at hm; rw [← hm]; exact hx))
        have hown2 := HU8.out.row hown1 (fun x hx hm => ne_own HQP.out hown1 (by decide) (by simp only [List.mem_singleton] at hm; rw [← hm]; exact hx))
        have hown3 := HU9.out.row hown2 (fun x hx hm => ne_own HQ3.out hown2 (by decide) (by simp only [List.mem_singleton] at hm; rw [← hm]; exact hx))
        simp only [SlR.v, HLM.out] at hown3
        have hbase : w.heap.size ≤ W.heap.size := by omega
        have hownF := row_base hown3 hbase
        refine bodyPost_ret (v := .tuple #[.agg #[.int .i64 fr, .int .i64 wd, .int .i64 (k + 1), .slice (some ⟨g, 0, none⟩) 8 8], .slice am m cm, .int .i64 (fr + k * wd), .bool true]) (by simp [results, Tryz.results116, go_sem, r0, r1, r2, r3]) rfl (HPU.out _ hnx _ _ ⟨⟨fr, wd, (k : Int) + 1, ⟨sl.set k ⟨[], none, 0⟩, some ⟨g, 0, none⟩, bl.length⟩⟩, ⟨il, am, cm⟩, ?_, ⟨?_, HRO.out.symm, hhas, fun b hb => ⟨fun _ a ea => by obtain rfl := Option.some.inj ea; simp only; omega, t3 b (by omega)⟩, by simp only [SlR.v, HLM.out]; exact hownF, fun x hx => HP.out.apart hisl (by rw [← HBI.out]; exact hx), hUF⟩⟩)
        · simp only [encR, List.length_set, HL8.out, hsl, HLM.out, RgR.rg]
        · simp only [RgR.rg, takeR, rowsOf_set, hrows]
    · have hltz : ¬ (k : Int) < 8 := by omega
      obtain rfl : k = 8 := by omega
      go_upto_region 11 with (fail)
      have bp : (W1.setCell ⟨P, 2, none⟩ (.int .i64 8)).heap[P]? = some (.cells #[.int .i64 fr, .int .i64 wd, .int .i64 8, .slice (some ⟨g, 0, none⟩) 8 8] 93 (0, 0)) := setCell_block HBP.out _
      have hu8 := upd_set1 W1 P 2 (.int .i64 8)
      have HPZ := Lib.hid (HP.out.box HBP.out (by have := HSZ.out; omega) hu8)
      generalize W1.setCell ⟨P, 2, none⟩ (.int .i64 8) = w3 at bp hu8 HPZ ⊢
      have q2 := hu8.at HQ2.out (by simp; omega)
      have HQ3 := Lib.hid q2
      clear p0 p1 p2 p3 y0 y1 y2 y3
      obtain ⟨c0, c1, c2, c3⟩ := cells4 bp
      obtain ⟨e0, e1, e2, e3⟩ := cells4 q2
      obtain ⟨z0, z1, z2, z3⟩ := free4 q2
      clear bp q2 hu8
      go_wp2_with fail
      have p2 := stored4 HQ3.out (.int .i64 fr) (.int .i64 wd) (.int .i64 8) (.slice (some ⟨g, 0, none⟩) 8 8)
      have hU5 := upd_set4 w3 (H + 1) (.int .i64 fr) (.int .i64 wd) (.int .i64 8) (.slice (some ⟨g, 0, none⟩) 8 8)
      have HPF := (HPZ.out.of_upd HU.out).box HQ3.out (by have := HH.out; omega) hU5
      generalize (((w3.setCell ⟨H + 1, 0, none⟩ (.int .i64 fr)).setCell ⟨H + 1, 1, none⟩ (.int .i64 wd)).setCell ⟨H + 1, 2, none⟩ (.int .i64 8)).setCell ⟨H + 1, 3, none⟩ (.slice (some ⟨g, 0, none⟩) 8 8) = w4 at p2 hU5 HPF ⊢
      obtain ⟨r0, r1, r2, r3⟩ := cells4 p2
      have hnx := nextR_no (r := (⟨fr, wd, cu, ⟨bl, ba, bc⟩⟩ : RgR).rg) (fun j hj => HK.out j (by have : j < (rowsOf bl).length := hj; rw [rowsOf_length, HL8.out] at this; exact this))
      have hp2 : Part w bl bl.length w4 sl g := by rw [HL8.out]; exact HPF
      have hN := Part.nxt (r := ⟨fr, wd, cu, ⟨bl, ba, bc⟩⟩) hp2
      have hsl : sl.length = 8 := by rw [HPF.len, HL8.out]
      exact bodyPost_ret (v := .tuple #[.agg #[.int .i64 fr, .int .i64 wd, .int .i64 8, .slice (some ⟨g, 0, none⟩) 8 8], .slice none 0 0, .int .i64 0, .bool false]) (by simp [results, Tryz.results116, go_sem, r0, r1, r2, r3]) rfl (HPU.out _ hnx _ _ ⟨⟨fr, wd, 8, ⟨sl, some ⟨g, 0, none⟩, bl.length⟩⟩, nilS, by simp only [encR, HL8.out, hsl, nilS, List.length_nil], ⟨by simp only [RgR.rg, hp2.rows], rfl, ⟨hN.has.bk, hN.has.its⟩, fun b hb => ⟨fun _ a ea => by obtain rfl := Option.some.inj ea; have := hp2.ge; simp only; omega, hp2.av hb⟩, World.ownsRow_nil _ _ _ _, fun x hx => by simp [nilS, SlR.v, Value.ownBlock] at hx, hN.upd⟩⟩)
end Go.Proofs.YtmfnfinbkdemkaaGreat
namespace Go.Proofs.YtmfnfinbkdemkaaGreat
open Go.RowKit Go.Lib
variable {α : Type}
theorem own_box {w w' : World} {b : Nat} {c : Array Value} {t e : TypeId} {f : Nat × Nat} {base size n : Nat} {v : Value} {xs : List Value} (hb : w.heap[b]? = some (.cells c t f)) (h : w.ownsRow base e size v n xs) (ht : t ≠ e) (hu : Upd [b] w w') : w'.ownsRow base e size v n xs :=
  hu.row h (fun x hx hm => ne_own hb h ht (by simp only [List.mem_singleton] at hm; rw [← hm]; exact hx))
theorem app_where {L : Lay α} {ts te : TypeId} (T : RowTy L ts te) {w w' : World} {ty : TypeId} {base : Nat} {v v' : Value} {n : Nat} {xs : List α} (hown : w.ownsRow base te L.k v n (L.flat xs)) {ad : Addr} {m c : Nat} {ys : List α} (hm : m = ys.length) (hm0 : 0 < m) (hy : Row L w (some ad) ys) (hn : n + m ≤ 1000000)
    (hr : (Builtin.append_ #[ts, ts] ty #[v, .slice (some ad) m c]).run Tryz.prog w = .ok v' w') : v'.ownBlock = v.ownBlock ∨ v'.ownBlock = some w.heap.size := by
  obtain ⟨i0, z, b, hi0, hz0, hz1, hz2, hz3, hb⟩ := T.info
  have hsrc : Src Tryz.prog i0.size ts (.slice (some ad) m c) m (L.flat ys) w := by
    rw [hz1]; exact Src.ofSlice w T.un ad m c (L.flat ys) (by rw [L.flat_length, hm]) hy.cells (L.flat_one ys)
  have hfit : ∀ cp, cp < n + m → Builtin.nextslicecap (n + m) cp * i0.bytes ≤ 281474976710656 := fun cp hcp => growslice_fits hcp (by
    rw [hz2]
    exact Nat.le_trans (Nat.mul_le_mul hn hb) (by decide))
  rcases hown.2 with ⟨rfl, rfl⟩ | ⟨g, cap, cur, rfl, hbg, hg, hc, hmx, hs, ht⟩
  · have hold : (Builtin.firstCells i0.size 0 (.slice none 0 0)).run Tryz.prog w.drew = .ok ([] : List Value).toArray w.drew := run_firstCells_none w.drew _ 0 0 0
    have := run_append_grow_src (P := Tryz.prog) w ts ts ty te i0 z T.un hi0 hz0 none 0 0 [] hold _ m _ hsrc (by omega) (by omega) (hfit 0 (by omega))
    rw [hr] at this
    simp only [Result.ok.injEq] at this
    rw [this.1]
    exact .inr rfl
  · have hrow : ∀ j u, (L.flat xs)[j]? = some u → w.cell? ((⟨g, 0, none⟩ : Addr).add j) = some u := fun j u hj => hown.cells (g := g) rfl j u hj
    by_cases hroom : n + m ≤ cap
    · have hlen : n * L.k + m * L.k ≤ cur.size := by
        rw [hs, ← Nat.add_mul]; exact Nat.mul_le_mul_right _ hroom
      have hfl : (L.flat ys).length = m * L.k := by rw [L.flat_length, hm]
      have := run_append_room_src (P := Tryz.prog) w ts ts ty te i0 T.un hi0 g 0 n cap _ m _ hsrc hroom (fun j hj => by
        rw [cell_block hg, hz1, Nat.zero_add, Array.getElem?_eq_getElem (by omega)]; rfl) (fun j hj => free_block hg _)
      rw [hr] at this
      simp only [Result.ok.injEq] at this
      rw [this.1]
      exact .inl rfl
    · have hold : (Builtin.firstCells i0.size n (.slice (some ⟨g, 0, none⟩) n cap)).run Tryz.prog w.drew = .ok (L.flat xs).toArray w.drew := by
        rw [hz1]
        exact run_firstCells_some w.drew _ n ⟨g, 0, none⟩ n cap (L.flat xs) (by rw [hown.1]) (fun j u hj => hrow j u hj)
      have := run_append_grow_src (P := Tryz.prog) w ts ts ty te i0 z T.un hi0 hz0 (some ⟨g, 0, none⟩) n cap _ hold _ m _ hsrc (by omega) (by omega) (hfit cap (by omega))
      rw [hr] at this
      simp only [Result.ok.injEq] at this
      rw [this.1]
      exact .inr rfl
/-- append of a slice to a row of the call's own: where the row lies then. -/
theorem app_row2 {L : Lay α} {ts te : TypeId} (T : RowTy L ts te) {w : World} {ops : Array Oper} {rest : List Oper} {o : Oper} {a : Act} {Q : Exit → Act → World → Prop} (hgd : o.guard = none) (s x : Operand)
    (ho : o.op = .call { callee := .builtin .append, args := #[s, x], argTypes := #[ts, ts] })
    (base : Nat) (v : Value) (n : Nat) (xs : List α) (hs : a.eval s = v) (hown : w.ownsRow base te L.k v n (L.flat xs))
    (ad : Addr) (m c : Nat) (ys : List α) (hx : a.eval x = .slice (some ad) m c) (hm : m = ys.length) (hm0 : 0 < m) (hy : Row L w (some ad) ys) (hn : n + m ≤ 1000000) (hbase : base ≤ w.heap.size)
    (h : ∀ v' w', w'.ownsRow base te L.k v' (n + m) (L.flat (xs ++ ys)) → w.grownBy w' v.ownBlock → (v'.ownBlock = v.ownBlock ∨ v'.ownBlock = some w.heap.size) → wpList Tryz.prog ops Q rest (a.put o.dst v') w') :
    wpList Tryz.prog ops Q (o :: rest) a w := by
  obtain ⟨i0, z, b, hi0, hz0, hz1, hz2, hz3, hb⟩ := T.info
  refine wpList_plain hgd fun _ hK => ?_
  have hbb : (n + m) * b ≤ 1000000 * 1000 := Nat.mul_le_mul hn hb
  obtain ⟨v', w', hr, h2, h3, _⟩ := run_append_own (P := Tryz.prog) w base ts o.type te i0 z L.k b T.un hi0 hz0 hz1 hz2 hz3 L.pos v n _ hown ad m c (L.flat ys) (by rw [L.flat_length, hm]) hy.cells (L.flat_one ys) (by simp [maxLen]; omega) (by omega) hbase
  have hw := app_where T hown hm hm0 hy hn hr
  rw [← L.flat_append] at h2
  unfold Oper.wp execOp
  simp only [ho, resolve, invoke, builtin, Sem.run_bind, Sem.run_pure, Result.andThen_ok, List.map_toArray, List.map_cons, List.map_nil, hs, hx, hr]
  exact hK _ _ (h v' w' h2 h3 hw)
end Go.Proofs.YtmfnfinbkdemkaaGreat
namespace Go.Proofs.YtmfnfinbkdemkaaGreat
open Go.RowKit Go.Lib Go.Sort

theorem held_of_row {α : Type} {L : Lay α} {te : TypeId} {w : World} {g cap : Nat} {l : List α} {c : Array Value} (hb : w.heap[g]? = some (.cells c te (0, 0))) (hs : c.size = cap * L.k) (hle : l.length ≤ cap) (hr : Row L w (some ⟨g, 0, none⟩) l) : Held L te w g cap l := by
  refine ⟨⟨c, hb, hs, ?_⟩, hle⟩
  apply List.ext_getElem?
  intro t
  by_cases ht : t < l.length * L.k
  · rw [List.getElem?_take, if_pos ht]
    obtain ⟨u, hu⟩ : ∃ u, (L.flat l)[t]? = some u := ⟨_, List.getElem?_eq_getElem (by rw [L.flat_length]; exact ht)⟩
    rw [hu]
    have := hr.cells t u hu
    rw [Addr.add_lit, cell_block hb, Nat.zero_add] at this
    simpa using this
  · rw [List.getElem?_take, if_neg ht, List.getElem?_eq_none (by rw [L.flat_length]; omega)]
theorem swk_held {w W : World} {g cap : Nat} {l : List It} {d' : Array It} (hH : Held LI 36 w g cap l) (hs : d'.size = l.length) (h : SWK LI.enc 3 w g 0 d' W) : Held LI 36 W g cap d'.toList := by
  have hr := swk_row hH.lt (held_holdsK hH) (by simpa using hs) h
  obtain ⟨cur, h1, h2, _⟩ := hH.ex
  obtain ⟨n, os, rfl⟩ := h
  have hb : (sortWorldK LI.enc 3 w g 0 n d' os).heap[g]? = some (.cells (putCells id 0 (flatK LI.enc 3 d') cur) 36 (0, 0)) := by
    show ((w.heap.modify g (onCells (putCells id 0 (flatK LI.enc 3 d')))) ++ os)[g]? = _
    rw [Array.getElem?_append_left (by simpa using lt_block h1), Array.getElem?_modify, if_pos rfl, h1]; rfl
  exact held_of_row hb (by simp [putCells, h2]) (by simp [hs]; exact hH.le) hr
set_option maxRecDepth 100000 in
theorem Sort_held (g cap : Nat) (l : List It) (w : World) (hl : l.length ≤ 1000000) (hd : DistI l) (hH : Held LI 36 w g cap l) :
    Calls Tryz.prog 48 #[.slice (some ⟨g, 0, none⟩) l.length cap, .func (.func 49) #[] #[]] w fun e w' =>
      e = .returned (.tuple #[]) ∧ Held LI 36 w' g cap (sortI l) ∧ Upd [g] w w' := by
  have hk := held_holdsK hH
  have hb := hH.lt
  have h := AnyQ.slices_SortFunc sortLays 3 Tryz.isAgg36 Tryz.sizeOf36 LI.enc LI.len LI.one cmpI swoI 49 #[] g 0 cap l.toArray w (enters_of Tryz.func49 (by kernel_rfl) rfl) (cmp_lays w g _) hk hb (by simp; omega)
  have h2 : Calls Tryz.prog 48 #[.slice (some ⟨g, 0, none⟩) l.length cap, .func (.func 49) #[] #[]] w fun e w' => e = .returned (.tuple #[]) ∧ ∃ d' n os, PermIn 0 l.toArray.size l.toArray d' ∧ SortedIn (ltOf cmpI) 0 l.toArray.size d' ∧ w' = sortWorldK LI.enc 3 w g 0 n d' os := by
    have e : l.toArray.size = l.length := by simp
    rw [e] at h ⊢
    exact h
  refine h2.mono ?_
  rintro e w' ⟨rfl, d', n, os, hp, hs, rfl⟩
  obtain ⟨p1, p2⟩ := sorted_perm hp hs
  have p3 : d'.toList.Perm l := by simpa using p1
  refine ⟨rfl, ?_, upd_sortWorldK _ _ _ _ _ _ _ _⟩
  have hsz : d'.size = l.length := by have := p3.length_eq; simpa using this
  have := swk_held hH hsz ⟨n, os, rfl⟩
  rw [sortI_unique (strict_of p2 (hd.perm p3.symm)) p3]
  exact this

/-- Of the blocks of w none below b0 and no box of a queue has turned. -/
structure Fr (b0 : Nat) (w w' : World) : Prop where
  os : w'.os = w.os
  tape : w'.tape = w.tape
  output : w'.output = w.output
  size : w.heap.size ≤ w'.heap.size
  block : ∀ k, k < w.heap.size → (k < b0 ∨ ∃ c f, w.heap[k]? = some (.cells c 68 f)) → w'.heap[k]? = w.heap[k]?
theorem Fr.refl (b0 : Nat) (w : World) : Fr b0 w w := ⟨rfl, rfl, rfl, Nat.le_refl _, fun _ _ _ => rfl⟩
theorem Fr.of_upd {b0 : Nat} {S : List Nat} {w w' : World} (h : Upd S w w') (hS : ∀ x ∈ S, b0 ≤ x ∧ ∀ c f, w.heap[x]? ≠ some (.cells c 68 f)) : Fr b0 w w' :=
  ⟨h.os, h.tape, h.output, h.size, fun k hk hc => h.block k hk fun hm => by
    obtain ⟨h1, h2⟩ := hS k hm
    rcases hc with hc | ⟨c, f, hc⟩
    · omega
    · exact h2 c f hc⟩
theorem Fr.trans {b0 : Nat} {a b c : World} (h : Fr b0 a b) (k : Fr b0 b c) : Fr b0 a c :=
  ⟨k.os.trans h.os, k.tape.trans h.tape, k.output.trans h.output, Nat.le_trans h.size k.size, fun i hi hc => by
    have h1 := h.block i hi hc
    refine (k.block i (Nat.lt_of_lt_of_le hi h.size) ?_).trans h1
    rcases hc with hc | ⟨c', f, hc⟩
    · exact .inl hc
    · exact .inr ⟨c', f, h1.trans hc⟩⟩
theorem Fr.enter {b0 : Nat} {w0 w w' : World} (hu : Upd [] w0 w) (h : Fr b0 w w') : Fr b0 w0 w' := (Fr.of_upd hu (by simp)).trans h
theorem Fr.upd {w0 w w' : World} {b0 : Nat} (h : Fr b0 w w') (hu : Upd [] w0 w) (hb : w0.heap.size ≤ b0) : Upd [] w0 w' :=
  ⟨h.os.trans hu.os, h.tape.trans hu.tape, h.output.trans hu.output, Nat.le_trans hu.size h.size, fun k hk _ => (h.block k (Nat.lt_of_lt_of_le hk hu.size) (.inl (by omega))).trans (hu.block k hk (by simp))⟩
theorem Fr.box {b0 : Nat} {w w' : World} (h : Fr b0 w w') {k : Nat} {c : Array Value} {f : Nat × Nat} (hb : w.heap[k]? = some (.cells c 68 f)) : w'.heap[k]? = some (.cells c 68 f) := (h.block k (lt_block hb) (.inr ⟨c, f, hb⟩)).trans hb
/-- A box that is new to w0 is written. -/
theorem Fr.new {b0 b : Nat} {w0 w w' : World} (h : Fr b0 w0 w) (hu : Upd [b] w w') (hb : w0.heap.size ≤ b) : Fr b0 w0 w' :=
  ⟨hu.os.trans h.os, hu.tape.trans h.tape, hu.output.trans h.output, Nat.le_trans h.size hu.size, fun k hk hc => (hu.block k (Nat.lt_of_lt_of_le hk h.size) (by simp; omega)).trans (h.block k hk hc)⟩
theorem Own.stay {b0 : Nat} {w w' : World} {l : LdR} (h : Own b0 w l) (hu : Upd [] w w') : Own b0 w' l :=
  ⟨hu.row h.top (by simp), hu.row h.rs (by simp), hu.row h.bot (by simp), fun r hr => ⟨(h.rg r hr).1.stay hu, (h.rg r hr).2⟩, h.avT, h.avB, h.avR⟩
theorem Own.keep1 {b0 b : Nat} {w w' : World} {l : LdR} (h : Own b0 w l) (hu : Upd [b] w w') (h1 : l.top.v.ownBlock ≠ some b) (h2 : l.rs.v.ownBlock ≠ some b) (h3 : l.bot.v.ownBlock ≠ some b) (h4 : ∀ r ∈ l.rs.l, AvR r b) : Own b0 w' l :=
  ⟨hu.row h.top (fun x hx hm => h1 (by simp only [List.mem_singleton] at hm; rw [← hm]; exact hx)), hu.row h.rs (fun x hx hm => h2 (by simp only [List.mem_singleton] at hm; rw [← hm]; exact hx)), hu.row h.bot (fun x hx hm => h3 (by simp only [List.mem_singleton] at hm; rw [← hm]; exact hx)), fun r hr => ⟨(h.rg r hr).1.keep1 hu (h4 r hr), (h.rg r hr).2⟩, h.avT, h.avB, h.avR⟩
/-- A box of another kind is written. -/
theorem Own.box {b0 b : Nat} {w w' : World} {l : LdR} (h : Own b0 w l) {c : Array Value} {t : TypeId} {f : Nat × Nat} (hb : w.heap[b]? = some (.cells c t f)) (ht : t ≠ 36 ∧ t ≠ 93) (hav : ∀ r ∈ l.rs.l, AvR r b) (hu : Upd [b] w w') : Own b0 w' l :=
  h.keep1 hu (ne_own hb h.top ht.1) (ne_own hb h.rs ht.2) (ne_own hb h.bot ht.1) hav
theorem Own.has {b0 : Nat} {w : World} {l : LdR} (h : Own b0 w l) : HasD w l := by
  have h1 : HasS LI w l.top := has_own h.top
  have h2 : HasS LI w l.bot := has_own h.bot
  obtain ⟨_, ad, cap, e, hS, _⟩ := hasS_row h.rs
  refine ⟨h1, ?_, fun r hr => (h.rg r hr).1, h2⟩
  obtain ⟨ts, top, ⟨rl, ra, rc⟩, bot, mv, cp⟩ := l
  simp only [SlR.v, Value.slice.injEq] at e
  obtain ⟨rfl, _, rfl⟩ := e
  exact hS
theorem Own.av {b0 : Nat} {w : World} {l : LdR} (h : Own b0 w l) {b : Nat} (hb : b < b0) : AvD l b := by
  refine ⟨av_own h.top hb, fun _ a ea he => ?_, fun r hr => (h.rg r hr).2 b hb, av_own h.bot hb⟩
  have := own_ge h.rs a.block (by obtain ⟨ts, top, ⟨rl, ra, rc⟩, bot, mv, cp⟩ := l; simp only at ea; subst ea; rfl)
  omega
/-- From the queue l of its own in w a call came to l' in w', which holds g. -/
structure Ran (b0 : Nat) (w : World) (l : LdR) (g : Ld) (w' : World) (l' : LdR) : Prop where
  eq : l'.ld = g
  own : Own b0 w' l'
  av : ∀ b, b < w.heap.size → (∀ r ∈ l.rs.l, AvR r b) → ∀ r ∈ l'.rs.l, AvR r b
  fr : Fr b0 w w'
def Gran (b0 : Nat) (w : World) (l : LdR) (g : Ld) (e : Ending) (w' : World) : Prop := ∃ l', e = .returned (encD l') ∧ Ran b0 w l g w' l'
theorem Ran.enter {b0 : Nat} {w0 w : World} {l : LdR} {g : Ld} {w' : World} {l' : LdR} (hu : Upd [] w0 w) (h : Ran b0 w l g w' l') : Ran b0 w0 l g w' l' :=
  ⟨h.eq, h.own, fun b hb ha => h.av b (Nat.lt_of_lt_of_le hb hu.size) ha, h.fr.enter hu⟩
theorem Ran.trans {b0 : Nat} {w w1 w2 : World} {l l1 l2 : LdR} {g1 g2 : Ld} (h : Ran b0 w l g1 w1 l1) (k : Ran b0 w1 l1 g2 w2 l2) : Ran b0 w l g2 w2 l2 :=
  ⟨k.eq, k.own, fun b hb ha => k.av b (Nat.lt_of_lt_of_le hb h.fr.size) (h.av b hb ha), h.fr.trans k.fr⟩
theorem Ran.refl {b0 : Nat} {w : World} {l : LdR} (h : Own b0 w l) : Ran b0 w l l.ld w l := ⟨rfl, h, fun _ _ ha => ha, Fr.refl _ _⟩
theorem Ran.box {b0 b : Nat} {w0 w w' : World} {l l' : LdR} {g : Ld} (h : Ran b0 w0 l g w l') {c : Array Value} {f : Nat × Nat} (hb : w.heap[b]? = some (.cells c 68 f)) (hb0 : w0.heap.size ≤ b) (hav : ∀ r ∈ l'.rs.l, AvR r b) (hu : Upd [b] w w') : Ran b0 w0 l g w' l' :=
  ⟨h.eq, h.own.box hb (by decide) hav hu, h.av, h.fr.new hu hb0⟩
theorem Ran.stay {b0 : Nat} {w0 w w' : World} {l l' : LdR} {g : Ld} (h : Ran b0 w0 l g w l') (hu : Upd [] w w') : Ran b0 w0 l g w' l' :=
  ⟨h.eq, h.own.stay hu, h.av, h.fr.trans (Fr.of_upd hu (by simp))⟩
end Go.Proofs.YtmfnfinbkdemkaaGreat
