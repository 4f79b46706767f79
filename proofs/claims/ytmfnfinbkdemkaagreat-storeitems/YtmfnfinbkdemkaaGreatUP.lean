/- Contract: the program's Next. -/
/- Contracts: the program's items, a range function over the items of all buckets. -/
import Derived.Test.YtmfnfinbkdemkaaGreatUN
import Derived.RangeFuncNested
import Derived.RangeFuncBound
import Derived.RangeFuncCalls
import Derived.RangeFuncLeaves
import Derived.Shelf.Abstract
import Derived.Shelf.RegionOpen
import Derived.OwnWalkIn
import Derived.TacticsInMore
import Derived.LoopNIn
import Derived.LoopIn
import Derived.Sort.CutIn
namespace Go.Proofs.YtmfnfinbkdemkaaGreat
open Go.RowKit Go.Lib

theorem av_of_own {s : SlR It} {b : Nat} (h : s.v.ownBlock ≠ some b) : AvS s b := fun _ a ea he => by
  obtain ⟨l, ad, c⟩ := s
  simp only at ea
  subst ea
  exact h (by rw [← he]; rfl)
theorem Part.avBox {w w' : World} {bl sl : List (SlR It)} {k g b : Nat} {c : Array Value} {f : Nat × Nat} (h : Part w bl k w' sl g) (hb : w'.heap[b]? = some (.cells c 93 f)) : ∀ s ∈ sl, AvS s b := fun s hs => av_of_own (ne_own hb (h.own s hs) (by decide))
theorem Part.avG {w w' : World} {bl sl : List (SlR It)} {k g : Nat} (h : Part w bl k w' sl g) : ∀ s ∈ sl, AvS s g := fun s hs => by
  obtain ⟨cur, hc, _⟩ := h.held.ex
  exact av_of_own (ne_own hc (h.own s hs) (by decide))
theorem Part.neBox {w w' : World} {bl sl : List (SlR It)} {k g b : Nat} {c : Array Value} {f : Nat × Nat} (h : Part w bl k w' sl g) (hb : w'.heap[b]? = some (.cells c 93 f)) : g ≠ b := by
  obtain ⟨cur, hc, _⟩ := h.held.ex
  exact ne_block hc hb (by decide)
theorem avS_nilB (b : Nat) : AvS nilB b := fun h => absurd rfl h
theorem avR_of {fr wd cu : Int} {sl : List (SlR It)} {g b c : Nat} (hg : g ≠ b) (h : ∀ s ∈ sl, AvS s b) : AvR ⟨fr, wd, cu, ⟨sl, some ⟨g, 0, none⟩, c⟩⟩ b := ⟨fun _ a ea => by obtain rfl := Option.some.inj ea; exact hg, h⟩
theorem avs_set {sl : List (SlR It)} {k b : Nat} {s : SlR It} (h : ∀ x ∈ sl, AvS x b) (hs : AvS s b) : ∀ x ∈ sl.set k s, AvS x b := fun x hx => by
  rcases List.mem_or_eq_of_mem_set hx with hx | rfl
  · exact h x hx
  · exact hs

set_option maxRecDepth 100000 in
set_option maxHeartbeats 8000000 in
theorem Next_has (r : RgR) (w : World) (ha : HasR w r) (hg : GoodR r.rg) (hl : lenL r.rg.bs ≤ 100000) :
    Calls Tryz.prog 116 #[encR r] w (GivesRN r (nextR r.rg) w) := by
  have hlen : r.bk.l.length = 8 := by have := hg.len; simpa [RgR.rg, rowsOf_length] using this
  have HBL : Hid (∀ i (h : i < r.bk.l.length), r.bk.l[i].l.length ≤ 100000) := fun i h => by
    have h1 := len_le (bs := rowsOf r.bk.l) (k := i) (by rw [rowsOf_length]; exact h)
    rw [rowsOf_get h] at h1
    exact Nat.le_trans h1 hl
  have hCL := fun W (hu : Upd [] w W) => clone_has r W (ha.stay hu) (by omega) (fun s hs => by obtain ⟨i, hi, rfl⟩ := List.mem_iff_getElem.1 hs; have := HBL.out i hi; omega)
  have hST := fun (i : Nat) (hi : i < 8) W => start_has r (i : Int) W ⟨hg.fr0, hg.fr1⟩ (by have h1 := hg.prod (i := i) (by omega) (by omega); have h2 := hg.wd1; simp only [RgR.rg] at h1 h2; omega)
  have HPU : Hid (∀ p, nextR r.rg = p → ∀ e W, GivesRN r p w e W → GivesRN r (nextR r.rg) w e W) := fun p hp e W h => by rw [hp]; exact h
  obtain ⟨fr, wd, cu, bl, ba, bc⟩ := r
  have HL8 := Lib.hid hlen
  simp only at HL8 HBL
  unfold encR at hCL hST ⊢
  simp only at hlen hCL hST
  rw [hlen] at hCL hST ⊢
  have HCL := Lib.hid hCL
  have HST := Lib.hid hST
  clear ha hg hlen hCL hST hl
  go_enter Tryz.func116, Tryz.ntmps116
  go_upto_region 1 with (fail)
  generalize hA : (Obj.cells #[.int .i64 fr, .int .i64 wd, .int .i64 cu, .slice ba 8 bc] 93 : Obj) = A
  generalize hC : (Obj.cells #[.int .i64 0, .int .i64 0, .int .i64 0, .slice none 0 0] 93 : Obj) = C
  obtain ⟨hu, b0, b2, hsz⟩ := two_boxes w A C
  generalize (w.alloc A).alloc C = W at *
  generalize hH : w.heap.size = H at *
  rw [← hA] at b0
  rw [← hC] at b2
  have HU := Lib.hid hu; have HB0 := Lib.hid b0; have HB2 := Lib.hid b2; have HH := Lib.hid hH; have HSZ := Lib.hid hsz
  obtain ⟨c0, c1, c2, c3⟩ := cells4 b0
  clear hu hA hC b0 b2 hH hsz
  go_upto_region 2 with (go_at_call 110; (with_reducible refine (HCL.out _ HU.out).mono ?_); rintro e w1 ⟨sl, g, rfl, hP⟩)
  have hpu := (Upd.refl [] w1).alloc (.cells #[.int .i64 fr, .int .i64 wd, .int .i64 cu, .slice (some ⟨g, 0, none⟩) 8 8] 93)
  have bp := heap_alloc1 w1 (.cells #[.int .i64 fr, .int .i64 wd, .int .i64 cu, .slice (some ⟨g, 0, none⟩) 8 8] 93)
  have HP := Lib.hid (hP.stay hpu)
  have hWU := hP.upd.thn hpu
  have hPs : W.heap.size ≤ w1.heap.size := hP.upd.size
  generalize w1.alloc (.cells #[.int .i64 fr, .int .i64 wd, .int .i64 cu, .slice (some ⟨g, 0, none⟩) 8 8] 93) = W1 at *
  generalize w1.heap.size = P at *
  have HWU := Lib.hid hWU; have HBP := Lib.hid bp
  have hPH : H + 1 < P := by have := HSZ.out; omega
  have q0 := hWU.at HB0.out (by simp); have q2 := hWU.at HB2.out (by simp)
  have HQ0 := Lib.hid q0; have HQ2 := Lib.hid q2
  have HUW1 : Hid (Upd [] w W1) := HU.out.thn hWU
  clear c0 c1 c2 c3 hP hpu hWU hPs q0 q2
  obtain ⟨p0, p1, p2, p3⟩ := cells4 bp
  obtain ⟨y0, y1, y2, y3⟩ := free4 bp
  clear bp
  have HNG := Lib.hid (HP.out.neBox HBP.out)
  have HNH := Lib.hid (HP.out.neBox HQ2.out)
  have HN0 := Lib.hid (HP.out.neBox HQ0.out)
  go_wp2_with fail
  go_loopg [14] 8 (fun gk vi wr => ∃ k : Nat, vi = .int .i64 k ∧ k + gk = 8 ∧ Hid (∀ j, j < k → bAt (rowsOf bl) j = []) ∧ W1 = wr)
  case atStart => exact ⟨0, rfl, by omega, fun j hj => by omega, rfl⟩
  case round =>
    obtain ⟨k, rfl, hkg, HK, rfl⟩ := hrel
    by_cases hlt : k < 8
    · have hltz : (k : Int) < 8 := by omega
      have hk1 : k < bl.length := by have := HL8.out; omega
      have hisl : k < sl.length := by rw [HP.out.len]; exact hk1
      obtain ⟨b0, zz⟩ := HP.out.held.cell k hisl 0 _ rfl
      rw [show k * LB.k + 0 = k from by show k * 1 + 0 = _; omega] at b0 zz
      have hdn := HP.out.done k hisl hk1 hlt
      have hro := rowsOf_at hk1
      rw [← hdn] at hro
      have hir := HP.out.has _ (List.getElem_mem hisl)
      have hbl := HBL.out k hk1
      rw [← hdn] at hbl
      have hmem := List.getElem_mem hisl
      obtain ⟨bi, hbi⟩ : ∃ x, x = sl[k]'hisl := ⟨_, rfl⟩
      rw [← hbi] at b0 hro hir hbl hmem
      obtain ⟨il, am, cm⟩ := bi
      have HIR := Lib.hid hir; have HRO := Lib.hid hro; have HME := Lib.hid hmem
      simp only at b0 HRO hbl
      generalize hlm : il.length = m at *
      have HLM := Lib.hid hlm
      clear hir hbi hlm hdn hro hmem
      by_cases hm : m = 0
      · have hd : decide (0 < m) = false := by simp; omega
        have HM := Lib.hid hm
        clear hm
        go_wp2_with fail
        go_roundg (gk - 1)
        case measure => omega
        case rel => exact ⟨k + 1, by go_num, by omega, fun j hj => by
          by_cases hj2 : j = k
          · subst hj2
            rw [HRO.out]
            exact List.eq_nil_of_length_eq_zero (by rw [HLM.out, HM.out])
          · exact HK.out j (by omega), rfl⟩
      · have hd : decide (0 < m) = true := by simp; omega
        have HM := Lib.hid hm
        clear hm
        have hwk : IntKind.i64.wrap ((k : Int) + 1) = (k : Int) + 1 := by rw [IntKind.wrap_i64]; omega
        go_upto_region 7 with (fail)
        have hp2 : Part W bl bl.length W1 sl g := by rw [HL8.out]; exact HP.out
        have hput := hp2.put (w2 := W1) hisl nilB (Upd.refl _ _) (World.ownsRow_nil _ _ _ _)
        simp only [nilB, SlR.v, List.length_nil] at hput
        have hUg := upd_set1 W1 g k (.slice none 0 0)
        have hng := HNG.out
        have hnh := HNH.out
        have hn0 := HN0.out
        have qp := hUg.at HBP.out (by simpa using fun e => hng e.symm)
        have q2 := hUg.at HQ2.out (by simpa using fun e => hnh e.symm)
        have q0 := hUg.at HQ0.out (by simpa using fun e => hn0 e.symm)
        have HI2 := Lib.hid (HIR.out.keep1 hUg (HP.out.avG _ HME.out))
        have HPT := Lib.hid hput
        generalize W1.setCell ⟨g, k, none⟩ (.slice none 0 0) = w2 at hUg qp q2 q0 HI2 HPT ⊢
        have HQP := Lib.hid qp; have HQ22 := Lib.hid q2; have HQ02 := Lib.hid q0; have HUG := Lib.hid hUg
        clear p0 p1 p2 p3 y0 y1 y2 y3 b0 zz hput hp2 hng hnh hn0 hUg
        obtain ⟨p0, p1, p2, p3⟩ := cells4 qp
        obtain ⟨y0, y1, y2, y3⟩ := free4 qp
        clear qp q2 q0
        go_upto_region 8 with (fail)
        have bp : (w2.setCell ⟨P, 2, none⟩ (.int .i64 (k + 1))).heap[P]? = some (.cells #[.int .i64 fr, .int .i64 wd, .int .i64 (k + 1), .slice (some ⟨g, 0, none⟩) 8 8] 93 (0, 0)) := setCell_block HQP.out _
        have hu8 := upd_set1 w2 P 2 (.int .i64 (k + 1))
        generalize w2.setCell ⟨P, 2, none⟩ (.int .i64 (k + 1)) = w3 at bp hu8 ⊢
        have q0 := hu8.at HQ02.out (by simp; omega)
        have q2 := hu8.at HQ22.out (by simp; omega)
        have HQ3 := Lib.hid q2; have HU8 := Lib.hid hu8
        clear p0 p1 p2 p3 y0 y1 y2 y3
        obtain ⟨p0, p1, p2, p3⟩ := cells4 bp
        obtain ⟨c0, c1, c2, c3⟩ := cells4 q0
        obtain ⟨e0, e1, e2, e3⟩ := cells4 q2
        obtain ⟨z0, z1, z2, z3⟩ := free4 q2
        have hkp := Lib.hid (fun W (hu : Upd [H + 1] w3 W) => (⟨hu.cell p0 (by simp; omega), hu.cell p1 (by simp; omega), hu.cell p2 (by simp; omega), hu.cell p3 (by simp; omega), hu.cell c0 (by simp), hu.cell c1 (by simp), hu.cell c2 (by simp), hu.cell c3 (by simp)⟩ : W.cell? ⟨P, 0, none⟩ = some (.int .i64 fr) ∧ W.cell? ⟨P, 1, none⟩ = some (.int .i64 wd) ∧ W.cell? ⟨P, 2, none⟩ = some (.int .i64 (k + 1)) ∧ W.cell? ⟨P, 3, none⟩ = some (.slice (some ⟨g, 0, none⟩) 8 8) ∧ W.cell? ⟨H, 0, none⟩ = some (.int .i64 fr) ∧ W.cell? ⟨H, 1, none⟩ = some (.int .i64 wd) ∧ W.cell? ⟨H, 2, none⟩ = some (.int .i64 cu) ∧ W.cell? ⟨H, 3, none⟩ = some (.slice ba 8 bc)))
        have HSTK := Lib.hid (HST.out k hlt)
        clear bp q0 q2 hu8
        go_region_held3 (fun wz => wz.cell? ⟨P, 0, none⟩ = some (.int .i64 fr) ∧ wz.cell? ⟨P, 1, none⟩ = some (.int .i64 wd) ∧ wz.cell? ⟨P, 2, none⟩ = some (.int .i64 (k + 1)) ∧ wz.cell? ⟨P, 3, none⟩ = some (.slice (some ⟨g, 0, none⟩) 8 8) ∧ wz.cell? ⟨H, 0, none⟩ = some (.int .i64 fr) ∧ wz.cell? ⟨H, 1, none⟩ = some (.int .i64 wd) ∧ wz.cell? ⟨H, 2, none⟩ = some (.int .i64 cu) ∧ wz.cell? ⟨H, 3, none⟩ = some (.slice ba 8 bc)) (first | exact ⟨p0, p1, p2, p3, c0, c1, c2, c3⟩ | (refine hkp.out _ ?_; (repeat (first | exact Upd.refl _ _ | refine Upd.drew ?_ | refine Upd.setCell ?_ (by simp) _ | refine Upd.trans (T := []) ?_ (by assumption) (by simp))))) (first | (go_at_call 93; (with_reducible refine (HSTK.out _).mono ?_); rintro e w' ⟨rfl, hus⟩; try (have qz := hus.at HQ3.out (by simp); obtain ⟨x0, x1, x2, x3⟩ := cells4 qz; obtain ⟨v0, v1, v2, v3⟩ := free4 qz; clear qz)))
        have pf := stored4 (hus.at HQ3.out (by simp)) (.int .i64 fr) (.int .i64 wd) (.int .i64 (k + 1)) (.slice (some ⟨g, 0, none⟩) 8 8)
        have hU9 := ((Upd.refl [H + 1] w3).drew.trans hus (by simp)).trans (upd_set4 w' (H + 1) (.int .i64 fr) (.int .i64 wd) (.int .i64 (k + 1)) (.slice (some ⟨g, 0, none⟩) 8 8)) (fun x hx _ => hx)
        generalize ((((w'.setCell ⟨H + 1, 0, none⟩ (.int .i64 fr)).setCell ⟨H + 1, 1, none⟩ (.int .i64 wd)).setCell ⟨H + 1, 2, none⟩ (.int .i64 (k + 1))).setCell ⟨H + 1, 3, none⟩ (.slice (some ⟨g, 0, none⟩) 8 8)) = w4 at pf hU9 ⊢
        have HPF := Lib.hid pf; have HU9 := Lib.hid hU9
        clear p0 p1 p2 p3 c0 c1 c2 c3 e0 e1 e2 e3 z0 z1 z2 z3 x0 x1 x2 x3 v0 v1 v2 v3 hus pf hU9
        go_wp2_with fail
        obtain ⟨r0, r1, r2, r3⟩ := cells4 HPF.out
        have hh := HH.out
        have hsz := HSZ.out
        obtain ⟨t1, t2, t3, t4⟩ := HPT.out
        have havP : AvR ⟨fr, wd, (k : Int) + 1, ⟨sl.set k ⟨[], none, 0⟩, some ⟨g, 0, none⟩, bl.length⟩⟩ P := avR_of HNG.out (avs_set (HP.out.avBox HBP.out) (avS_nilB P))
        have havH : AvR ⟨fr, wd, (k : Int) + 1, ⟨sl.set k ⟨[], none, 0⟩, some ⟨g, 0, none⟩, bl.length⟩⟩ (H + 1) := avR_of HNH.out (avs_set (HP.out.avBox HQ2.out) (avS_nilB _))
        have hhas : HasR w4 ⟨fr, wd, (k : Int) + 1, ⟨sl.set k ⟨[], none, 0⟩, some ⟨g, 0, none⟩, bl.length⟩⟩ := (HasR.keep1 (w := w2) ⟨t1, t2⟩ HU8.out havP).keep1 HU9.out havH
        have hgg : W.heap.size ≤ g := HP.out.ge
        have hUF : Upd [] w w4 := ((HU.out.thn t4).new HU8.out (by omega)).new HU9.out (by omega)
        have hne : il ≠ [] := fun e => by have h1 := HLM.out; rw [e] at h1; have h2 := HM.out; simp at h1; omega
        have hnx := nextR_yes (r := (⟨fr, wd, cu, ⟨bl, ba, bc⟩⟩ : RgR).rg) (i := k) (by show k < (rowsOf bl).length; rw [rowsOf_length]; exact hk1) (by show bAt (rowsOf bl) k ≠ []; rw [HRO.out]; exact hne) HK.out
        have hrows : rowsOf sl = rowsOf bl := by
          have hp2 : Part W bl bl.length W1 sl g := by rw [HL8.out]; exact HP.out
          exact hp2.rows
        have hsl : sl.length = 8 := by rw [HP.out.len, HL8.out]
        have hit : HasS LI w4 ⟨il, am, cm⟩ := (HI2.out.keep1 HU8.out (HP.out.avBox HBP.out _ HME.out)).keep1 HU9.out (HP.out.avBox HQ2.out _ HME.out)
        have hia : ∀ b, b < w.heap.size → AvS ⟨il, am, cm⟩ b := fun b hb => HP.out.av (by omega) _ HME.out
        refine bodyPost_ret (v := .tuple #[.agg #[.int .i64 fr, .int .i64 wd, .int .i64 (k + 1), .slice (some ⟨g, 0, none⟩) 8 8], .slice am m cm, .int .i64 (fr + k * wd), .bool true]) (by simp [results, Tryz.results116, go_sem, r0, r1, r2, r3]) rfl (HPU.out _ hnx _ _ ⟨⟨fr, wd, (k : Int) + 1, ⟨sl.set k ⟨[], none, 0⟩, some ⟨g, 0, none⟩, bl.length⟩⟩, ⟨il, am, cm⟩, ?_, ⟨?_, hhas, fun b hb _ => ⟨fun _ a ea => by obtain rfl := Option.some.inj ea; simp only; omega, t3 b (by omega)⟩, hUF⟩, ⟨HRO.out.symm, hit, fun b hb _ => hia b hb⟩⟩)
        · simp only [encR, List.length_set, HL8.out, hsl, HLM.out, RgR.rg]
        · simp only [RgR.rg, takeR, rowsOf_set, hrows]
    · have hltz : ¬ (k : Int) < 8 := by omega
      obtain rfl : k = 8 := by omega
      go_upto_region 11 with (fail)
      have bp : (W1.setCell ⟨P, 2, none⟩ (.int .i64 8)).heap[P]? = some (.cells #[.int .i64 fr, .int .i64 wd, .int .i64 8, .slice (some ⟨g, 0, none⟩) 8 8] 93 (0, 0)) := setCell_block HBP.out _
      have hu8 := upd_set1 W1 P 2 (.int .i64 8)
      have HPZ := Lib.hid (HP.out.box HBP.out (by have := HSZ.out; omega) hu8)
      generalize W1.setCell ⟨P, 2, none⟩ (.int .i64 8) = w3 at bp hu8 HPZ ⊢
      have q2 := hu8.at HQ2.out (by simp; omega)
      have HQ3 := Lib.hid q2
      clear p0 p1 p2 p3 y0 y1 y2 y3
      obtain ⟨c0, c1, c2, c3⟩ := cells4 bp
      obtain ⟨e0, e1, e2, e3⟩ := cells4 q2
      obtain ⟨z0, z1, z2, z3⟩ := free4 q2
      clear bp q2 hu8
      go_wp2_with fail
      have p2 := stored4 HQ3.out (.int .i64 fr) (.int .i64 wd) (.int .i64 8) (.slice (some ⟨g, 0, none⟩) 8 8)
      have hU5 := upd_set4 w3 (H + 1) (.int .i64 fr) (.int .i64 wd) (.int .i64 8) (.slice (some ⟨g, 0, none⟩) 8 8)
      have HPF := (HPZ.out.of_upd HU.out).box HQ3.out (by have := HH.out; omega) hU5
      generalize (((w3.setCell ⟨H + 1, 0, none⟩ (.int .i64 fr)).setCell ⟨H + 1, 1, none⟩ (.int .i64 wd)).setCell ⟨H + 1, 2, none⟩ (.int .i64 8)).setCell ⟨H + 1, 3, none⟩ (.slice (some ⟨g, 0, none⟩) 8 8) = w4 at p2 hU5 HPF ⊢
      obtain ⟨r0, r1, r2, r3⟩ := cells4 p2
      have hnx := nextR_no (r := (⟨fr, wd, cu, ⟨bl, ba, bc⟩⟩ : RgR).rg) (fun j hj => HK.out j (by have : j < (rowsOf bl).length := hj; rw [rowsOf_length, HL8.out] at this; exact this))
      have hp2 : Part w bl bl.length w4 sl g := by rw [HL8.out]; exact HPF
      have hN := Part.nxt (r := ⟨fr, wd, cu, ⟨bl, ba, bc⟩⟩) hp2
      have hsl : sl.length = 8 := by rw [HPF.len, HL8.out]
      exact bodyPost_ret (v := .tuple #[.agg #[.int .i64 fr, .int .i64 wd, .int .i64 8, .slice (some ⟨g, 0, none⟩) 8 8], .slice none 0 0, .int .i64 0, .bool false]) (by simp [results, Tryz.results116, go_sem, r0, r1, r2, r3]) rfl (HPU.out _ hnx _ _ ⟨⟨fr, wd, 8, ⟨sl, some ⟨g, 0, none⟩, bl.length⟩⟩, nilS, by simp only [encR, HL8.out, hsl, nilS, List.length_nil], ⟨by simp only [RgR.rg, hp2.rows], ⟨hN.has.bk, hN.has.its⟩, fun b hb ha => ⟨(hN.av b hb ⟨ha.bk, ha.its⟩).bk, (hN.av b hb ⟨ha.bk, ha.its⟩).its⟩, hN.upd⟩, ⟨rfl, hasS_nil _ _, fun b hb ha => fun h => absurd rfl h⟩⟩)
end Go.Proofs.YtmfnfinbkdemkaaGreat
namespace Go.Proofs.YtmfnfinbkdemkaaGreat
open Go.RowKit Go.Shelf

/-- All items of the first k buckets, each with its bucket's number. -/
def allP (bs : List (List It)) : Nat → List (Nat × It)
  | 0 => []
  | k + 1 => allP bs k ++ (bAt bs k).map (fun it => (k, it))
def allTo (bs : List (List It)) (k j : Nat) : List (Nat × It) := allP bs k ++ ((bAt bs k).take j).map (fun it => (k, it))
theorem allTo_zero (bs : List (List It)) (k : Nat) : allTo bs k 0 = allP bs k := by simp [allTo]
theorem allTo_all {bs : List (List It)} {k j : Nat} (h : (bAt bs k).length ≤ j) : allTo bs k j = allP bs (k + 1) := by rw [allTo, List.take_of_length_le h]; rfl
theorem allTo_succ {bs : List (List It)} {k j : Nat} (h : j < (bAt bs k).length) : allTo bs k (j + 1) = allTo bs k j ++ [(k, (bAt bs k)[j])] := by
  rw [allTo, allTo, List.take_succ_eq_append_getElem h, List.map_append, ← List.append_assoc]
  rfl
theorem allP_length (bs : List (List It)) : ∀ k, k ≤ bs.length → (allP bs k).length = lenTo bs k
  | 0, _ => by rw [lenTo_zero]; rfl
  | k + 1, h => by
    rw [lenTo_succ (show k < bs.length by omega), allP, List.length_append, allP_length bs k (by omega), List.length_map, bAt_get (by omega)]
theorem allTo_length {bs : List (List It)} {k j : Nat} (hk : k < bs.length) (hj : j < (bAt bs k).length) : (allTo bs k j).length < lenL bs := by
  have h1 := lenTo_succ hk
  have h2 := lenTo_le bs (k + 1)
  rw [allTo, List.length_append, allP_length bs k (by omega), List.length_map, List.length_take]
  rw [bAt_get hk] at hj ⊢
  omega
theorem allP_mono {bs : List (List It)} {k : Nat} : ∀ m, k ≤ m → ∃ rest, allP bs k ++ rest = allP bs m
  | m, h => by
    by_cases e : k = m
    · subst e; exact ⟨[], by simp⟩
    · obtain ⟨m', rfl⟩ : ∃ m', m = m' + 1 := ⟨m - 1, by omega⟩
      obtain ⟨rest, hr⟩ := allP_mono (bs := bs) (k := k) m' (by omega)
      exact ⟨rest ++ (bAt bs m').map (fun it => (m', it)), by rw [← List.append_assoc, hr]; rfl⟩
theorem allTo_pre {bs : List (List It)} {k j : Nat} (hk : k < bs.length) : ∃ rest, allTo bs k j ++ rest = allP bs bs.length := by
  obtain ⟨rest, hr⟩ := allP_mono (bs := bs) (k := k + 1) bs.length (by omega)
  refine ⟨((bAt bs k).drop j).map (fun it => (k, it)) ++ rest, ?_⟩
  rw [allTo, ← List.append_assoc, List.append_assoc (allP bs k), ← List.map_append, List.take_append_drop]
  exact hr
theorem mem_allP {bs : List (List It)} {i : Nat} {it : It} : ∀ {k : Nat}, (i, it) ∈ allP bs k ↔ i < k ∧ it ∈ bAt bs i
  | 0 => by simp [allP]
  | k + 1 => by
    rw [allP, List.mem_append, mem_allP (k := k)]
    simp only [List.mem_map, Prod.mk.injEq]
    constructor
    · rintro (⟨h1, h2⟩ | ⟨x, hx, rfl, rfl⟩)
      · exact ⟨by omega, h2⟩
      · exact ⟨by omega, hx⟩
    · rintro ⟨h1, h2⟩
      by_cases e : i = k
      · subst e; exact .inr ⟨it, h2, rfl, rfl⟩
      · exact .inl ⟨by omega, h2⟩

/-- What the range function hands over. -/
abbrev Px (n : Nat) := { p : Nat × It // p.1 < n }
def penc {n : Nat} (x : Px n) : Array Value := #[.int .i64 x.1.1, aggI x.1.2]
def pvs {n : Nat} (pre : List (Px n)) : List (Nat × It) := pre.map (·.1)
theorem pvs_snoc {n : Nat} (pre : List (Px n)) (x : Px n) : pvs (pre ++ [x]) = pvs pre ++ [x.1] := by simp [pvs]
theorem pvs_length {n : Nat} (pre : List (Px n)) : (pvs pre).length = pre.length := by simp [pvs]

/-- The rung r lies in w, and the box B holds it. -/
def InBox (B : Nat) (r : RgR) (w : World) : Prop := w.heap[B]? = some (.cells (cellsR r) 93 (0, 0)) ∧ HasR w r
theorem InBox.stay {B : Nat} {r : RgR} {w w' : World} (h : InBox B r w) (hu : Upd [] w w') : InBox B r w' := ⟨hu.at h.1 (by simp), h.2.stay hu⟩

end Go.Proofs.YtmfnfinbkdemkaaGreat
