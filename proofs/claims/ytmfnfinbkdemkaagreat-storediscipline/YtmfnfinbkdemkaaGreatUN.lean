
/- Contract: the program's Put. -/
import Derived.Test.YtmfnfinbkdemkaaGreatUM
import Derived.Test.YtmfnfinbkdemkaaGreatK
namespace Go.Proofs.YtmfnfinbkdemkaaGreat
open Go.RowKit Go.Lib

def cloR (r : RgR) (sl : List (SlR It)) (g : Nat) : RgR := ⟨r.fr, r.wd, r.cu, ⟨sl, some ⟨g, 0, none⟩, r.bk.l.length⟩⟩
theorem Part.hasR {w w' : World} {r : RgR} {sl : List (SlR It)} {g : Nat} (h : Part w r.bk.l r.bk.l.length w' sl g) : HasR w' (cloR r sl g) := ⟨h.held.has, h.has⟩
theorem Part.avR {w w' : World} {r : RgR} {sl : List (SlR It)} {k g b : Nat} (h : Part w r.bk.l k w' sl g) (hb : b < w.heap.size) : AvR (cloR r sl g) b := ⟨fun _ a ea => by obtain rfl := Option.some.inj ea; have := h.ge; simp only; omega, h.av hb⟩
theorem Part.nxt {w w' : World} {r : RgR} {sl : List (SlR It)} {g : Nat} (h : Part w r.bk.l r.bk.l.length w' sl g) : Nxt w r r.rg w' (cloR r sl g) :=
  ⟨by simp only [RgR.rg, cloR, h.rows], h.hasR, fun _ hb _ => h.avR hb, h.upd⟩
/-- Bucket i of the copy is replaced, its row grown in place or anew. -/
theorem Part.put {w w1 w2 : World} {bl sl : List (SlR It)} {g i : Nat} (h : Part w bl bl.length w1 sl g) (hi : i < sl.length) (s : SlR It) (hu : Upd (sl[i].v.ownBlock.toList) w1 w2) (ho : w2.ownsRow w.heap.size 36 3 s.v s.l.length (LI.flat s.l)) :
    HasS LB (w2.setCell ⟨g, i, none⟩ s.v) ⟨sl.set i s, some ⟨g, 0, none⟩, bl.length⟩ ∧ (∀ x ∈ sl.set i s, HasS LI (w2.setCell ⟨g, i, none⟩ s.v) x) ∧ (∀ b, b < w.heap.size → ∀ x ∈ sl.set i s, AvS x b) ∧ Upd [] w (w2.setCell ⟨g, i, none⟩ s.v) := by
  obtain ⟨cur, hc, _⟩ := h.held.ex
  have hgn : g ∉ sl[i].v.ownBlock.toList := fun hg => ne_own hc (h.own _ (List.getElem_mem hi)) (by decide) (toList_of hg)
  have hheld := h.held.keep hu hgn
  obtain ⟨cur2, hc2, _⟩ := hheld.ex
  have hU := upd_set1 w2 g i s.v
  have hkeep : ∀ {base n : Nat} {v : Value} {xs : List Value}, w2.ownsRow base 36 3 v n xs → (w2.setCell ⟨g, i, none⟩ s.v).ownsRow base 36 3 v n xs := fun hr => row_setCell hr (ne_own hc2 hr (by decide)) _
  have hU2 : Upd [] w w2 := h.upd.trans hu (fun x hx hl => by
    have := own_ge (h.own _ (List.getElem_mem hi)) x (toList_of hx)
    omega)
  have hrow : ∀ x ∈ sl.set i s, (w2.setCell ⟨g, i, none⟩ s.v).ownsRow w.heap.size 36 3 x.v x.l.length (LI.flat x.l) := fun x hx => by
    obtain ⟨j, hj, rfl⟩ := List.mem_iff_getElem.1 hx
    simp only [List.length_set] at hj
    by_cases e : i = j
    · subst e
      rw [List.getElem_set_self]
      exact hkeep ho
    · rw [List.getElem_set_ne e]
      refine hkeep (hu.row (h.own _ (List.getElem_mem hj)) (fun k hk hk2 => ?_))
      have hk2 := toList_of hk2
      rcases Nat.lt_or_gt_of_ne e with hij | hij
      · exact h.dis i j hi hj hij k hk2 hk
      · exact h.dis j i hj hi hij k hk hk2
  refine ⟨?_, fun x hx => ?_, fun b hb x hx _ a ea => ?_, hU2.new hU h.ge⟩
  · have := hheld.set i hi s
    have e : stores w2 g (i * LB.k) (LB.enc s) = w2.setCell ⟨g, i, none⟩ s.v := by
      show w2.setCell ⟨g, i * 1, none⟩ _ = _
      rw [Nat.mul_one]; rfl
    rw [e] at this
    exact this.has
  · obtain ⟨_, ad, cap, e, hS, _⟩ := hasS_row (hrow x hx)
    obtain ⟨l, a, c⟩ := x
    simp only [SlR.v, Value.slice.injEq] at e
    obtain ⟨rfl, _, rfl⟩ := e
    exact hS
  · have := own_ge (hrow x hx) a.block (by obtain ⟨l, a', c⟩ := x; simp only at ea; subst ea; rfl)
    omega

set_option maxRecDepth 100000 in
set_option maxHeartbeats 8000000 in
theorem Put_has (r : RgR) (it : It) (w : World) (ha : HasR w r) (hg : GoodR r.rg) (hl : lenL r.rg.bs ≤ 100000) :
    Calls Tryz.prog 79 #[encR r, aggI it] w (GivesRB r (putR r.rg it) w) := by
  have HCC := Lib.hid (fun W => Current_has r W hg)
  have HCE := Lib.hid (fun W => End_has r W hg)
  have hlen : r.bk.l.length = 8 := by have := hg.len; simpa [RgR.rg, rowsOf_length] using this
  have HBL : Hid (∀ i (h : i < r.bk.l.length), r.bk.l[i].l.length ≤ 100000) := fun i h => by
    have h1 := len_le (bs := rowsOf r.bk.l) (k := i) (by rw [rowsOf_length]; exact h)
    rw [rowsOf_get h] at h1
    exact Nat.le_trans h1 hl
  have hCL := fun W (hu : Upd [] w W) => clone_has r W (ha.stay hu) (by omega) (fun s hs => by obtain ⟨i, hi, rfl⟩ := List.mem_iff_getElem.1 hs; have := HBL.out i hi; omega)
  have HG := Lib.hid hg
  have HPU : Hid (∀ p, putR r.rg it = p → ∀ e W, GivesRB r p w e W → GivesRB r (putR r.rg it) w e W) := fun p hp e W h => by rw [hp]; exact h
  obtain ⟨t, q, s⟩ := it
  have HFI : Hid (Fits r.rg t ↔ curT r.rg ≤ t ∧ t < endT r.rg) := Iff.rfl
  have htm := hg.times
  have HSM : Hid (∀ W sl g, Part w r.bk.l r.bk.l.length W sl g → GivesRB r (r.rg, false) w (.returned (.tuple #[.agg #[.int .i64 r.fr, .int .i64 r.wd, .int .i64 r.cu, .slice (some ⟨g, 0, none⟩) 8 8], .bool false])) W) := fun W sl g h => ⟨cloR r sl g, by have hl2 := h.len; simp only [encR, cloR, hl2, hlen], h.nxt⟩
  obtain ⟨fr, wd, cu, bl, ba, bc⟩ := r
  have HA := Lib.hid ha
  have HL8 := Lib.hid hlen
  simp only at HL8 HBL HSM
  unfold encR at HCC HCE hCL ⊢
  simp only at HCC HCE hlen hCL
  rw [hlen] at HCC HCE hCL HSM ⊢
  have HCL := Lib.hid hCL
  clear ha hg hlen hCL
  generalize hct : curT (⟨fr, wd, cu, ⟨bl, ba, bc⟩⟩ : RgR).rg = ct at HCC HFI htm
  generalize het : endT (⟨fr, wd, cu, ⟨bl, ba, bc⟩⟩ : RgR).rg = et at HCE HFI htm
  clear hct het
  unfold aggI
  simp only
  go_enter Tryz.func79, Tryz.ntmps79
  go_upto_region 1 with (fail)
  generalize hA : (Obj.cells #[.int .i64 fr, .int .i64 wd, .int .i64 cu, .slice ba 8 bc] 93 : Obj) = A
  generalize hB : (Obj.cells #[.int .i64 t, .int .i64 q, .int .i64 s] 36 : Obj) = B
  generalize hC : (Obj.cells #[.int .i64 0, .int .i64 0, .int .i64 0, .slice none 0 0] 93 : Obj) = C
  obtain ⟨hu, b0, b1, b2, hsz⟩ := three_boxes w A B C
  generalize ((w.alloc A).alloc B).alloc C = W at *
  generalize hH : w.heap.size = H at *
  rw [← hA] at b0
  rw [← hB] at b1
  rw [← hC] at b2
  have HU := Lib.hid hu; have HB0 := Lib.hid b0; have HB1 := Lib.hid b1; have HB2 := Lib.hid b2; have HH := Lib.hid hH; have HSZ := Lib.hid hsz
  obtain ⟨c0, c1, c2, c3⟩ := cells4 b0
  clear hu hA hB hC b0 b1 b2 hH hsz
  go_upto_region 2 with (go_at_call 110; (with_reducible refine (HCL.out _ HU.out).mono ?_); rintro e w1 ⟨sl, g, rfl, hP⟩)
  have HPW := Lib.hid hP
  have hpu := (Upd.refl [] w1).alloc (.cells #[.int .i64 fr, .int .i64 wd, .int .i64 cu, .slice (some ⟨g, 0, none⟩) 8 8] 93)
  have bp := heap_alloc1 w1 (.cells #[.int .i64 fr, .int .i64 wd, .int .i64 cu, .slice (some ⟨g, 0, none⟩) 8 8] 93)
  have HPP := Lib.hid (hP.stay hpu)
  have HGO : Hid (∀ x ∈ sl, ∀ y, x.v.ownBlock = some y → H + 3 ≤ y) := fun x hx y hy => by rw [← HSZ.out]; exact own_ge (hP.own x hx) y hy
  have hWU := hP.upd.thn hpu
  have hPs : W.heap.size ≤ w1.heap.size := hP.upd.size
  generalize w1.alloc (.cells #[.int .i64 fr, .int .i64 wd, .int .i64 cu, .slice (some ⟨g, 0, none⟩) 8 8] 93) = W1 at *
  generalize w1.heap.size = P at *
  have HWU := Lib.hid hWU; have HBP := Lib.hid bp; have HPS := Lib.hid hPs
  have q0 := hWU.at HB0.out (by simp); have q1 := hWU.at HB1.out (by simp); have q2 := hWU.at HB2.out (by simp)
  have HQ0 := Lib.hid q0; have HQ1 := Lib.hid q1; have HQ2 := Lib.hid q2
  have HUW1 : Hid (Upd [] w W1) := HU.out.thn hWU
  clear c0 c1 c2 c3 hP hpu hWU hPs bp HPW
  obtain ⟨c0, c1, c2, c3⟩ := cells4 q0
  obtain ⟨d0, d1, d2⟩ := cells3 q1
  have k0 := kept_at c0; have k1 := kept_at c1; have k2 := kept_at c2; have k3 := kept_at c3; have j0 := kept_at d0
  clear c0 c1 c2 c3 d0 d1 d2 q0 q1 q2
  by_cases hf : ct ≤ t ∧ t < et
  case neg =>
    have HPN := Lib.hid (HPU.out _ (putR_no (r := (⟨fr, wd, cu, ⟨bl, ba, bc⟩⟩ : RgR).rg) (it := ⟨t, q, s⟩) (fun h => hf (HFI.out.1 h))))
    by_cases hlt : t < ct
    · have hd0 : decide (t < ct) = true := by simpa using hlt
      clear hf hlt htm
      refine wp_region_quiet_kept mixed (by kernel_rfl) ?_
      repeat (go_big_quiet_step (first | (go_at_call 67; exact calls_kept (HCC.out _)) | (go_at_call 111; exact calls_kept (HCE.out _))))
      refine wpQuiet_nil ?_
      intro W3 hw'
      obtain ⟨⟨Wx, hu⟩, hw''⟩ := hw'
      simp only at hw''
      subst hw''
      clear k0 k1 k2 k3 j0
      have q0 := hu.at HBP.out (by simp)
      have q2 := hu.at HQ2.out (by simp)
      have HPZ := Lib.hid ((HPP.out.of_upd HU.out).stay hu); have HQZ := Lib.hid q2
      obtain ⟨c0, c1, c2, c3⟩ := cells4 q0
      obtain ⟨e0, e1, e2, e3⟩ := cells4 q2
      obtain ⟨z0, z1, z2, z3⟩ := free4 q2
      clear q0 q2 hu
      go_wp2_with fail
      have p2 := stored4 HQZ.out (.int .i64 fr) (.int .i64 wd) (.int .i64 cu) (.slice (some ⟨g, 0, none⟩) 8 8)
      have hU5 := upd_set4 W3 (H + 1 + 1) (.int .i64 fr) (.int .i64 wd) (.int .i64 cu) (.slice (some ⟨g, 0, none⟩) 8 8)
      have HPF := HPZ.out.box HQZ.out (by have := HH.out; omega) hU5
      generalize (((W3.setCell ⟨H + 1 + 1, 0, none⟩ (.int .i64 fr)).setCell ⟨H + 1 + 1, 1, none⟩ (.int .i64 wd)).setCell ⟨H + 1 + 1, 2, none⟩ (.int .i64 cu)).setCell ⟨H + 1 + 1, 3, none⟩ (.slice (some ⟨g, 0, none⟩) 8 8) = w4 at p2 hU5 HPF ⊢
      obtain ⟨r0, r1, r2, r3⟩ := cells4 p2
      exact bodyPost_ret (v := .tuple #[.agg #[.int .i64 fr, .int .i64 wd, .int .i64 cu, .slice (some ⟨g, 0, none⟩) 8 8], .bool false]) (by simp [results, Tryz.results79, go_sem, r0, r1, r2, r3]) rfl (HPN.out _ _ (HSM.out _ _ _ HPF))
    · have hd0 : decide (t < ct) = false := by simpa using hlt
      have hd1 : decide (et ≤ t) = true := by simp; omega
      clear hf hlt htm
      refine wp_region_quiet_kept mixed (by kernel_rfl) ?_
      repeat (go_big_quiet_step (first | (go_at_call 67; exact calls_kept (HCC.out _)) | (go_at_call 111; exact calls_kept (HCE.out _))))
      refine wpQuiet_nil ?_
      intro W3 hw'
      obtain ⟨⟨Wx, hu⟩, hw''⟩ := hw'
      simp only at hw''
      subst hw''
      clear k0 k1 k2 k3 j0
      have q0 := hu.at HBP.out (by simp)
      have q2 := hu.at HQ2.out (by simp)
      have HPZ := Lib.hid ((HPP.out.of_upd HU.out).stay hu); have HQZ := Lib.hid q2
      obtain ⟨c0, c1, c2, c3⟩ := cells4 q0
      obtain ⟨e0, e1, e2, e3⟩ := cells4 q2
      obtain ⟨z0, z1, z2, z3⟩ := free4 q2
      clear q0 q2 hu
      go_wp2_with fail
      have p2 := stored4 HQZ.out (.int .i64 fr) (.int .i64 wd) (.int .i64 cu) (.slice (some ⟨g, 0, none⟩) 8 8)
      have hU5 := upd_set4 W3 (H + 1 + 1) (.int .i64 fr) (.int .i64 wd) (.int .i64 cu) (.slice (some ⟨g, 0, none⟩) 8 8)
      have HPF := HPZ.out.box HQZ.out (by have := HH.out; omega) hU5
      generalize (((W3.setCell ⟨H + 1 + 1, 0, none⟩ (.int .i64 fr)).setCell ⟨H + 1 + 1, 1, none⟩ (.int .i64 wd)).setCell ⟨H + 1 + 1, 2, none⟩ (.int .i64 cu)).setCell ⟨H + 1 + 1, 3, none⟩ (.slice (some ⟨g, 0, none⟩) 8 8) = w4 at p2 hU5 HPF ⊢
      obtain ⟨r0, r1, r2, r3⟩ := cells4 p2
      exact bodyPost_ret (v := .tuple #[.agg #[.int .i64 fr, .int .i64 wd, .int .i64 cu, .slice (some ⟨g, 0, none⟩) 8 8], .bool false]) (by simp [results, Tryz.results79, go_sem, r0, r1, r2, r3]) rfl (HPN.out _ _ (HSM.out _ _ _ HPF))
  have HPY := Lib.hid (HPU.out _ (putR_yes (r := (⟨fr, wd, cu, ⟨bl, ba, bc⟩⟩ : RgR).rg) (it := ⟨t, q, s⟩) (HFI.out.2 hf)))
  have hix := HG.out.ix (HFI.out.2 hf)
  have hg2 := HG.out.wd0; have hg3 := HG.out.wd1; have hg4 := HG.out.fr0; have hg5 := HG.out.fr1
  obtain ⟨i, hie⟩ : ∃ i, i = ixR (⟨fr, wd, cu, ⟨bl, ba, bc⟩⟩ : RgR).rg t := ⟨_, rfl⟩
  rw [← hie] at hix
  obtain ⟨hi8, hi9, hi0, hi7, hi1⟩ := hix
  have HIX : Hid (∀ W, Calls Tryz.prog 112 #[.int .i64 fr, .int .i64 wd, .int .i64 t] W fun e w' => e = .returned (.int .i64 (i : Nat)) ∧ Upd [] W w') := fun W => by
    rw [hi1]
    simp only [RgR.rg] at hg2 hg3 hg4 hg5 hi0
    have hp : 0 ≤ (i : Int) * wd := Int.mul_nonneg (by omega) (by omega)
    exact Index_in fr wd t (by omega) (by omega) (by omega) (by omega) W
  have HIE := Lib.hid hie
  have hiz : (i : Int) < 8 := by omega
  have hd0 : decide (t < ct) = false := by simp; omega
  have hd1 : decide (et ≤ t) = false := by simp; omega
  have hd2 : decide ((i : Int) < 0) = false := by simp
  have hd3 : decide (8 ≤ (i : Int)) = false := by simp; omega
  have hd4 : decide (8 ≤ i) = false := by simp; omega
  clear hf htm hg2 hg3 hg4 hg5 hi0 hi1 hie hl hi9 hi7
  refine wp_region_quiet_kept mixed (by kernel_rfl) ?_
  repeat (go_big_quiet_step (first | (go_at_call 67; exact calls_kept (HCC.out _)) | (go_at_call 111; exact calls_kept (HCE.out _))))
  refine wpQuiet_nil ?_
  intro W3 hw'
  obtain ⟨⟨Wx, hu⟩, hw''⟩ := hw'
  simp only at hw''
  subst hw''
  clear k0 k1 k2 k3 j0
  clear hd0 hd1 HCC HCE
  have HPZ := Lib.hid (HPP.out.stay hu)
  have HUW3 : Hid (Upd [] W1 W3) := Lib.hid hu
  have q0 := hu.at HQ0.out (by simp); have q1 := hu.at HQ1.out (by simp)
  obtain ⟨c0, c1, c2, c3⟩ := cells4 q0
  obtain ⟨d0, d1, d2⟩ := cells3 q1
  clear q0 q1 hu c2 c3 d1 d2
  go_upto_region 5 with (go_at_call 112; (with_reducible refine (HIX.out _).mono ?_); rintro e w2 ⟨rfl, hu2⟩)
  have hu3 := HUW3.out.thn hu2
  have HU23 := Lib.hid hu2
  have HP2 := Lib.hid (HPZ.out.stay hu2)
  have q0 := hu3.at HBP.out (by simp); have q1 := hu3.at HQ1.out (by simp); have q2 := hu3.at HQ2.out (by simp)
  have HBP2 := Lib.hid q0; have HB12 := Lib.hid q1; have HB22 := Lib.hid q2
  clear c0 c1 d0
  obtain ⟨p0, p1, p2, p3⟩ := cells4 q0
  obtain ⟨d0, d1, d2⟩ := cells3 q1
  clear q0 q1 q2 hu2 hu3 p0 p1 p2
  have hisl : i < sl.length := by rw [HP2.out.len, HL8.out]; exact hi8
  have hibl : i < bl.length := by rw [HL8.out]; exact hi8
  obtain ⟨b0, zz⟩ := HP2.out.held.cell i hisl 0 _ rfl
  rw [show i * LB.k + 0 = i from by show i * 1 + 0 = _; omega] at b0 zz
  have HOW := Lib.hid (HP2.out.own _ (List.getElem_mem hisl))
  have HDN := Lib.hid (HP2.out.done i hisl hibl hi8)
  have hbn := HBL.out i hibl
  have HRO := Lib.hid (rowsOf_at hibl)
  have hp2 : Part W bl bl.length w2 sl g := by rw [HL8.out]; exact HP2.out
  have HPUT := Lib.hid (fun (s' : SlR It) w3 => hp2.put (w2 := w3) hisl s')
  clear hp2
  rw [← HDN.out] at hbn HRO
  obtain ⟨bi, hbi⟩ : ∃ x, x = sl[i]'hisl := ⟨_, rfl⟩
  have HGE := Lib.hid (HGO.out _ (List.getElem_mem hisl))
  rw [← hbi] at b0 HOW hbn HRO HPUT HGE
  obtain ⟨il, am, cm⟩ := bi
  simp only [SlR.v] at b0 HOW hbn HRO HPUT HGE
  generalize hlm : il.length = m at *
  have HLM := Lib.hid hlm
  clear hbi hlm HDN
  go_upto_region 7 with (fail)
  have hS : w2.drew.cell? ⟨P, 3, none⟩ = some (.slice (some ⟨g, 0, none⟩) 8 8) ∧ w2.drew.cell? ⟨g, i, none⟩ = some (.slice am m cm) ∧ w2.drew.cell? ⟨H + 1, 0, none⟩ = some (.int .i64 t) ∧ w2.drew.cell? ⟨H + 1, 1, none⟩ = some (.int .i64 q) ∧ w2.drew.cell? ⟨H + 1, 2, none⟩ = some (.int .i64 s) := ⟨p3, b0, d0, d1, d2⟩
  have hnz : ¬ (8 : Int) ≤ (i : Int) := by omega
  refine wp_region_K (fun wy => wy.cell? ⟨P, 3, none⟩ = some (.slice (some ⟨g, 0, none⟩) 8 8) ∧ wy.cell? ⟨g, i, none⟩ = some (.slice am m cm) ∧ wy.cell? ⟨H + 1, 0, none⟩ = some (.int .i64 t) ∧ wy.cell? ⟨H + 1, 1, none⟩ = some (.int .i64 q) ∧ wy.cell? ⟨H + 1, 2, none⟩ = some (.int .i64 s)) 12 mixed ?_
  refine wpAnyK_take (i := 0) (d := some 40) (v := .pointer (some ⟨P, 3, none⟩)) rfl rfl (by kernel_rfl) (fun _ _ _ h => h) (.inl ⟨rfl, fun wz hz => by simp [execOp, Act.eval, go_sem]⟩) hS ?_
  refine wpAnyK_take (i := 1) (d := some 41) (v := .slice (some ⟨g, 0, none⟩) 8 8) rfl rfl (by kernel_rfl) (fun _ _ _ h => h) (.inl ⟨rfl, fun wz hz => by simp [execOp, Act.eval, Act.put, go_sem, hz.1]⟩) hS ?_
  refine wpAnyK_take (i := 2) (d := some 42) (v := .int .i64 i) rfl rfl (by kernel_rfl) (fun _ _ _ h => h) (.inl ⟨rfl, fun wz hz => rfl⟩) hS ?_
  refine wpAnyK_take (i := 3) (d := some 43) (v := .pointer (some ⟨P, 3, none⟩)) rfl rfl (by kernel_rfl) (fun _ _ _ h => h) (.inl ⟨rfl, fun wz hz => by simp [execOp, Act.eval, Act.put, go_sem]⟩) hS ?_
  refine wpAnyK_take (i := 4) (d := some 44) (v := .slice (some ⟨g, 0, none⟩) 8 8) rfl rfl (by kernel_rfl) (fun _ _ _ h => h) (.inl ⟨rfl, fun wz hz => by simp [execOp, Act.eval, Act.put, go_sem, hz.1]⟩) hS ?_
  refine wpAnyK_take (i := 5) (d := some 45) (v := .int .i64 i) rfl rfl (by kernel_rfl) (fun _ _ _ h => h) (.inl ⟨rfl, fun wz hz => rfl⟩) hS ?_
  refine wpAnyK_take (i := 6) (d := some 46) (v := .pointer (some ⟨g, i, none⟩)) rfl rfl (by kernel_rfl) (fun _ _ _ h => h) (.inl ⟨rfl, fun wz hz => by simp [execOp, Act.eval, Act.put, go_sem, hnz]⟩) hS ?_
  refine wpAnyK_take (i := 7) (d := some 47) (v := .slice am m cm) rfl rfl (by kernel_rfl) (fun _ _ _ h => h) (.inl ⟨rfl, fun wz hz => by simp [execOp, Act.eval, Act.put, go_sem, hz.2.1]⟩) hS ?_
  refine wpAnyK_take (i := 8) (d := some 48) (v := .agg #[.int .i64 t, .int .i64 q, .int .i64 s]) rfl rfl (by kernel_rfl) (fun _ _ _ h => h) (.inl ⟨rfl, fun wz hz => by simp [execOp, Act.eval, Act.put, go_sem, hz.2.2.1, hz.2.2.2.1, hz.2.2.2.2]⟩) hS ?_
  generalize hX : (Obj.cells #[.int .i64 t, .int .i64 q, .int .i64 s] 36 : Obj) = X
  have hUd := ((Upd.refl [] w2).alloc X).drew
  have hbX : (w2.alloc X).drew.heap[w2.heap.size]? = some (.cells #[.int .i64 t, .int .i64 q, .int .i64 s] 36) := by rw [hX]; exact heap_alloc1 w2 X
  have hS1 : (w2.alloc X).drew.cell? ⟨P, 3, none⟩ = some (.slice (some ⟨g, 0, none⟩) 8 8) ∧ (w2.alloc X).drew.cell? ⟨g, i, none⟩ = some (.slice am m cm) ∧ (w2.alloc X).drew.cell? ⟨H + 1, 0, none⟩ = some (.int .i64 t) ∧ (w2.alloc X).drew.cell? ⟨H + 1, 1, none⟩ = some (.int .i64 q) ∧ (w2.alloc X).drew.cell? ⟨H + 1, 2, none⟩ = some (.int .i64 s) := ⟨hUd.cell p3 (by simp), hUd.cell b0 (by simp), hUd.cell d0 (by simp), hUd.cell d1 (by simp), hUd.cell d2 (by simp)⟩
  refine wpAnyK_value (i := 9) (d := some 49) (v := .slice (some ⟨w2.heap.size, 0, none⟩) 1 1) (w' := (w2.alloc X).drew) rfl rfl (by kernel_rfl) rfl (by rw [← hX]; simp [execOp, Act.eval, Act.put, go_sem]) (.inr hS1) ?_
  refine wpAnyK_law (i := 10) (d := some 50) rfl rfl (by kernel_rfl) rfl (fun v w3 => w3.ownsRow W.heap.size 36 3 v (m + 1) (LI.flat (il ++ [⟨t, q, s⟩])) ∧ (w2.alloc X).drew.grownBy w3 (Value.slice am m cm).ownBlock) (fun K hK => ?_) ?_
  · have hr1 := (row_one (it := ⟨t, q, s⟩) hbX).cells
    obtain ⟨i0, hi0, hz0, hz1, hz2⟩ := info_parts infoItem
    refine wp_append_own _ (.tmp 47) (.tmp 49) 47 rfl W.heap.size 36 i0 _ 3 24 Tryz.underlying47 hi0 hz0 hz1 hz2 rfl (by decide) (.slice am m cm) m (LI.flat il) (by simp [Act.eval, Act.put]) (hUd.row HOW.out (by simp)) ⟨w2.heap.size, 0, none⟩ 1 1 (LI.flat [⟨t, q, s⟩]) (by simp [Act.eval, Act.put]) (by rw [LI.flat_length]; rfl) hr1 (LI.flat_one _) (by simp [maxLen]; omega) (by omega) (by have h1 := HWU.out.size; have h2 := HUW3.out.size; have h3 := HU23.out.size; simp [World.drew]; omega) ?_
    intro v' w3 h1 h2 _
    exact hK _ _ ⟨by rw [LI.flat_append]; exact h1, h2⟩
  rintro v w3 ⟨hown, hgrow⟩
  have hU3 : Upd ((Value.slice am m cm).ownBlock.toList) w2 w3 := (hUd.mono (by simp)).trans (upd_grown hgrow) (fun x hx _ => hx)
  have hPn : P ∉ (Value.slice am m cm).ownBlock.toList := fun h => ne_own HBP2.out HOW.out (by decide) (toList_of h)
  have hgn : g ∉ (Value.slice am m cm).ownBlock.toList := fun h => by
    obtain ⟨cur, hc, _⟩ := HP2.out.held.ex
    exact ne_own hc HOW.out (by decide) (toList_of h)
  have hHn : H + 1 ∉ (Value.slice am m cm).ownBlock.toList := fun h => by have := HGE.out _ (toList_of h); omega
  have hH2 : H + 1 + 1 ∉ (Value.slice am m cm).ownBlock.toList := fun h => ne_own HB22.out HOW.out (by decide) (toList_of h)
  have hS3 : w3.cell? ⟨P, 3, none⟩ = some (.slice (some ⟨g, 0, none⟩) 8 8) ∧ w3.cell? ⟨g, i, none⟩ = some (.slice am m cm) ∧ w3.cell? ⟨H + 1, 0, none⟩ = some (.int .i64 t) ∧ w3.cell? ⟨H + 1, 1, none⟩ = some (.int .i64 q) ∧ w3.cell? ⟨H + 1, 2, none⟩ = some (.int .i64 s) := ⟨hU3.cell p3 hPn, hU3.cell b0 hgn, hU3.cell d0 hHn, hU3.cell d1 hHn, hU3.cell d2 hHn⟩
  obtain ⟨va, vc, rfl⟩ := row_shape hown
  have hzz : w3.frozen? ⟨g, i, none⟩ = false := by
    obtain ⟨cur, hc, _⟩ := (HP2.out.held.keep hU3 hgn).ex
    exact free_block hc i
  refine ⟨.inr hS3, ?_⟩
  refine wpAnyK_value (i := 11) (d := some 51) (v := .pointer (some ⟨g, i, none⟩)) (w' := w3) rfl rfl (by kernel_rfl) rfl (by simp [execOp, Act.eval, Act.put, go_sem, hnz]) (.inr hS3) ?_
  refine wpAnyK_skip (i := 12) (d := none) (w' := w3.setCell ⟨g, i, none⟩ (.slice va (m + 1) vc)) rfl rfl (by kernel_rfl) rfl (by simp [execOp, Act.eval, Act.put, go_sem, hS3.2.1, hzz]) (.inl rfl) ?_
  refine wpAnyK_done (by kernel_rfl) ?_ _
  have hll : (il ++ [(⟨t, q, s⟩ : It)]).length = m + 1 := by rw [List.length_append, HLM.out]; rfl
  have hput := HPUT.out ⟨il ++ [⟨t, q, s⟩], va, vc⟩ w3 hU3 (by rw [hll]; exact hown)
  simp only [hll] at hput
  have hU4 := upd_set1 w3 g i (.slice va (m + 1) vc)
  have hgP : P ≠ g := by
    obtain ⟨cur, hc, _⟩ := HP2.out.held.ex
    exact ne_block HBP2.out hc (by decide)
  have hgH : H + 1 + 1 ≠ g := by
    obtain ⟨cur, hc, _⟩ := HP2.out.held.ex
    exact ne_block HB22.out hc (by decide)
  have q0 := hU4.at (hU3.at HBP2.out hPn) (by simpa using hgP)
  have q2 := hU4.at (hU3.at HB22.out hH2) (by simpa using hgH)
  have HPT := Lib.hid hput
  generalize w3.setCell ⟨g, i, none⟩ (.slice va (m + 1) vc) = w4 at hU4 q0 q2 HPT ⊢
  clear hput hS hS1 hS3 hUd hown hgrow hU3 hPn hgn hHn hH2 hzz hU4 p3 b0 zz d0 d1 d2 hbX
  have HQF := Lib.hid q2
  obtain ⟨c0, c1, c2, c3⟩ := cells4 q0
  obtain ⟨e0, e1, e2, e3⟩ := cells4 q2
  obtain ⟨z0, z1, z2, z3⟩ := free4 q2
  clear q0 q2
  simp only [Act.put, List.setIfInBounds_toArray, List.set_cons_succ, List.set_cons_zero]
  go_wp2_with fail
  have p2 := stored4 HQF.out (.int .i64 fr) (.int .i64 wd) (.int .i64 cu) (.slice (some ⟨g, 0, none⟩) 8 8)
  have hU5 := upd_set4 w4 (H + 1 + 1) (.int .i64 fr) (.int .i64 wd) (.int .i64 cu) (.slice (some ⟨g, 0, none⟩) 8 8)
  generalize (((w4.setCell ⟨H + 1 + 1, 0, none⟩ (.int .i64 fr)).setCell ⟨H + 1 + 1, 1, none⟩ (.int .i64 wd)).setCell ⟨H + 1 + 1, 2, none⟩ (.int .i64 cu)).setCell ⟨H + 1 + 1, 3, none⟩ (.slice (some ⟨g, 0, none⟩) 8 8) = w5 at p2 hU5 ⊢
  obtain ⟨r0, r1, r2, r3⟩ := cells4 p2
  obtain ⟨t1, t2, t3, t4⟩ := HPT.out
  have hh := HH.out
  have hsz := HSZ.out
  have hgH2 : H + 1 + 1 ≠ g := by
    obtain ⟨cur, hc, _⟩ := HP2.out.held.ex
    exact ne_block HB22.out hc (by decide)
  have hgg : W.heap.size ≤ g := HP2.out.ge
  have hav : AvR ⟨fr, wd, cu, ⟨sl.set i ⟨il ++ [⟨t, q, s⟩], va, vc⟩, some ⟨g, 0, none⟩, bl.length⟩⟩ (H + 1 + 1) := ⟨fun _ a ea => by obtain rfl := Option.some.inj ea; simp only; omega, t3 (H + 1 + 1) (by omega)⟩
  have hhas : HasR w5 ⟨fr, wd, cu, ⟨sl.set i ⟨il ++ [⟨t, q, s⟩], va, vc⟩, some ⟨g, 0, none⟩, bl.length⟩⟩ := HasR.keep1 (w := w4) ⟨t1, t2⟩ hU5 hav
  have hrows : rowsOf sl = rowsOf bl := by
    have hp2 : Part W bl bl.length w2 sl g := by rw [HL8.out]; exact HP2.out
    exact hp2.rows
  have hfin : Nxt w ⟨fr, wd, cu, ⟨bl, ba, bc⟩⟩ (addR (⟨fr, wd, cu, ⟨bl, ba, bc⟩⟩ : RgR).rg ⟨t, q, s⟩) w5 ⟨fr, wd, cu, ⟨sl.set i ⟨il ++ [⟨t, q, s⟩], va, vc⟩, some ⟨g, 0, none⟩, bl.length⟩⟩ := by
    refine ⟨?_, hhas, fun b hb _ => ⟨fun _ a ea => by obtain rfl := Option.some.inj ea; simp only; omega, t3 b (by omega)⟩, (HU.out.thn t4).new hU5 (by omega)⟩
    simp only [addR]
    rw [← HIE.out]
    show (⟨fr, wd, cu, rowsOf (sl.set i ⟨il ++ [⟨t, q, s⟩], va, vc⟩)⟩ : Rg) = ⟨fr, wd, cu, (rowsOf bl).set i (bAt (rowsOf bl) i ++ [⟨t, q, s⟩])⟩
    rw [HRO.out, rowsOf_set, hrows]
  have hsl : sl.length = 8 := by rw [HP2.out.len, HL8.out]
  exact bodyPost_ret (v := .tuple #[.agg #[.int .i64 fr, .int .i64 wd, .int .i64 cu, .slice (some ⟨g, 0, none⟩) 8 8], .bool true]) (by simp [results, Tryz.results79, go_sem, r0, r1, r2, r3]) rfl (HPY.out _ _ ⟨_, by simp only [encR, List.length_set, HL8.out, hsl], hfin⟩)
end Go.Proofs.YtmfnfinbkdemkaaGreat
