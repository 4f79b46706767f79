/- Contract: the reference's with. -/
/- Contract: the reference's Put. -/
import Derived.Test.YtpabapjodcafkaaGreatUD
namespace Go.Proofs.YtpabapjodcafkaaGreat
open Go.RowKit Go.Lib

set_option maxRecDepth 100000 in
set_option maxHeartbeats 4000000 in
theorem with_has (r : RgR) (i : Nat) (s : SlR It) (w : World) (ha : HasR w r) (hs : HasS LI w s) (hi : i < r.bk.l.length) (hl : r.bk.l.length ≤ 100000) :
    Calls Tryz.prog 46 #[encR r, .int .i64 i, .slice s.ad s.l.length s.cap] w fun e w' => ∃ g cap, e = .returned (.agg #[.int .i64 r.fr, .int .i64 r.wd, .int .i64 r.cu, .slice (some ⟨g, 0, none⟩) r.bk.l.length cap]) ∧ HasR w' (withR r i s g cap) ∧ w.heap.size ≤ g ∧ Upd [] w w' := by
  obtain ⟨fr, wd, cu, bl, ba, bc⟩ := r
  simp only at hi hl ⊢
  obtain ⟨b, off, hbo, hcc⟩ := ha.bk.row i hi
  clear hcc
  simp only at hbo
  subst hbo
  have HA := Lib.hid ha
  have HI := Lib.hid hi
  have HSS := Lib.hid hs
  unfold encR
  simp only
  obtain ⟨sl, sa, sc⟩ := s
  simp only
  clear ha hs
  obtain ⟨n, hn⟩ : ∃ n, n = bl.length := ⟨_, rfl⟩
  rw [← hn] at hi hl ⊢
  have HN := Lib.hid hn
  clear hn
  generalize hm : sl.length = m
  have HM := Lib.hid hm
  clear hm
  have hiz : (i : Int) < (n : Int) := by omega
  go_enter Tryz.func46, Tryz.ntmps46
  go_upto_region 1 with (fail)
  generalize hA : (Obj.cells #[.int .i64 fr, .int .i64 wd, .int .i64 cu, .slice (some ⟨b, off, none⟩) n bc] 59 : Obj) = A
  generalize hC : (Obj.cells #[.int .i64 0, .int .i64 0, .int .i64 0, .slice none 0 0] 59 : Obj) = C
  obtain ⟨hu, b0, b2, hsz⟩ := two_boxes w A C
  generalize (w.alloc A).alloc C = W at *
  generalize hH : w.heap.size = H at *
  rw [← hA] at b0
  rw [← hC] at b2
  have HU := Lib.hid hu; have HB0 := Lib.hid b0; have HB2 := Lib.hid b2; have HH := Lib.hid hH; have HSZ := Lib.hid hsz
  obtain ⟨c0, c1, c2, c3⟩ := cells4 b0
  clear c0 c1 c2
  have c3 := Lib.cell?_alloc_some (.cells #[] 26) c3
  have HSL := Lib.hid ((HA.out.stay hu).bk.row)
  clear hu hA hC b0 b2 hH hsz
  go_upto_region 2 with (at_builtin; refine app_row tyB rfl _ _ rfl W.heap.size (.slice (some ⟨W.heap.size, 0, none⟩) 0 0) 0 [] rfl (World.ownsRow_made W #[] 0 (Nat.le_refl _) (Nat.zero_le _) (by simp)) (some ⟨b, off, none⟩) n bc bl rfl HN.out (HSL.out.stay ((Upd.refl [] W).alloc _)) (fun e => by simp at e) (by omega) (by simp) ?_; intro v' w1 hown hgrow; have HO := Lib.hid hown; have HG := Lib.hid hgrow; clear hown hgrow)
  have HU2 : Hid (Upd [] W w1) := ((Upd.refl [] W).alloc _).grown HG.out (fun k hk hl => by simp [Value.ownBlock] at hk; omega)
  have hrow := HO.out
  rw [Nat.zero_add, List.nil_append] at hrow
  obtain ⟨hnn, g, cap, rfl, hge, hheld⟩ := held_row hrow (by omega)
  clear hnn
  have HHD := Lib.hid hheld
  obtain ⟨k0, z0⟩ := hheld.cell i HI.out 0 _ rfl
  rw [show i * LB.k + 0 = i from by show i * 1 + 0 = _; omega] at k0 z0
  clear hrow hheld c3 HSL
  go_upto_region 3 with (fail)
  have hHD := HHD.out.set i HI.out ⟨sl, sa, sc⟩
  have hst : stores w1 g (i * LB.k) (LB.enc ⟨sl, sa, sc⟩) = w1.setCell ⟨g, i, none⟩ (.slice sa m sc) := by
    show w1.setCell ⟨g, i * 1, none⟩ (.slice sa sl.length sc) = _
    rw [Nat.mul_one, HM.out]
  rw [hst] at hHD
  have hU3 := upd_set1 w1 g i (.slice sa m sc)
  generalize w1.setCell ⟨g, i, none⟩ (.slice sa m sc) = w2 at hHD hU3 ⊢
  have q0 := hU3.at (HU2.out.at HB0.out (by simp)) (by have := HSZ.out; simp; omega)
  have q2 := hU3.at (HU2.out.at HB2.out (by simp)) (by have := HSZ.out; simp; omega)
  have HHD2 := Lib.hid hHD; have HU3 := Lib.hid hU3; have HQ0 := Lib.hid q0; have HQ2 := Lib.hid q2
  obtain ⟨c0, c1, c2, c3⟩ := cells4 q0
  obtain ⟨d0, d1, d2, d3⟩ := free4 q0
  clear c0 c1 c2 d0 d1 d2
  clear hst hHD hU3 q0 q2 k0 z0 HO HG
  go_upto_region 4 with (fail)
  have q0 : (w2.setCell ⟨H, 3, none⟩ (.slice (some ⟨g, 0, none⟩) n cap)).heap[H]? = some (.cells #[.int .i64 fr, .int .i64 wd, .int .i64 cu, .slice (some ⟨g, 0, none⟩) n cap] 59 (0, 0)) := setCell_block HQ0.out _
  have hU4 := upd_set1 w2 H 3 (.slice (some ⟨g, 0, none⟩) n cap)
  have q2 := hU4.at HQ2.out (by simp)
  generalize w2.setCell ⟨H, 3, none⟩ (.slice (some ⟨g, 0, none⟩) n cap) = w3 at q0 hU4 q2 ⊢
  have HU4 := Lib.hid hU4; have HQ2 := Lib.hid q2
  clear c3 d3 hU4
  obtain ⟨c0, c1, c2, c3⟩ := cells4 q0
  obtain ⟨e0, e1, e2, e3⟩ := cells4 q2
  obtain ⟨z0, z1, z2, z3⟩ := free4 q2
  clear q0 q2
  go_wp2_with fail
  have p2 := stored4 HQ2.out (.int .i64 fr) (.int .i64 wd) (.int .i64 cu) (.slice (some ⟨g, 0, none⟩) n cap)
  have hU5 := upd_set4 w3 (H + 1) (.int .i64 fr) (.int .i64 wd) (.int .i64 cu) (.slice (some ⟨g, 0, none⟩) n cap)
  generalize (((w3.setCell ⟨H + 1, 0, none⟩ (.int .i64 fr)).setCell ⟨H + 1, 1, none⟩ (.int .i64 wd)).setCell ⟨H + 1, 2, none⟩ (.int .i64 cu)).setCell ⟨H + 1, 3, none⟩ (.slice (some ⟨g, 0, none⟩) n cap) = w4 at p2 hU5 ⊢
  obtain ⟨r0, r1, r2, r3⟩ := cells4 p2
  have hsz := HSZ.out
  have hh := HH.out
  have hUW : Upd [] w w4 := (((HU.out.thn HU2.out).new HU3.out (by omega)).new HU4.out (by omega)).new hU5 (by omega)
  have hfin := (HHD2.out.keep HU4.out (by simp; omega)).keep hU5 (by simp; omega)
  have HAF := HA.out.stay hUW
  exact bodyPost_ret (v := .agg #[.int .i64 fr, .int .i64 wd, .int .i64 cu, .slice (some ⟨g, 0, none⟩) n cap]) (by simp [results, Tryz.results46, go_sem, r0, r1, r2, r3]) rfl
    ⟨g, cap, rfl, ⟨hfin.has, fun s hs => by
      rcases List.mem_or_eq_of_mem_set hs with h | h
      · exact HAF.its s h
      · rw [h]; exact HSS.out.stay hUW⟩, by omega, hUW⟩
end Go.Proofs.YtpabapjodcafkaaGreat
namespace Go.Proofs.YtpabapjodcafkaaGreat
open Go.RowKit Go.Lib

set_option maxRecDepth 100000 in
set_option maxHeartbeats 8000000 in
theorem RPut_has (r : RgR) (it : It) (w : World) (ha : HasR w r) (hg : GoodR r.rg) (hl : lenL r.rg.bs ≤ 100000) :
    Calls Tryz.prog 30 #[encR r, aggI it] w (GivesRB r (putR r.rg it) w) := by
  have HCC := Lib.hid (fun W => RCurrent_has r W hg)
  have HCE := Lib.hid (fun W => REnd_has r W hg)
  have hWI := fun (i : Nat) (s : SlR It) W (hu : Upd [] w W) (hs : HasS LI W s) (hi : i < r.bk.l.length) => with_has r i s W (ha.stay hu) hs hi (by have := hg.len; simp only [RgR.rg, rowsOf_length] at this; omega)
  have HG := Lib.hid hg
  have HPU : Hid (∀ p, putR r.rg it = p → ∀ e W, GivesRB r p w e W → GivesRB r (putR r.rg it) w e W) := fun p hp e W h => by rw [hp]; exact h
  obtain ⟨t, q, s⟩ := it
  have HFI : Hid (Fits r.rg t ↔ curT r.rg ≤ t ∧ t < endT r.rg) := Iff.rfl
  have htm := hg.times
  have hlen : r.bk.l.length = 8 := by have := hg.len; simpa [RgR.rg, rowsOf_length] using this
  obtain ⟨fr, wd, cu, bl, ba, bc⟩ := r
  have HA := Lib.hid ha
  have HSM : Hid (∀ W, Upd [] w W → GivesRB ⟨fr, wd, cu, ⟨bl, ba, bc⟩⟩ ((⟨fr, wd, cu, ⟨bl, ba, bc⟩⟩ : RgR).rg, false) w (.returned (.tuple #[.agg #[.int .i64 fr, .int .i64 wd, .int .i64 cu, .slice ba 8 bc], .bool false])) W) := fun W hu => ⟨⟨fr, wd, cu, ⟨bl, ba, bc⟩⟩, by simp only at hlen; rw [encR, hlen], Nxt.same HA.out hu⟩
  have HL8 := Lib.hid hlen
  simp only at HL8
  unfold encR at HCC HCE hWI ⊢
  simp only at HCC HCE hlen
  rw [hlen] at HCC HCE hWI ⊢
  simp only at hWI
  have HWI := Lib.hid hWI
  clear ha hg hlen hWI
  generalize hct : curT (⟨fr, wd, cu, ⟨bl, ba, bc⟩⟩ : RgR).rg = ct at HCC HFI htm
  generalize het : endT (⟨fr, wd, cu, ⟨bl, ba, bc⟩⟩ : RgR).rg = et at HCE HFI htm
  clear hct het
  unfold aggI
  simp only
  go_enter Tryz.func30, Tryz.ntmps30
  go_upto_region 1 with (fail)
  generalize hA : (Obj.cells #[.int .i64 fr, .int .i64 wd, .int .i64 cu, .slice ba 8 bc] 59 : Obj) = A
  generalize hB : (Obj.cells #[.int .i64 t, .int .i64 q, .int .i64 s] 38 : Obj) = B
  generalize hC : (Obj.cells #[.int .i64 0, .int .i64 0, .int .i64 0, .slice none 0 0] 59 : Obj) = C
  obtain ⟨hu, b0, b1, b2, hsz⟩ := three_boxes w A B C
  generalize ((w.alloc A).alloc B).alloc C = W at *
  generalize hH : w.heap.size = H at *
  rw [← hA] at b0
  rw [← hB] at b1
  rw [← hC] at b2
  have HU := Lib.hid hu; have HB0 := Lib.hid b0; have HB1 := Lib.hid b1; have HB2 := Lib.hid b2; have HH := Lib.hid hH; have HSZ := Lib.hid hsz
  obtain ⟨c0, c1, c2, c3⟩ := cells4 b0
  obtain ⟨d0, d1, d2⟩ := cells3 b1
  clear hu hA hB hC b0 b1 b2 hH hsz
  have k0 := kept_at c0; have k1 := kept_at c1; have k2 := kept_at c2; have k3 := kept_at c3; have j0 := kept_at d0
  clear c0 c1 c2 c3 d0 d1 d2
  by_cases hf : ct ≤ t ∧ t < et
  case neg =>
    have HPN := HPU.out _ (putR_no (r := (⟨fr, wd, cu, ⟨bl, ba, bc⟩⟩ : RgR).rg) (it := ⟨t, q, s⟩) (fun h => hf (HFI.out.1 h)))
    have HPN := Lib.hid HPN
    have HEND : Hid (∀ W2, Upd [] W W2 → (∃ w4, W2.heap[H + 1 + 1]? = some (.cells #[.int .i64 0, .int .i64 0, .int .i64 0, .slice none 0 0] 59 (0, 0)) ∧ w4 = 0)) := fun W2 h => ⟨0, h.at HB2.out (by simp), rfl⟩
    clear HEND
    by_cases hlt : t < ct
    · have hd0 : decide (t < ct) = true := by simpa using hlt
      clear hf hlt htm
      refine wp_region_quiet_kept mixed (by kernel_rfl) ?_
      repeat (go_big_quiet_step (first | (go_at_call 29; exact calls_kept (HCC.out _)) | (go_at_call 44; exact calls_kept (HCE.out _))))
      refine wpQuiet_nil ?_
      intro W3 hw'
      obtain ⟨⟨Wx, hu⟩, hw''⟩ := hw'
      simp only at hw''
      subst hw''
      clear k0 k1 k2 k3 j0
      have q0 := hu.at HB0.out (by simp)
      have q2 := hu.at HB2.out (by simp)
      have HU2 := Lib.hid hu; have HQ2 := Lib.hid q2
      obtain ⟨c0, c1, c2, c3⟩ := cells4 q0
      obtain ⟨e0, e1, e2, e3⟩ := cells4 q2
      obtain ⟨z0, z1, z2, z3⟩ := free4 q2
      clear q0 q2 hu
      go_wp2_with fail
      have p2 := stored4 HQ2.out (.int .i64 fr) (.int .i64 wd) (.int .i64 cu) (.slice ba 8 bc)
      have hU5 := upd_set4 W3 (H + 1 + 1) (.int .i64 fr) (.int .i64 wd) (.int .i64 cu) (.slice ba 8 bc)
      generalize (((W3.setCell ⟨H + 1 + 1, 0, none⟩ (.int .i64 fr)).setCell ⟨H + 1 + 1, 1, none⟩ (.int .i64 wd)).setCell ⟨H + 1 + 1, 2, none⟩ (.int .i64 cu)).setCell ⟨H + 1 + 1, 3, none⟩ (.slice ba 8 bc) = w4 at p2 hU5 ⊢
      obtain ⟨r0, r1, r2, r3⟩ := cells4 p2
      have hh := HH.out
      exact bodyPost_ret (v := .tuple #[.agg #[.int .i64 fr, .int .i64 wd, .int .i64 cu, .slice ba 8 bc], .bool false]) (by simp [results, Tryz.results30, go_sem, r0, r1, r2, r3]) rfl (HPN.out _ _ (HSM.out _ ((HU.out.thn HU2.out).new hU5 (by omega))))
    · have hd0 : decide (t < ct) = false := by simpa using hlt
      have hd1 : decide (et ≤ t) = true := by simp; omega
      clear hf hlt htm
      refine wp_region_quiet_kept mixed (by kernel_rfl) ?_
      repeat (go_big_quiet_step (first | (go_at_call 29; exact calls_kept (HCC.out _)) | (go_at_call 44; exact calls_kept (HCE.out _))))
      refine wpQuiet_nil ?_
      intro W3 hw'
      obtain ⟨⟨Wx, hu⟩, hw''⟩ := hw'
      simp only at hw''
      subst hw''
      clear k0 k1 k2 k3 j0
      have q0 := hu.at HB0.out (by simp)
      have q2 := hu.at HB2.out (by simp)
      have HU2 := Lib.hid hu; have HQ2 := Lib.hid q2
      obtain ⟨c0, c1, c2, c3⟩ := cells4 q0
      obtain ⟨e0, e1, e2, e3⟩ := cells4 q2
      obtain ⟨z0, z1, z2, z3⟩ := free4 q2
      clear q0 q2 hu
      go_wp2_with fail
      have p2 := stored4 HQ2.out (.int .i64 fr) (.int .i64 wd) (.int .i64 cu) (.slice ba 8 bc)
      have hU5 := upd_set4 W3 (H + 1 + 1) (.int .i64 fr) (.int .i64 wd) (.int .i64 cu) (.slice ba 8 bc)
      generalize (((W3.setCell ⟨H + 1 + 1, 0, none⟩ (.int .i64 fr)).setCell ⟨H + 1 + 1, 1, none⟩ (.int .i64 wd)).setCell ⟨H + 1 + 1, 2, none⟩ (.int .i64 cu)).setCell ⟨H + 1 + 1, 3, none⟩ (.slice ba 8 bc) = w4 at p2 hU5 ⊢
      obtain ⟨r0, r1, r2, r3⟩ := cells4 p2
      have hh := HH.out
      exact bodyPost_ret (v := .tuple #[.agg #[.int .i64 fr, .int .i64 wd, .int .i64 cu, .slice ba 8 bc], .bool false]) (by simp [results, Tryz.results30, go_sem, r0, r1, r2, r3]) rfl (HPN.out _ _ (HSM.out _ ((HU.out.thn HU2.out).new hU5 (by omega))))
  have HPY := HPU.out _ (putR_yes (r := (⟨fr, wd, cu, ⟨bl, ba, bc⟩⟩ : RgR).rg) (it := ⟨t, q, s⟩) (HFI.out.2 hf))
  have HPY := Lib.hid HPY
  have hix := HG.out.ix (HFI.out.2 hf)
  have hg2 := HG.out.wd0; have hg3 := HG.out.wd1; have hg4 := HG.out.fr0; have hg5 := HG.out.fr1; have hg6 := HG.out.times
  have hin := len_le (bs := rowsOf bl) (k := ixR (⟨fr, wd, cu, ⟨bl, ba, bc⟩⟩ : RgR).rg t) (by rw [rowsOf_length, HL8.out]; exact hix.1)
  obtain ⟨i, hie⟩ : ∃ i, i = ixR (⟨fr, wd, cu, ⟨bl, ba, bc⟩⟩ : RgR).rg t := ⟨_, rfl⟩
  have hib : i < bl.length := by rw [HL8.out, hie]; exact hix.1
  have HRO := Lib.hid (rowsOf_at hib)
  have hBI := (bAt_get (bs := rowsOf bl) (i := i) (by rw [rowsOf_length]; exact hib))
  rw [← hie] at hix
  have hin2 : bl[i].l.length ≤ 100000 := by
    rw [← HRO.out, hBI]
    subst hie
    exact Nat.le_trans hin hl
  obtain ⟨hi8, _, hi0, _, hi1⟩ := hix
  have HIX : Hid (∀ W, Calls Tryz.prog 45 #[.int .i64 fr, .int .i64 wd, .int .i64 t] W fun e w' => e = .returned (.int .i64 (i : Nat)) ∧ W = w') := fun W => by
    rw [hi1]
    simp only [RgR.rg] at hg2 hg3 hg4 hg5 hi0
    have hp : 0 ≤ (i : Int) * wd := Int.mul_nonneg (by omega) (by omega)
    exact RIndex_in fr wd t (by omega) (by omega) (by omega) (by omega) W
  have HIE := Lib.hid hie
  have HI8 := Lib.hid hi8
  have hiz : (i : Int) < 8 := by omega
  have HIB := Lib.hid hib
  have hd0 : decide (t < ct) = false := by simp; omega
  have hd1 : decide (et ≤ t) = false := by simp; omega
  clear hf htm hin hg2 hg3 hg4 hg5 hg6 hi0 hi1 hie hi8 hl hBI
  refine wp_region_quiet_kept mixed (by kernel_rfl) ?_
  repeat (go_big_quiet_step (first | (go_at_call 29; exact calls_kept (HCC.out _)) | (go_at_call 44; exact calls_kept (HCE.out _))))
  refine wpQuiet_nil ?_
  intro W3 hw'
  obtain ⟨⟨Wx, hu⟩, hw''⟩ := hw'
  simp only at hw''
  subst hw''
  clear k0 k1 k2 k3 j0 hd0 hd1 HCC HCE
  have HU2 := Lib.hid hu
  have q0 := hu.at HB0.out (by simp)
  have q1 := hu.at HB1.out (by simp)
  have HUA : Hid (Upd [] w W3) := HU.out.thn hu
  have hA3 := HA.out.stay HUA.out
  obtain ⟨b, off, hbo, bk0⟩ := hA3.bk.row.bucket i hib
  simp only at hbo bk0
  subst hbo
  have hir := hA3.at hib
  simp only at hir
  obtain ⟨bi, hbi⟩ : ∃ x, x = bl[i]'hib := ⟨_, rfl⟩
  rw [← hbi] at HRO hin2 bk0 hir
  obtain ⟨il, am, cm⟩ := bi
  have HIR := Lib.hid hir
  have HNN := Lib.hid hir.nn
  simp only at HRO hin2 bk0 HNN
  generalize hlm : il.length = m at *
  have HLM := Lib.hid hlm
  obtain ⟨c0, c1, c2, c3⟩ := cells4 q0
  obtain ⟨d0, d1, d2⟩ := cells3 q1
  clear hA3 hu hlm hbi hir q0 q1 hib
  go_upto_region 4 with (go_at_call 45; refine (HIX.out _).mono ?_; rintro e w' ⟨rfl, rfl⟩)
  have hu4 := (Upd.refl [] W3).alloc (.cells #[] 38)
  have c0' := hu4.cell c0 (by simp); have c1' := hu4.cell c1 (by simp); have c2' := hu4.cell c2 (by simp); have c3' := hu4.cell c3 (by simp); have bk0' := hu4.cell bk0 (by simp)
  go_upto_region 5 with (at_builtin; refine app_row tyI rfl _ _ rfl W3.heap.size (.slice (some ⟨W3.heap.size, 0, none⟩) 0 0) 0 [] rfl (World.ownsRow_made W3 #[] 0 (Nat.le_refl _) (Nat.zero_le _) (by simp)) am m cm il rfl HLM.out.symm (HIR.out.stay hu4).row HNN.out (by omega) (by simp) ?_; intro v' w1 hown hgrow)
  have HO := Lib.hid hown
  have HU3 : Hid (Upd [] W3 w1) := hu4.grown hgrow (fun k hk hl => by simp [Value.ownBlock] at hk; omega)
  have q1 := HU3.out.at (HU2.out.at HB1.out (by simp)) (by simp)
  clear c0 c1 c2 c3 c0' c1' c2' c3' d0 d1 d2 bk0 bk0' hown hgrow hu4
  obtain ⟨d0, d1, d2⟩ := cells3 q1
  clear q1
  have hbu := heap_alloc1 w1 (.cells #[.int .i64 t, .int .i64 q, .int .i64 s] 38)
  have hu5 := (Upd.refl [] w1).alloc (.cells #[.int .i64 t, .int .i64 q, .int .i64 s] 38)
  have HR1 := Lib.hid (row_one (it := ⟨t, q, s⟩) hbu)
  have HO2 := Lib.hid (hu5.row HO.out (by simp))
  have HS3 := Lib.hid (HU3.out.size)
  clear hbu
  go_upto_region 6 with (at_builtin; refine app_row tyI rfl _ _ rfl W3.heap.size v' (0 + m) ([] ++ il) rfl HO2.out (some ⟨w1.heap.size, 0, none⟩) 1 1 [⟨t, q, s⟩] rfl rfl HR1.out (fun e => by simp at e) (by omega) (by have := HS3.out; simp; omega) ?_; intro v2 w2 hown hgrow)
  obtain ⟨hnn, ad2, cap2, rfl, hS2, hge2⟩ := hasS_row hown
  clear hnn
  have HU4 : Hid (Upd [] W3 w2) := (HU3.out.thn hu5).grown hgrow (fun k hk hl => by have := own_ge HO.out k hk; omega)
  have HS2 := Lib.hid hS2; have HGE := Lib.hid hge2
  rw [List.nil_append] at HS2
  have q0 := HU4.out.at (HU2.out.at HB0.out (by simp)) (by simp)
  have HL2 : Hid ((il ++ [(⟨t, q, s⟩ : It)]).length = m + 1) := by show _ = _; simp [HLM.out]
  have HW2 := Lib.hid (HWI.out i ⟨il ++ [⟨t, q, s⟩], ad2, cap2⟩ w2 (HUA.out.thn HU4.out) HS2.out HI8.out)
  rw [HL2.out] at HW2
  clear d0 d1 d2 hown hgrow hS2 hge2 hu5
  obtain ⟨c0, c1, c2, c3⟩ := cells4 q0
  have q2 := HU4.out.at (HU2.out.at HB2.out (by simp)) (by simp)
  have HQ2 := Lib.hid q2
  clear q0 q2
  go_wp2_with fail
  (with_reducible refine HW2.out.mono ?_)
  rintro e w3 ⟨g, cap, rfl, hR, hgg, hu6⟩
  have HR := Lib.hid hR; have HGG := Lib.hid hgg; have HU6 := Lib.hid hu6
  have q2 := hu6.at HQ2.out (by simp)
  have HQ3 := Lib.hid q2
  obtain ⟨e0, e1, e2, e3⟩ := cells4 q2
  obtain ⟨z0, z1, z2, z3⟩ := free4 q2
  clear c0 c1 c2 c3 q2 hR hgg hu6
  go_wp2_with fail
  have p2 := stored4 HQ3.out (.int .i64 fr) (.int .i64 wd) (.int .i64 cu) (.slice (some ⟨g, 0, none⟩) 8 cap)
  have hU5 := upd_set4 w3 (H + 1 + 1) (.int .i64 fr) (.int .i64 wd) (.int .i64 cu) (.slice (some ⟨g, 0, none⟩) 8 cap)
  generalize (((w3.setCell ⟨H + 1 + 1, 0, none⟩ (.int .i64 fr)).setCell ⟨H + 1 + 1, 1, none⟩ (.int .i64 wd)).setCell ⟨H + 1 + 1, 2, none⟩ (.int .i64 cu)).setCell ⟨H + 1 + 1, 3, none⟩ (.slice (some ⟨g, 0, none⟩) 8 cap) = w4 at p2 hU5 ⊢
  obtain ⟨r0, r1, r2, r3⟩ := cells4 p2
  have hh := HH.out
  have hsz := HSZ.out
  have hu2 := HU2.out.size
  have hu4 := HU4.out.size
  have hgg := HGG.out
  have hu6 := HU6.out.size
  have hUW := HUA.out.thn (HU4.out.thn HU6.out)
  have hN := with_nxt (w := w) HR.out (by omega) hUW (fun b hb _ => fun _ a ea => by have := HGE.out a ea; omega)
  have hav : AvR (withR ⟨fr, wd, cu, ⟨bl, some ⟨b, off, none⟩, bc⟩⟩ i ⟨il ++ [⟨t, q, s⟩], ad2, cap2⟩ g cap) (H + 1 + 1) :=
    ⟨fun _ a ea => by obtain rfl := Option.some.inj ea; simp only; omega, fun x hx => by
      rcases List.mem_or_eq_of_mem_set hx with h | h
      · exact (HA.out.its x h).avoids (by omega)
      · rw [h]; exact fun _ a ea => by have := HGE.out a ea; omega⟩
  have hfin : Nxt w ⟨fr, wd, cu, ⟨bl, some ⟨b, off, none⟩, bc⟩⟩ (addR (⟨fr, wd, cu, ⟨bl, some ⟨b, off, none⟩, bc⟩⟩ : RgR).rg ⟨t, q, s⟩) w4 (withR ⟨fr, wd, cu, ⟨bl, some ⟨b, off, none⟩, bc⟩⟩ i ⟨il ++ [⟨t, q, s⟩], ad2, cap2⟩ g cap) := by
    refine ⟨?_, hN.has.keep1 hU5 hav, hN.av, hN.upd.new hU5 (by omega)⟩
    rw [hN.eq]
    simp only [addR]
    rw [← HIE.out]
    show (⟨fr, wd, cu, (rowsOf bl).set i (il ++ [⟨t, q, s⟩])⟩ : Rg) = ⟨fr, wd, cu, (rowsOf bl).set i (bAt (rowsOf bl) i ++ [⟨t, q, s⟩])⟩
    rw [HRO.out]
  exact bodyPost_ret (v := .tuple #[.agg #[.int .i64 fr, .int .i64 wd, .int .i64 cu, .slice (some ⟨g, 0, none⟩) 8 cap], .bool true]) (by simp [results, Tryz.results30, go_sem, r0, r1, r2, r3]) rfl (HPY.out _ _ ⟨_, by simp only [encR, withR, List.length_set, HL8.out], hfin⟩)
end Go.Proofs.YtpabapjodcafkaaGreat
