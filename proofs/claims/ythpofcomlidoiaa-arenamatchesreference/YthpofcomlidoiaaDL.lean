/- Contracts: what a handle refers to; Lookup. -/
import Derived.Test.YthpofcomlidoiaaDJ
namespace Go.Proofs.Ythpofcomlidoiaa
open Go.RowKit Go.Lib

set_option maxHeartbeats 4000000 in
theorem referredBy_has (r : ArR) (h : Int) (w : World) (ha : HasA w r) :
    Calls Try.prog 40 #[encA r, .int .i64 h] w fun e w' => e = .returned (.int .i64 (findZ r.ar h)) ∧ Upd [] w w' := by
  obtain ⟨a, sa, sc, ia, ic⟩ := r
  have HA := Lib.hid ha
  rw [show encA ⟨a, sa, sc, ia, ic⟩ = .agg #[.slice sa a.sl.length sc, .slice ia a.id.length ic, .int .i64 a.nx] from rfl]
  simp only
  clear ha
  have HIX := Lib.hid (fun i => isIndex_any sa ia a.sl.length sc a.id.length ic a.nx i)
  have HSL := Lib.hid (fun W => Slot_any h W)
  have HGE := Lib.hid (fun W => Generation_any h W)
  obtain ⟨f, hf⟩ : ∃ f, f = findZ a h := ⟨_, rfl⟩
  rw [← hf]
  have HF := Lib.hid hf
  clear hf
  generalize hn : a.sl.length = n at *
  have HN := Lib.hid hn
  clear hn
  generalize a.id.length = m at *
  generalize a.nx = nx at *
  have HB := Lib.hid (heap_alloc1 w (.cells #[.slice sa n sc, .slice ia m ic, .int .i64 nx] 25))
  have HU : Hid (Upd [] w (w.alloc (.cells #[.slice sa n sc, .slice ia m ic, .int .i64 nx] 25))) := (Upd.refl _ _).alloc _
  rcases hv : validB h with _ | _
  · rw [slotZ_no hv] at HSL
    have HV := Lib.hid hv
    have HI := Lib.hid (HIX.out (-1))
    rw [show idxB n (-1) = false from by unfold idxB; rw [decide_eq_false_iff_not]; omega] at HI
    clear hv HIX
    go_enter Try.func40, Try.ntmps40
    go_wp2_with fail
    generalize w.alloc (.cells #[.slice sa n sc, .slice ia m ic, .int .i64 nx] 25) = W at *
    generalize w.heap.size = H at *
    refine (HSL.out _).mono ?_
    rintro e w' ⟨rfl, rfl⟩
    obtain ⟨c0, c1, c2⟩ := cells3 HB.out
    go_wp2_with fail
    refine (HI.out _).mono ?_
    rintro e w1 ⟨rfl, hg⟩
    go_wp2_with fail
    go_ret
    exact ⟨ret_int (by rw [HF.out, findZ_no (fun k => validB_no.1 HV.out k.1)]), HU.out.trans hg.upd (by simp)⟩
  · rw [slotZ_yes hv, ← hS_cast h] at HSL
    rw [genZ_yes hv] at HGE
    have HV := Lib.hid hv
    generalize hi : hS h = i at HSL
    have HI := Lib.hid hi
    have HJ := Lib.hid (HIX.out (i : Int))
    clear hi hv HIX
    by_cases hlt : i < n
    · rw [show idxB n (i : Int) = true from by unfold idxB; rw [decide_eq_true_iff]; omega] at HJ
      have hk1 : i < a.sl.length := by have := HN.out; omega
      have hiz : (i : Int) < (n : Int) := by omega
      have HL := Lib.hid hk1
      have HG := Lib.hid (slAt_get hk1)
      have HCE : Hid (∀ W, Upd [] w W → ∃ bb oo, sa = some ⟨bb, oo, none⟩ ∧ W.cell? ⟨bb, oo + i * 4, none⟩ = some (.int .i64 a.sl[i].g) ∧ W.cell? ⟨bb, oo + i * 4 + 1, none⟩ = some (.int .i64 a.sl[i].s) ∧ W.cell? ⟨bb, oo + i * 4 + 2, none⟩ = some (.int .i64 a.sl[i].t) ∧ W.cell? ⟨bb, oo + i * 4 + 3, none⟩ = some (.int .i64 a.sl[i].q)) := fun W hu => (HA.out.stay hu).sl i hk1
      generalize a.sl[i] = y at *
      clear hk1
      go_enter Try.func40, Try.ntmps40
      go_wp2_with fail
      generalize w.alloc (.cells #[.slice sa n sc, .slice ia m ic, .int .i64 nx] 25) = W at *
      generalize w.heap.size = H at *
      refine (HSL.out _).mono ?_
      rintro e w' ⟨rfl, rfl⟩
      obtain ⟨c0, c1, c2⟩ := cells3 HB.out
      go_wp2_with fail
      refine (HJ.out _).mono ?_
      rintro e w1 ⟨rfl, hg⟩
      have HU1 : Hid (Upd [] w w1) := HU.out.trans hg.upd (by simp)
      obtain ⟨d0, d1, d2⟩ := cells3 (hg.upd.at HB.out (by simp))
      obtain ⟨bb, oo, rfl, k0, k1, k2, k3⟩ := HCE.out w1 HU1.out
      clear hg c0 c1 c2 HCE
      have HBY := Lib.hid (heap_alloc1 w1 (.cells #[.int .i64 y.g, .int .i64 y.s, .int .i64 y.t, .int .i64 y.q] 44))
      have HU2 : Hid (Upd [] w (w1.alloc (.cells #[.int .i64 y.g, .int .i64 y.s, .int .i64 y.t, .int .i64 y.q] 44))) := HU1.out.alloc _
      go_upto_region 5 with (fail)
      generalize w1.alloc (.cells #[.int .i64 y.g, .int .i64 y.s, .int .i64 y.t, .int .i64 y.q] 44) = W2 at *
      generalize w1.heap.size = Q at *
      obtain ⟨y0, y1, y2, y3⟩ := cells4 HBY.out
      clear d0 d1 d2 k0 k1 k2 k3
      by_cases hgg : y.g = h / 64
      · have hgz : (y.g != h / 64) = false := by simpa using hgg
        have HGG := Lib.hid hgg
        by_cases hs : y.s = 0
        · have hsz : (y.s == 0) = true := by simpa using hs
          have HSS := Lib.hid hs
          generalize h / 64 = gz at hgz HGE
          clear hgg hs
          go_quiet ((go_at_call 51; exact Calls.quiet_of_same ((HGE.out _).mono (fun _ _ h => ⟨h.1, h.2.symm⟩))))
          go_wp2_with fail
          go_ret
          exact ⟨ret_int (by rw [HF.out, findZ_no (fun k => by have := k.2.2.2; rw [HI.out, HG.out] at this; exact this HSS.out)]), HU2.out.drewN _⟩
        · have hsz : (y.s == 0) = false := by simpa using hs
          have HSS := Lib.hid hs
          generalize h / 64 = gz at hgz HGE
          clear hgg hs
          go_quiet ((go_at_call 51; exact Calls.quiet_of_same ((HGE.out _).mono (fun _ _ h => ⟨h.1, h.2.symm⟩))))
          go_wp2_with fail
          go_ret
          exact ⟨ret_int (by rw [HF.out, findZ_yes ⟨hnd_of HV.out, by rw [HI.out]; exact HL.out, by rw [HI.out, HG.out]; exact HGG.out, by rw [HI.out, HG.out]; exact HSS.out⟩, HI.out]), HU2.out.drewN _⟩
      · have hgz : (y.g != h / 64) = true := by simpa using hgg
        have HGG := Lib.hid hgg
        generalize h / 64 = gz at hgz HGE
        clear hgg
        go_quiet ((go_at_call 51; exact Calls.quiet_of_same ((HGE.out _).mono (fun _ _ h => ⟨h.1, h.2.symm⟩))))
        go_wp2_with fail
        go_ret
        exact ⟨ret_int (by rw [HF.out, findZ_no (fun k => by have := k.2.2.1; rw [HI.out, HG.out] at this; exact HGG.out this)]), HU2.out.drewN _⟩
    · rw [show idxB n (i : Int) = false from by unfold idxB; rw [decide_eq_false_iff_not]; omega] at HJ
      go_enter Try.func40, Try.ntmps40
      go_wp2_with fail
      generalize w.alloc (.cells #[.slice sa n sc, .slice ia m ic, .int .i64 nx] 25) = W at *
      generalize w.heap.size = H at *
      refine (HSL.out _).mono ?_
      rintro e w' ⟨rfl, rfl⟩
      obtain ⟨c0, c1, c2⟩ := cells3 HB.out
      go_wp2_with fail
      refine (HJ.out _).mono ?_
      rintro e w1 ⟨rfl, hg⟩
      go_wp2_with fail
      go_ret
      exact ⟨ret_int (by rw [HF.out, findZ_no (fun k => by have := k.2.1; rw [HI.out, HN.out] at this; exact hlt this)]), HU.out.trans hg.upd (by simp)⟩

set_option maxHeartbeats 4000000 in
theorem PLookup_has (r : ArR) (h : Int) (w : World) (ha : HasA w r) :
    Calls Try.prog 23 #[encA r, .int .i64 h] w (GivesL r.ar h w) := by
  have hfind := fun W (hu : Upd [] w W) => referredBy_has r h W (ha.stay hu)
  obtain ⟨a, sa, sc, ia, ic⟩ := r
  have HA := Lib.hid ha
  unfold encA at hfind ⊢
  simp only at hfind ⊢
  clear ha
  have HF := Lib.hid hfind
  clear hfind
  generalize hn : a.sl.length = n at HF ⊢
  have HN := Lib.hid hn
  clear hn
  generalize a.id.length = ni at HF ⊢
  generalize a.nx = nx at HF ⊢
  go_enter Try.func23, Try.ntmps23
  go_upto_region 1 with (fail)
  generalize hA : (Obj.cells #[.slice sa n sc, .slice ia ni ic, .int .i64 nx] 25 : Obj) = A
  generalize hB : (Obj.cells #[.int .i64 0, .int .i64 0, .int .i64 0, .int .i64 0] 44 : Obj) = B
  obtain ⟨hu, b0, b1, hsz⟩ := two_boxes w A B
  generalize (w.alloc A).alloc B = W at *
  generalize hH : w.heap.size = H at *
  rw [← hA] at b0
  rw [← hB] at b1
  have HU := Lib.hid hu; have HB0 := Lib.hid b0; have HB1 := Lib.hid b1; have HH := Lib.hid hH; have HSZ := Lib.hid hsz
  obtain ⟨c0, c1, c2⟩ := cells3 b0
  clear hu hA hB b0 b1 hH hsz
  go_wp2_with fail
  refine (HF.out W HU.out).mono ?_
  rintro e w1 ⟨rfl, hu1⟩
  have q1 := hu1.at HB1.out (by simp)
  have HQ1 := Lib.hid q1
  obtain ⟨e0, e1, e2, e3⟩ := cells4 q1
  obtain ⟨z0, z1, z2, z3⟩ := free4 q1
  have q0 := hu1.at HB0.out (by simp)
  obtain ⟨d0, d1, d2⟩ := cells3 q0
  have HU1 := Lib.hid hu1
  clear c0 c1 c2 q1 q0 hu1
  by_cases hr : Refers a h
  · rw [findZ_yes hr]
    have hil : hS h < a.sl.length := hr.2.1
    obtain ⟨bb, oo, hsa, k0, k1, k2, k3⟩ := ((HA.out.stay HU.out).stay HU1.out).sl (hS h) hil
    simp only at hsa k0 k1 k2 k3
    subst hsa
    have hlk : lookA a h = (a.sl[hS h], true) := by rw [lookA, if_pos hr, slAt_get hil]
    have hiz : ((hS h : Nat) : Int) < (n : Int) := by have := HN.out; omega
    generalize a.sl[hS h] = y at *
    have HLK := Lib.hid hlk
    clear hlk
    have hnn : (((hS h : Nat) : Int) == -1) = false := by rw [beq_eq_false_iff_ne]; omega
    clear hr hil
    generalize hS h = i at *
    go_wp2_with fail
    have p1 := stored4 HQ1.out (.int .i64 y.g) (.int .i64 y.s) (.int .i64 y.t) (.int .i64 y.q)
    have hU5 := upd_sets4 w1 (H + 1) (.int .i64 y.g) (.int .i64 y.s) (.int .i64 y.t) (.int .i64 y.q)
    generalize ((((w1.setCell ⟨H + 1, 0, none⟩ (.int .i64 y.g)).setCell ⟨H + 1, 1, none⟩ (.int .i64 y.s)).setCell ⟨H + 1, 2, none⟩ (.int .i64 y.t)).setCell ⟨H + 1, 3, none⟩ (.int .i64 y.q)) = w4 at p1 hU5 ⊢
    obtain ⟨r0, r1, r2, r3⟩ := cells4 p1
    have hh := HH.out
    exact bodyPost_ret (v := .tuple #[aggS y, .bool true]) (by simp [results, Try.results23, go_sem, r0, r1, r2, r3, aggS]) rfl ⟨by rw [HLK.out], (HU.out.trans HU1.out (by simp)).trans hU5 (fun x hx hl => by simp at hx; omega)⟩
  · rw [findZ_no hr]
    have HR := Lib.hid hr
    clear hr
    go_wp2_with fail
    have p1 := stored4 HQ1.out (.int .i64 0) (.int .i64 0) (.int .i64 0) (.int .i64 0)
    have hU5 := upd_sets4 w1 (H + 1) (.int .i64 0) (.int .i64 0) (.int .i64 0) (.int .i64 0)
    generalize ((((w1.setCell ⟨H + 1, 0, none⟩ (.int .i64 0)).setCell ⟨H + 1, 1, none⟩ (.int .i64 0)).setCell ⟨H + 1, 2, none⟩ (.int .i64 0)).setCell ⟨H + 1, 3, none⟩ (.int .i64 0)) = w4 at p1 hU5 ⊢
    obtain ⟨r0, r1, r2, r3⟩ := cells4 p1
    have hh := HH.out
    exact bodyPost_ret (v := .tuple #[aggS ⟨0, 0, 0, 0⟩, .bool false]) (by simp [results, Try.results23, go_sem, r0, r1, r2, r3, aggS]) rfl ⟨by rw [lookA, if_neg HR.out], (HU.out.trans HU1.out (by simp)).trans hU5 (fun x hx hl => by simp at hx; omega)⟩

end Go.Proofs.Ythpofcomlidoiaa
