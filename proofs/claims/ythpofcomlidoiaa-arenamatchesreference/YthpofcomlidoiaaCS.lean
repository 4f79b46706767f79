/- Contract: step of the laws, a release. -/
import Derived.Test.YthpofcomlidoiaaCQ
namespace Go.Proofs.Ythpofcomlidoiaa
open Go.RowKit Go.Lib

set_option maxHeartbeats 8000000 in
theorem step_rel (r : ArR) (ad : Option Addr) (cap : Nat) (is : List Int) (o : Oz) (w : World) (ha : HasA w r) (hg : Good r.ar) (hi : HasI w ad cap is) (hl : is.length ≤ 100000) (ho : OzOk o) (h3 : ¬ (o.k % 4 = 0 ∨ o.k % 4 = 1) ∧ o.k % 4 ≠ 2) :
    Calls Try.prog 27 #[encA r, .slice ad is.length cap, encO o] w (GivesStep r ad is (stepA r.ar is o) w) := by
  have hal := fun W (hu : Upd [] w W) => Alloc_has r o.n W (ha.stay hu) hg
  have htr := fun W (hu : Upd [] w W) => Transition_has r (pickA is o.n) (o.a % 5) (o.b % 5) W (ha.stay hu) (by have := hg.len1; omega)
  have hre := fun W (hu : Upd [] w W) => Release_has r (pickA is o.n) W (ha.stay hu) (by have := hg.len1; omega) (by have := hg.count; have := hg.len1; omega)
  have hpk := fun W (hu : Upd [] w W) => Pick_any ad cap is o.n W (hi.stay hu).ints (by omega)
  have hdk : o.k.tmod 4 = o.k % 4 := Int.tmod_eq_emod_of_nonneg ho.k.1
  have hda : o.a.tmod 5 = o.a % 5 := Int.tmod_eq_emod_of_nonneg ho.a.1
  have hdb : o.b.tmod 5 = o.b % 5 := Int.tmod_eq_emod_of_nonneg ho.b.1
  have hwx : IntKind.i64.wrap o.a = o.a := by rw [IntKind.wrap_i64]; have := ho.a; omega
  have hwy : IntKind.i64.wrap o.b = o.b := by rw [IntKind.wrap_i64]; have := ho.b; omega
  have hkb := ho.k
  have hab := ho.a
  have hbb := ho.b
  have HA := Lib.hid ha; have HI := Lib.hid hi; have HAL := Lib.hid hal; have HTR := Lib.hid htr; have HRE := Lib.hid hre; have HPK := Lib.hid hpk
  obtain ⟨p, hp⟩ : ∃ p, p = stepA r.ar is o := ⟨_, rfl⟩
  rw [← hp]
  have HP := Lib.hid hp
  clear ha hi hal htr hre hpk hp ho hg
  obtain ⟨k, n, x, y⟩ := o
  simp only at *
  unfold encO
  simp only
  generalize hn : is.length = m at *
  have HM := Lib.hid hn
  clear hn
  obtain ⟨a, sa, sc, ia, ic⟩ := r
  simp only [encA] at *
  generalize hsl : a.sl.length = n1 at *
  generalize hil : a.id.length = n2 at *
  generalize hnx : a.nx = nx at *
  clear hsl hil hnx
  go_enter Try.func27, Try.ntmps27
  go_upto_region 1 with (fail)
  generalize hA : (Obj.cells #[.slice sa n1 sc, .slice ia n2 ic, .int .i64 nx] 25 : Obj) = A
  generalize hB : (Obj.cells #[.int .u8 k, .int .i64 n, .int .u8 x, .int .u8 y] 28 : Obj) = B
  generalize hC : (Obj.cells #[.slice none 0 0, .slice none 0 0, .int .i64 0] 25 : Obj) = C
  obtain ⟨hu, b0, b1, b2, hsz⟩ := three_boxes w A B C
  generalize ((w.alloc A).alloc B).alloc C = W at *
  generalize hH : w.heap.size = H at *
  rw [← hA] at b0
  rw [← hB] at b1
  rw [← hC] at b2
  have HU := Lib.hid hu; have HB0 := Lib.hid b0; have HB1 := Lib.hid b1; have HB2 := Lib.hid b2; have HH := Lib.hid hH; have HSZ := Lib.hid hsz
  obtain ⟨c0, c1, c2⟩ := cells3 b0
  obtain ⟨d0, d1, d2, d3⟩ := cells4 b1
  clear hu hA hB hC b0 b1 b2 hH hsz
  obtain ⟨h01, h2⟩ := h3
  have e0 : (k % 4 == 0) = false := by simp; omega
  have e1 : (k % 4 == 1) = false := by simp; omega
  have e2 : (k % 4 == 2) = false := by simpa using h2
  have HPQ : Hid (p = ((relA a (pickA is n)).1, is, (relA a (pickA is n)).2)) := by
    show p = _
    rw [HP.out, stepA]
    simp only [if_neg h01, if_neg h2]
  obtain ⟨q1, q2, hq⟩ : ∃ q1 q2, relA a (pickA is n) = (q1, q2) := ⟨_, _, rfl⟩
  have HC : Hid (∀ W', Upd [] w W' → Calls Try.prog 22 #[.agg #[.slice sa n1 sc, .slice ia n2 ic, .int .i64 nx], .int .i64 (pickA is n)] W' fun e w' => ∃ a' sa' sc' ia' ic', e = .returned (.tuple #[.agg #[.slice sa' (Ar.sl a').length sc', .slice ia' (Ar.id a').length ic', .int .i64 (Ar.nx a')], .bool q2]) ∧ Nxt W' ⟨a, sa, sc, ia, ic⟩ q1 w' ⟨a', sa', sc', ia', ic'⟩) := fun W' hu => by
    refine (HRE.out W' hu).mono ?_
    rintro e w' ⟨r', he, hN⟩
    obtain ⟨a', sa', sc', ia', ic'⟩ := r'
    rw [hq] at he hN
    exact ⟨a', sa', sc', ia', ic', he, hN⟩
  rw [hq] at HPQ
  clear hq
  go_upto_region 11 with (fail)
  go_cut [14, 15] (fun v1 v2 wx => ∃ P r', v1 = .pointer (some ⟨P, 0, none⟩) ∧ v2 = .bool q2 ∧ Hid (Boxed W ⟨a, sa, sc, ia, ic⟩ q1 P wx r'))
  case first =>
    have HKP : Hid (∀ W', Upd [] W W' → W'.cell? ⟨H, 0, none⟩ = some (.slice sa n1 sc) ∧ W'.cell? ⟨H, 1, none⟩ = some (.slice ia n2 ic) ∧ W'.cell? ⟨H, 2, none⟩ = some (.int .i64 nx) ∧ W'.cell? ⟨H + 1, 1, none⟩ = some (.int .i64 n) ∧ W'.cell? ⟨H + 1, 2, none⟩ = some (.int .u8 x) ∧ W'.cell? ⟨H + 1, 3, none⟩ = some (.int .u8 y)) := fun W' hu => ⟨hu.cell c0 (by simp), hu.cell c1 (by simp), hu.cell c2 (by simp), hu.cell d1 (by simp), hu.cell d2 (by simp), hu.cell d3 (by simp)⟩
    go_region_held3 (fun wz => wz.cell? ⟨H, 0, none⟩ = some (.slice sa n1 sc) ∧ wz.cell? ⟨H, 1, none⟩ = some (.slice ia n2 ic) ∧ wz.cell? ⟨H, 2, none⟩ = some (.int .i64 nx) ∧ wz.cell? ⟨H + 1, 1, none⟩ = some (.int .i64 n) ∧ wz.cell? ⟨H + 1, 2, none⟩ = some (.int .u8 x) ∧ wz.cell? ⟨H + 1, 3, none⟩ = some (.int .u8 y)) (first | exact ⟨c0, c1, c2, d1, d2, d3⟩ | (refine HKP.out _ ?_; (repeat (first | exact Upd.refl [] _ | refine Upd.setCell ?_ (fun hl => absurd hl (Nat.lt_irrefl _)) _ | refine Upd.drew ?_ | refine Upd.alloc ?_ _ | refine Upd.trans (T := []) ?_ (by assumption) (by simp))))) (first
      | (go_at_call 16; (with_reducible refine (HPK.out _ ?_).mono ?_); (refine HU.out.trans (T := []) ?_ (by simp); (repeat (first | exact Upd.refl [] _ | refine Upd.drew ?_ | refine Upd.alloc ?_ _ | refine Upd.trans (T := []) ?_ (by assumption) (by simp)))); rintro e w' ⟨rfl, rfl⟩)
      | (go_at_call 22; (with_reducible refine (HC.out _ ?_).mono ?_); (refine HU.out.trans (T := []) ?_ (by simp); (repeat (first | exact Upd.refl [] _ | refine Upd.drew ?_ | refine Upd.alloc ?_ _ | refine Upd.trans (T := []) ?_ (by assumption) (by simp)))); rintro e w' ⟨a', sa', sc', ia', ic', rfl, hN⟩; have hu := hN.upd; try (have pb := hu.at (heap_alloc1 W (.cells #[.slice none 0 0, .slice none 0 0, .int .i64 0] 25)) (by simp); obtain ⟨x0, x1, x2⟩ := cells3 pb; obtain ⟨y0, y1, y2⟩ := free3 pb; clear pb)))
    all_goals go_wp2_with fail
    all_goals go_meet
    all_goals case rel =>
      first
        | (have hx0 := x0
           refine ⟨W.heap.size, ⟨a', sa', sc', ia', ic'⟩, rfl, rfl, ?_⟩
           have hb := boxed_first (HA.out.stay HU.out) (hN.of_upd (w := W.alloc (.cells #[.slice none 0 0, .slice none 0 0, .int .i64 0] 25)) ((Upd.refl [] _).drew))
           exact hb)
        | (refine ⟨w'.heap.size, ⟨a', sa', sc', ia', ic'⟩, rfl, rfl, ?_⟩
           have hb := boxed_last (hN.of_upd (w := W) ((Upd.refl [] W).drew))
           simp only [cellsA] at hb
           exact hb)
  case rest =>
    obtain ⟨P, r', rfl, rfl, HBX⟩ := hcut
    obtain ⟨a', sa', sc', ia', ic'⟩ := r'
    have hblk := HBX.out.blk
    simp only [cellsA] at hblk
    have HE : Hid (encA ⟨a', sa', sc', ia', ic'⟩ = .agg #[.slice sa' a'.sl.length sc', .slice ia' a'.id.length ic', .int .i64 a'.nx]) := rfl
    generalize a'.sl.length = m1 at hblk HE
    generalize a'.id.length = m2 at hblk HE
    generalize a'.nx = mx at hblk HE
    have HQ2 := Lib.hid (HBX.out.nxt.upd.at HB2.out (by simp))
    obtain ⟨g0, g1, g2⟩ := cells3 hblk
    obtain ⟨f0, f1, f2⟩ := cells3 HQ2.out
    obtain ⟨z0, z1, z2⟩ := free3 HQ2.out
    clear hblk c0 c1 c2 d0 d1 d2 d3
    go_wp2_with fail
    have pf := stored3 HQ2.out (.slice sa' m1 sc') (.slice ia' m2 ic') (.int .i64 mx)
    have hU5 := upd_set3 wc (H + 1 + 1) (.slice sa' m1 sc') (.slice ia' m2 ic') (.int .i64 mx)
    generalize (((wc.setCell ⟨H + 1 + 1, 0, none⟩ (.slice sa' m1 sc')).setCell ⟨H + 1 + 1, 1, none⟩ (.slice ia' m2 ic')).setCell ⟨H + 1 + 1, 2, none⟩ (.int .i64 mx)) = w5 at pf hU5 ⊢
    obtain ⟨r0, r1, r2⟩ := cells3 pf
    exact bodyPost_ret (v := .tuple #[.agg #[.slice sa' m1 sc', .slice ia' m2 ic', .int .i64 mx], .slice ad m cap, .bool q2]) (by simp [results, Try.results27, go_sem, r0, r1, r2]) rfl (step_old (q1 := q1) HPQ.out HM.out HE.out (nxt_close HA.out HU.out HSZ.out HH.out HBX.out.nxt (Upd.refl _ _) hU5) HI.out)
end Go.Proofs.Ythpofcomlidoiaa
