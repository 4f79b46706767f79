/- Contracts: modify where there is no such slot; what a handle refers to; the three closures. -/
import Derived.Test.YthpofcomlidoiaaDI
import Derived.Test.YthpofcomlidoiaaDA
import Derived.Test.YthpofcomlidoiaaCC
namespace Go.Proofs.Ythpofcomlidoiaa
open Go.RowKit Go.Lib

set_option maxHeartbeats 4000000 in
theorem modify_no (r : ArR) (i : Int) (f : Value) (w : World) (h : HasA w r) (hl : r.ar.sl.length ≤ 100000) (hi : r.ar.id.length ≤ 100000) (hil : ¬ (0 ≤ i ∧ i < (r.ar.sl.length : Int))) :
    Calls Try.prog 35 #[encA r, .int .i64 i, f] w (GivesMod r.ar false w) := by
  have HCL := Lib.hid (fun W (hu : Upd [] w W) => clone_has r W (h.stay hu) hl hi)
  obtain ⟨a, sa, sc, ia, ic⟩ := r
  rw [show encA ⟨a, sa, sc, ia, ic⟩ = .agg #[.slice sa a.sl.length sc, .slice ia a.id.length ic, .int .i64 a.nx] from rfl] at HCL ⊢
  simp only at HCL hil ⊢
  clear h hl hi
  have HIX := Lib.hid (fun sa ia sc ic => isIndex_any sa ia a.sl.length sc a.id.length ic a.nx i)
  rw [show idxB a.sl.length i = false from by unfold idxB; rw [decide_eq_false_iff_not]; exact hil] at HIX
  have HEN : Hid (∀ sa sc ia ic, encA ⟨a, sa, sc, ia, ic⟩ = .agg #[.slice sa a.sl.length sc, .slice ia a.id.length ic, .int .i64 a.nx]) := fun _ _ _ _ => rfl
  clear hil
  generalize hn : a.sl.length = n at HCL HIX HEN ⊢
  have HN := Lib.hid hn
  clear hn
  generalize a.id.length = m at HCL HIX HEN ⊢
  generalize a.nx = nx at HCL HIX HEN ⊢
  go_enter Try.func35, Try.ntmps35
  go_upto_region 1 with (fail)
  generalize hA : (Obj.cells #[.slice sa n sc, .slice ia m ic, .int .i64 nx] 25 : Obj) = A
  generalize hB : (Obj.cells #[.slice none 0 0, .slice none 0 0, .int .i64 0] 25 : Obj) = B
  obtain ⟨hu, b0, b1, hsz⟩ := two_boxes w A B
  generalize (w.alloc A).alloc B = W at *
  generalize hH : w.heap.size = H at *
  rw [← hA] at b0
  rw [← hB] at b1
  have HU := Lib.hid hu; have HB1 := Lib.hid b1; have HH := Lib.hid hH; have HSZ := Lib.hid hsz
  obtain ⟨c0, c1, c2⟩ := cells3 b0
  clear hu hA hB b0 b1 hH hsz
  go_upto_region 2 with (go_at_call 34; refine (HCL.out W HU.out).mono ?_; rintro e w1 ⟨r', rfl, hO, hu1⟩; obtain ⟨a1, sa1, sc1, ia1, ic1⟩ := r'; have he1 := hO.eq; simp only at he1; subst he1; rw [HEN.out])
  have HO1 := Lib.hid hO; have HU1 := Lib.hid hu1
  have hb := heap_alloc1 w1 (.cells #[.slice sa1 n sc1, .slice ia1 m ic1, .int .i64 nx] 25)
  have hu2 := (Upd.refl [] w1).alloc (.cells #[.slice sa1 n sc1, .slice ia1 m ic1, .int .i64 nx] 25)
  have hP : w1.heap.size = w1.heap.size := rfl
  generalize w1.alloc (.cells #[.slice sa1 n sc1, .slice ia1 m ic1, .int .i64 nx] 25) = W2 at hb hu2 ⊢
  generalize hPP : w1.heap.size = P at hb ⊢
  have HB := Lib.hid hb; have HU2 := Lib.hid hu2; have HP := Lib.hid hPP
  obtain ⟨d0, d1, d2⟩ := cells3 hb
  clear c0 c1 c2 hO hu1 hb hu2 hP hPP
  go_wp2_with fail
  refine (HIX.out sa1 ia1 sc1 ic1 W2).mono ?_
  rintro e w3 ⟨rfl, hg3⟩
  have HU3 : Hid (Upd [] w1 w3) := HU2.out.trans hg3.upd (by simp)
  have hb3 := hg3.upd.at HB.out (by simp)
  have HB3 := Lib.hid hb3
  clear d0 d1 d2
  have hr3 := hg3.upd.at (HU2.out.at (HU1.out.at HB1.out (by simp)) (by simp)) (by simp)
  have HR3 := Lib.hid hr3
  obtain ⟨d0, d1, d2⟩ := cells3 hb3
  obtain ⟨e0, e1, e2⟩ := cells3 hr3
  obtain ⟨z0, z1, z2⟩ := free3 hr3
  clear hg3 hb3 hr3
  go_wp2_with fail
  have pf := stored3 HR3.out (.slice sa1 n sc1) (.slice ia1 m ic1) (.int .i64 nx)
  have hU6 := upd_set3 w3 (H + 1) (.slice sa1 n sc1) (.slice ia1 m ic1) (.int .i64 nx)
  generalize (((w3.setCell ⟨H + 1, 0, none⟩ (.slice sa1 n sc1)).setCell ⟨H + 1, 1, none⟩ (.slice ia1 m ic1)).setCell ⟨H + 1, 2, none⟩ (.int .i64 nx)) = w6 at pf hU6 ⊢
  obtain ⟨r0, r1, r2⟩ := cells3 pf
  have hsz := HSZ.out; have hh := HH.out
  have hm := ((HO1.out.stay HU3.out).mod.keep hU6 (fun x hx => by simp at hx; omega)).base (B' := w.heap.size) (by omega)
  exact bodyPost_ret (v := .tuple #[.agg #[.slice sa1 n sc1, .slice ia1 m ic1, .int .i64 nx], .bool false]) (by simp [results, Try.results35, go_sem, r0, r1, r2]) rfl ⟨⟨a1, sa1, sc1, ia1, ic1⟩, by rw [HEN.out], hm, (((HU.out.trans HU1.out (by simp)).trans HU3.out (by simp))).trans hU6 (fun x hx hl => by simp at hx; omega)⟩
end Go.Proofs.Ythpofcomlidoiaa
