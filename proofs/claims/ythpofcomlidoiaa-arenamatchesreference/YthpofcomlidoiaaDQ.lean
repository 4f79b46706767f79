/- Contract: the program's Alloc. -/
import Derived.Test.YthpofcomlidoiaaDO
namespace Go.Proofs.Ythpofcomlidoiaa
open Go.RowKit Go.Lib

/-- What clone gives, spelt out. -/
def GivesOwn' (a : Ar) (w : World) (e : Ending) (w' : World) : Prop := ∃ sa sc ia ic, e = .returned (.agg #[.slice sa a.sl.length sc, .slice ia a.id.length ic, .int .i64 a.nx]) ∧ Own w.heap.size a w' ⟨a, sa, sc, ia, ic⟩ ∧ Upd [] w w'
theorem GivesOwn.spelt {a : Ar} {w w' : World} {e : Ending} (h : GivesOwn a w e w') : GivesOwn' a w e w' := by
  obtain ⟨⟨a1, sa, sc, ia, ic⟩, rfl, hm, hu⟩ := h
  obtain rfl : a1 = a := hm.eq
  exact ⟨sa, sc, ia, ic, rfl, hm, hu⟩

set_option maxHeartbeats 4000000 in
theorem PAlloc_bad (r : ArR) (t : Int) (w : World) (ha : HasA w r) (hg : Good r.ar) (ht : ¬ TimeOk t) :
    Calls Try.prog 17 #[encA r, .int .i64 t] w (GivesAHE r (allocA r.ar t) w) := by
  rw [allocA_bad ht]
  have hl1 := hg.len1
  have hl2 := good_id_len hg
  have HCL := Lib.hid (fun W (hu : Upd [] w W) => (clone_has r W (ha.stay hu) (by omega) (by omega)).mono (fun _ _ h => h.spelt))
  unfold GivesOwn' at HCL
  have HVT := Lib.hid (validTime_any t)
  rw [show decide (TimeOk t) = false from by simpa using ht] at HVT
  have HFIN : Hid (∀ sa sc ia ic B w', w.heap.size ≤ B → Own B r.ar w' ⟨r.ar, sa, sc, ia, ic⟩ → Upd [] w w' → GivesAHE r (r.ar, 0, 1) w (.returned (.tuple #[.agg #[.slice sa r.ar.sl.length sc, .slice ia r.ar.id.length ic, .int .i64 r.ar.nx], .int .i64 0, .int .i64 1])) w') :=
    fun sa sc ia ic B w' hB hm hu => ⟨⟨r.ar, sa, sc, ia, ic⟩, rfl, hm.nxt hB hu⟩
  generalize hP : (r.ar, (0 : Int), (1 : Int)) = p at *
  have HEN : Hid (encA r = .agg #[.slice r.sa r.ar.sl.length r.sc, .slice r.ia r.ar.id.length r.ic, .int .i64 r.ar.nx]) := rfl
  rw [HEN.out] at HCL ⊢
  generalize r.ar.sl.length = n at *
  generalize r.ar.id.length = m at *
  generalize r.ar.nx = nx at *
  generalize r.sa = sa at *
  generalize r.sc = sc at *
  generalize r.ia = ia at *
  generalize r.ic = ic at *
  clear ha hg hP
  go_enter Try.func17, Try.ntmps17
  go_upto_region 1 with (fail)
  generalize hA : (Obj.cells #[.slice sa n sc, .slice ia m ic, .int .i64 nx] 25 : Obj) = A
  generalize hB : (Obj.cells #[.int .i64 t] 3 : Obj) = B
  generalize hC : (Obj.cells #[.slice none 0 0, .slice none 0 0, .int .i64 0] 25 : Obj) = C
  obtain ⟨hu, b0, b1, b2, hsz⟩ := three_boxes w A B C
  generalize ((w.alloc A).alloc B).alloc C = W at *
  generalize hH : w.heap.size = H at *
  rw [← hA] at b0
  rw [← hB] at b1
  rw [← hC] at b2
  have HU := Lib.hid hu; have HB0 := Lib.hid b0; have HB2 := Lib.hid b2; have HH := Lib.hid hH; have HSZ := Lib.hid hsz
  obtain ⟨c0, c1, c2⟩ := cells3 b0
  have ct := cell_block b1 0
  simp only [List.getElem?_toArray, List.getElem?_cons_zero] at ct
  have HCT := Lib.hid ct
  clear hu hA hB hC b0 b1 b2 hH hsz
  go_wp2_with fail
  refine (HVT.out _).mono ?_
  rintro e w' ⟨rfl, rfl⟩
  go_wp2_with fail
  refine (HCL.out W HU.out).mono ?_
  rintro e w1 ⟨sa', sc', ia', ic', rfl, hm, hu1⟩
  have HR := Lib.hid (hu1.at HB2.out (by simp))
  obtain ⟨d0, d1, d2⟩ := cells3 HR.out
  obtain ⟨z0, z1, z2⟩ := free3 HR.out
  have HM := Lib.hid hm; have HU1 := Lib.hid hu1
  clear hm hu1
  go_wp2_with fail
  have p1 := stored3 HR.out (.slice sa' n sc') (.slice ia' m ic') (.int .i64 nx)
  have hU5 := upd_set3 w1 (H + 1 + 1) (.slice sa' n sc') (.slice ia' m ic') (.int .i64 nx)
  generalize (((w1.setCell ⟨H + 1 + 1, 0, none⟩ (.slice sa' n sc')).setCell ⟨H + 1 + 1, 1, none⟩ (.slice ia' m ic')).setCell ⟨H + 1 + 1, 2, none⟩ (.int .i64 nx)) = w5 at *
  obtain ⟨r0, r1, r2⟩ := cells3 p1
  have hsz := HSZ.out; have hh := HH.out
  have HF := HFIN.out sa' sc' ia' ic' W.heap.size w5 (by omega) (HM.out.keep hU5 (fun x hx => by simp at hx; omega)) ((HU.out.trans HU1.out (by simp)).trans hU5 (fun x hx hl => by simp at hx; omega))
  exact bodyPost_ret (v := .tuple #[.agg #[.slice sa' n sc', .slice ia' m ic', .int .i64 nx], .int .i64 0, .int .i64 1]) (by simp [results, Try.results17, go_sem, r0, r1, r2]) rfl HF
set_option maxHeartbeats 4000000 in
theorem PAlloc_full (r : ArR) (t : Int) (w : World) (ha : HasA w r) (hg : Good r.ar) (ht : TimeOk t) (hr : ¬ Room r.ar) :
    Calls Try.prog 17 #[encA r, .int .i64 t] w (GivesAHE r (allocA r.ar t) w) := by
  rw [allocA_full ht hr]
  have hl1 := hg.len1
  have hl2 := good_id_len hg
  have HCL := Lib.hid (fun W (hu : Upd [] w W) => (clone_has r W (ha.stay hu) (by omega) (by omega)).mono (fun _ _ h => h.spelt))
  unfold GivesOwn' at HCL
  have HVT := Lib.hid (validTime_any t)
  rw [show decide (TimeOk t) = true from by simpa using ht] at HVT
  have HRM : Hid (r.ar.id.length = 0 ∨ 1099511627776 ≤ r.ar.nx) := by
    show _ ∨ _
    by_cases h0 : r.ar.id.length = 0
    · exact .inl h0
    · refine .inr (Int.not_lt.1 (fun hx => hr ⟨fun e => h0 (by rw [e]; rfl), hx⟩))
  have HFIN : Hid (∀ sa sc ia ic B w', w.heap.size ≤ B → Own B r.ar w' ⟨r.ar, sa, sc, ia, ic⟩ → Upd [] w w' → GivesAHE r (r.ar, 0, 10) w (.returned (.tuple #[.agg #[.slice sa r.ar.sl.length sc, .slice ia r.ar.id.length ic, .int .i64 r.ar.nx], .int .i64 0, .int .i64 10])) w') :=
    fun sa sc ia ic B w' hB hm hu => ⟨⟨r.ar, sa, sc, ia, ic⟩, rfl, hm.nxt hB hu⟩
  generalize hP : (r.ar, (0 : Int), (10 : Int)) = p at *
  have HEN : Hid (encA r = .agg #[.slice r.sa r.ar.sl.length r.sc, .slice r.ia r.ar.id.length r.ic, .int .i64 r.ar.nx]) := rfl
  rw [HEN.out] at HCL ⊢
  generalize r.ar.sl.length = n at *
  generalize r.ar.id.length = m at *
  generalize r.ar.nx = nx at *
  generalize r.sa = sa at *
  generalize r.sc = sc at *
  generalize r.ia = ia at *
  generalize r.ic = ic at *
  clear ha hg hP
  go_enter Try.func17, Try.ntmps17
  go_upto_region 1 with (fail)
  generalize hA : (Obj.cells #[.slice sa n sc, .slice ia m ic, .int .i64 nx] 25 : Obj) = A
  generalize hB : (Obj.cells #[.int .i64 t] 3 : Obj) = B
  generalize hC : (Obj.cells #[.slice none 0 0, .slice none 0 0, .int .i64 0] 25 : Obj) = C
  obtain ⟨hu, b0, b1, b2, hsz⟩ := three_boxes w A B C
  generalize ((w.alloc A).alloc B).alloc C = W at *
  generalize hH : w.heap.size = H at *
  rw [← hA] at b0
  rw [← hB] at b1
  rw [← hC] at b2
  have HU := Lib.hid hu; have HB0 := Lib.hid b0; have HB2 := Lib.hid b2; have HH := Lib.hid hH; have HSZ := Lib.hid hsz
  obtain ⟨c0, c1, c2⟩ := cells3 b0
  have ct := cell_block b1 0
  simp only [List.getElem?_toArray, List.getElem?_cons_zero] at ct
  have HCT := Lib.hid ct
  clear hu hA hB hC b0 b1 b2 hH hsz
  by_cases hm0 : m = 0
  · have hd0 : ((m : Int) == 0) = true := by simpa using hm0
    clear hm0
    go_wp2_with fail
    refine (HVT.out _).mono ?_
    rintro e w' ⟨rfl, rfl⟩
    go_wp2_with fail
    refine (HCL.out W HU.out).mono ?_
    rintro e w1 ⟨sa', sc', ia', ic', rfl, hm, hu1⟩
    have HR := Lib.hid (hu1.at HB2.out (by simp))
    obtain ⟨d0, d1, d2⟩ := cells3 HR.out
    obtain ⟨z0, z1, z2⟩ := free3 HR.out
    have HM := Lib.hid hm; have HU1 := Lib.hid hu1
    clear hm hu1
    go_wp2_with fail
    have p1 := stored3 HR.out (.slice sa' n sc') (.slice ia' m ic') (.int .i64 nx)
    have hU5 := upd_set3 w1 (H + 1 + 1) (.slice sa' n sc') (.slice ia' m ic') (.int .i64 nx)
    generalize (((w1.setCell ⟨H + 1 + 1, 0, none⟩ (.slice sa' n sc')).setCell ⟨H + 1 + 1, 1, none⟩ (.slice ia' m ic')).setCell ⟨H + 1 + 1, 2, none⟩ (.int .i64 nx)) = w5 at *
    obtain ⟨r0, r1, r2⟩ := cells3 p1
    have hsz := HSZ.out; have hh := HH.out
    have HF := HFIN.out sa' sc' ia' ic' W.heap.size w5 (by omega) (HM.out.keep hU5 (fun x hx => by simp at hx; omega)) ((HU.out.trans HU1.out (by simp)).trans hU5 (fun x hx hl => by simp at hx; omega))
    exact bodyPost_ret (v := .tuple #[.agg #[.slice sa' n sc', .slice ia' m ic', .int .i64 nx], .int .i64 0, .int .i64 10]) (by simp [results, Try.results17, go_sem, r0, r1, r2]) rfl HF
  · have hd0 : ((m : Int) == 0) = false := by simpa using hm0
    have hx : 1099511627776 ≤ nx := HRM.out.resolve_left hm0
    clear hm0
    have hd1 : decide (1099511627776 ≤ nx) = true := by simpa using hx
    go_wp2_with fail
    refine (HVT.out _).mono ?_
    rintro e w' ⟨rfl, rfl⟩
    go_wp2_with fail
    refine (HCL.out W HU.out).mono ?_
    rintro e w1 ⟨sa', sc', ia', ic', rfl, hm, hu1⟩
    have HR := Lib.hid (hu1.at HB2.out (by simp))
    obtain ⟨d0, d1, d2⟩ := cells3 HR.out
    obtain ⟨z0, z1, z2⟩ := free3 HR.out
    have HM := Lib.hid hm; have HU1 := Lib.hid hu1
    clear hm hu1
    go_wp2_with fail
    have p1 := stored3 HR.out (.slice sa' n sc') (.slice ia' m ic') (.int .i64 nx)
    have hU5 := upd_set3 w1 (H + 1 + 1) (.slice sa' n sc') (.slice ia' m ic') (.int .i64 nx)
    generalize (((w1.setCell ⟨H + 1 + 1, 0, none⟩ (.slice sa' n sc')).setCell ⟨H + 1 + 1, 1, none⟩ (.slice ia' m ic')).setCell ⟨H + 1 + 1, 2, none⟩ (.int .i64 nx)) = w5 at *
    obtain ⟨r0, r1, r2⟩ := cells3 p1
    have hsz := HSZ.out; have hh := HH.out
    have HF := HFIN.out sa' sc' ia' ic' W.heap.size w5 (by omega) (HM.out.keep hU5 (fun x hx => by simp at hx; omega)) ((HU.out.trans HU1.out (by simp)).trans hU5 (fun x hx hl => by simp at hx; omega))
    exact bodyPost_ret (v := .tuple #[.agg #[.slice sa' n sc', .slice ia' m ic', .int .i64 nx], .int .i64 0, .int .i64 10]) (by simp [results, Try.results17, go_sem, r0, r1, r2]) rfl HF
end Go.Proofs.Ythpofcomlidoiaa
