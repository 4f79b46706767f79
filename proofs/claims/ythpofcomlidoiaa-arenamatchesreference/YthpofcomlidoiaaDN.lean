/- Contract: the program's Transition. -/
import Derived.Test.YthpofcomlidoiaaDM
namespace Go.Proofs.Ythpofcomlidoiaa
open Go.RowKit Go.Lib

theorem transA_ref {a : Ar} {h f t : Int} (hr : Refers a h) : transA a h f t = (modA a (hS h) (moveS (slAt a.sl (hS h)) t) (moveB (slAt a.sl (hS h)) f t), moveB (slAt a.sl (hS h)) f t) := by
  unfold transA modA moveB liveB
  by_cases h1 : (slAt a.sl (hS h)).s = f
  · by_cases h2 : 1 ≤ t ∧ t ≤ 3
    · rw [if_pos ⟨hr, h1, h2⟩]; simp [h1, h2]
    · rw [if_neg (fun k => h2 k.2.2)]; simp [h1, h2]
  · rw [if_neg (fun k => h1 k.2.1)]; simp [h1]
/-- What modify gives, spelt out. -/
def GivesMod' (a : Ar) (b : Bool) (w : World) (e : Ending) (w' : World) : Prop := ∃ sa sc ia ic, e = .returned (.tuple #[.agg #[.slice sa a.sl.length sc, .slice ia a.id.length ic, .int .i64 a.nx], .bool b]) ∧ Mod w.heap.size a w' ⟨a, sa, sc, ia, ic⟩ ∧ Upd [] w w'
theorem GivesMod.spelt {a : Ar} {b : Bool} {w w' : World} {e : Ending} (h : GivesMod a b w e w') : GivesMod' a b w e w' := by
  obtain ⟨⟨a1, sa, sc, ia, ic⟩, rfl, hm, hu⟩ := h
  obtain rfl : a1 = a := hm.eq
  exact ⟨sa, sc, ia, ic, rfl, hm, hu⟩
theorem good_id_len {a : Ar} (h : Good a) : a.id.length ≤ 64 := by have := h.count; have := h.len1; omega
theorem arr12 (x y z : Value) : #[x] ++ #[y, z] = #[x, y, z] := rfl
theorem transM {r : ArR} {h f t : Int} {bf bt : Nat} {w : World} (ha : HasA w r) (hg : Good r.ar) (hf : w.cell? ⟨bf, 0, none⟩ = some (.int .i64 f)) (ht : w.cell? ⟨bt, 0, none⟩ = some (.int .i64 t)) :
    Calls Try.prog 35 #[encA r, .int .i64 (findZ r.ar h), .func (.func 41) #[] #[.pointer (some ⟨bf, 0, none⟩), .pointer (some ⟨bt, 0, none⟩)]] w (GivesMod' (transA r.ar h f t).1 (transA r.ar h f t).2 w) := by
  have hl1 := hg.len1
  have hl2 := good_id_len hg
  by_cases hr : Refers r.ar h
  · rw [findZ_yes hr, transA_ref hr]
    have hch : ∀ W, Upd [] w W → Calls Try.prog 41 (#[aggS (slAt r.ar.sl (hS h))] ++ #[.pointer (some ⟨bf, 0, none⟩), .pointer (some ⟨bt, 0, none⟩)]) W fun e w' => e = .returned (.tuple #[aggS (moveS (slAt r.ar.sl (hS h)) t), .bool (moveB (slAt r.ar.sl (hS h)) f t)]) ∧ Upd [] W w' := fun W hu => by
      rw [arr12]
      exact transF_any (slAt r.ar.sl (hS h)) f t bf bt W (hu.cell hf (by simp)) (hu.cell ht (by simp))
    exact (modify_in r (hS h) 41 _ _ _ w ha (by omega) (by omega) hr.2.1 transF_enter hch).mono (fun _ _ h => h.spelt)
  · rw [findZ_no hr, show transA r.ar h f t = (r.ar, false) from by rw [transA, if_neg (fun k => hr k.1)]]
    exact (modify_no r (-1) _ w ha (by omega) (by omega) (by omega)).mono (fun _ _ h => h.spelt)

theorem four_boxes (w : World) (A B C D : Obj) : Upd [] w ((((w.alloc A).alloc B).alloc C).alloc D) ∧ ((((w.alloc A).alloc B).alloc C).alloc D).heap[w.heap.size]? = some A ∧ ((((w.alloc A).alloc B).alloc C).alloc D).heap[w.heap.size + 1]? = some B ∧ ((((w.alloc A).alloc B).alloc C).alloc D).heap[w.heap.size + 1 + 1]? = some C ∧ ((((w.alloc A).alloc B).alloc C).alloc D).heap[w.heap.size + 1 + 1 + 1]? = some D ∧ ((((w.alloc A).alloc B).alloc C).alloc D).heap.size = w.heap.size + 4 := by
  obtain ⟨hu, b0, b1, b2, hs⟩ := three_boxes w A B C
  have k := (Upd.refl [] (((w.alloc A).alloc B).alloc C)).alloc D
  refine ⟨hu.alloc D, k.at b0 (by simp), k.at b1 (by simp), k.at b2 (by simp), ?_, by simp⟩
  have := heap_alloc1 (((w.alloc A).alloc B).alloc C) D
  rw [hs] at this
  exact this

set_option maxHeartbeats 4000000 in
theorem PTransition_has (r : ArR) (h f t : Int) (w : World) (ha : HasA w r) (hg : Good r.ar) :
    Calls Try.prog 19 #[encA r, .int .i64 h, .int .i64 f, .int .i64 t] w (GivesAB r (transA r.ar h f t) w) := by
  have HRF := Lib.hid (fun W (hu : Upd [] w W) => referredBy_has r h W (ha.stay hu))
  have HMD := Lib.hid (fun W (hu : Upd [] w W) bf bt (hf : W.cell? ⟨bf, 0, none⟩ = some (.int .i64 f)) (ht : W.cell? ⟨bt, 0, none⟩ = some (.int .i64 t)) => transM (h := h) (ha.stay hu) hg hf ht)
  have HFIN : Hid (∀ sa sc ia ic B w', w.heap.size ≤ B → Mod B (transA r.ar h f t).1 w' ⟨(transA r.ar h f t).1, sa, sc, ia, ic⟩ → Upd [] w w' → GivesAB r (transA r.ar h f t) w (.returned (.tuple #[.agg #[.slice sa (transA r.ar h f t).1.sl.length sc, .slice ia (transA r.ar h f t).1.id.length ic, .int .i64 (transA r.ar h f t).1.nx], .bool (transA r.ar h f t).2])) w') :=
    fun sa sc ia ic B w' hB hm hu => ⟨⟨(transA r.ar h f t).1, sa, sc, ia, ic⟩, rfl, hm.nxt hB hu⟩
  unfold GivesMod' at HMD
  generalize transA r.ar h f t = p at *
  generalize hp1 : p.1 = a' at *
  generalize p.2 = b at *
  generalize findZ r.ar h = fz at *
  have HEN : Hid (encA r = .agg #[.slice r.sa r.ar.sl.length r.sc, .slice r.ia r.ar.id.length r.ic, .int .i64 r.ar.nx]) := rfl
  rw [HEN.out] at HRF HMD ⊢
  generalize r.ar.sl.length = n at *
  generalize r.ar.id.length = m at *
  generalize r.ar.nx = nx at *
  generalize r.sa = sa at *
  generalize r.sc = sc at *
  generalize r.ia = ia at *
  generalize r.ic = ic at *
  generalize hn' : a'.sl.length = n' at *
  generalize hm' : a'.id.length = m' at *
  generalize a'.nx = nx' at *
  clear hp1 hn' hm' ha hg
  go_enter Try.func19, Try.ntmps19
  go_upto_region 1 with (fail)
  generalize hA : (Obj.cells #[.slice sa n sc, .slice ia m ic, .int .i64 nx] 25 : Obj) = A
  generalize hB : (Obj.cells #[.int .i64 f] 3 : Obj) = B
  generalize hC : (Obj.cells #[.int .i64 t] 3 : Obj) = C
  generalize hD : (Obj.cells #[.slice none 0 0, .slice none 0 0, .int .i64 0] 25 : Obj) = D
  obtain ⟨hu, b0, b1, b2, b3, hsz⟩ := four_boxes w A B C D
  generalize (((w.alloc A).alloc B).alloc C).alloc D = W at *
  generalize hH : w.heap.size = H at *
  rw [← hA] at b0
  rw [← hB] at b1
  rw [← hC] at b2
  rw [← hD] at b3
  have HU := Lib.hid hu; have HB3 := Lib.hid b3; have HH := Lib.hid hH; have HSZ := Lib.hid hsz
  obtain ⟨c0, c1, c2⟩ := cells3 b0
  have cf := cell_block b1 0
  have ct := cell_block b2 0
  simp only [List.getElem?_toArray, List.getElem?_cons_zero] at cf ct
  have HMW : Hid (∀ W', Upd [] W W' → Calls Try.prog 35 #[.agg #[.slice sa n sc, .slice ia m ic, .int .i64 nx], .int .i64 fz, .func (.func 41) #[] #[.pointer (some ⟨H + 1, 0, none⟩), .pointer (some ⟨H + 1 + 1, 0, none⟩)]] W' fun e w' => ∃ sa sc ia ic, e = .returned (.tuple #[.agg #[.slice sa n' sc, .slice ia m' ic, .int .i64 nx'], .bool b]) ∧ Mod W.heap.size a' w' ⟨a', sa, sc, ia, ic⟩ ∧ Upd [] W' w') := fun W' hu' => (HMD.out W' (HU.out.trans hu' (by simp)) _ _ (hu'.cell cf (by simp)) (hu'.cell ct (by simp))).mono (fun e w' ⟨sa, sc, ia, ic, h1, h2, h3⟩ => ⟨sa, sc, ia, ic, h1, h2.base hu'.size, h3⟩)
  have HRW : Hid (∀ W', Upd [] W W' → Calls Try.prog 40 #[.agg #[.slice sa n sc, .slice ia m ic, .int .i64 nx], .int .i64 h] W' fun e w' => e = .returned (.int .i64 fz) ∧ Upd [] W' w') := fun W' hu' => HRF.out W' (HU.out.trans hu' (by simp))
  have HKP : Hid (∀ W', Upd [H + 1 + 1 + 1] W W' → W'.cell? ⟨H, 0, none⟩ = some (.slice sa n sc) ∧ W'.cell? ⟨H, 1, none⟩ = some (.slice ia m ic) ∧ W'.cell? ⟨H, 2, none⟩ = some (.int .i64 nx)) := fun W' hu => ⟨hu.cell c0 (by simp; omega), hu.cell c1 (by simp; omega), hu.cell c2 (by simp; omega)⟩
  have HFR : Hid (∀ W', Upd [] W W' → (W'.frozen? ⟨H + 1 + 1 + 1, 0, none⟩ = false ∧ W'.frozen? ⟨H + 1 + 1 + 1, 1, none⟩ = false ∧ W'.frozen? ⟨H + 1 + 1 + 1, 2, none⟩ = false) ∧ (W'.cell? ⟨H + 1 + 1 + 1, 0, none⟩ = some (.slice none 0 0) ∧ W'.cell? ⟨H + 1 + 1 + 1, 1, none⟩ = some (.slice none 0 0) ∧ W'.cell? ⟨H + 1 + 1 + 1, 2, none⟩ = some (.int .i64 0))) := fun W' hu => ⟨free3 (hu.at HB3.out (by simp)), cells3 (hu.at HB3.out (by simp))⟩
  clear hu hA hB hC hD b0 b1 b2 b3 hH hsz HMD HRF cf ct
  go_region_held3 (fun wz => wz.cell? ⟨H, 0, none⟩ = some (.slice sa n sc) ∧ wz.cell? ⟨H, 1, none⟩ = some (.slice ia m ic) ∧ wz.cell? ⟨H, 2, none⟩ = some (.int .i64 nx)) (first | exact ⟨c0, c1, c2⟩ | (refine HKP.out _ ?_; (repeat (first | exact Upd.refl _ _ | refine Upd.drew ?_ | refine Upd.setCell ?_ (by simp) _ | refine Upd.trans (T := []) ?_ (by assumption) (by simp))))) (first | (go_at_call 40; (with_reducible refine (HRW.out _ ?_).mono ?_); ((repeat (first | exact Upd.refl [] _ | refine Upd.drew ?_ | refine Upd.trans (T := []) ?_ (by assumption) (by simp)))); rintro e w1 ⟨rfl, hu1⟩) | (go_at_call 35; (with_reducible refine (HMW.out _ ?_).mono ?_); ((repeat (first | exact Upd.refl [] _ | refine Upd.drew ?_ | refine Upd.trans (T := []) ?_ (by assumption) (by simp)))); rintro e w2 ⟨sa', sc', ia', ic', rfl, hm, hu2⟩; have hW2 : Upd [] W w2 := (by (repeat (first | exact Upd.refl [] _ | refine Upd.drew ?_ | refine Upd.trans (T := []) ?_ (by assumption) (by simp)))); obtain ⟨⟨x0, x1, x2⟩, ⟨y0, y1, y2⟩⟩ := HFR.out _ hW2))
  all_goals
    have p1 := stored3 (hW2.at HB3.out (by simp)) (.slice sa' n' sc') (.slice ia' m' ic') (.int .i64 nx')
    have hU5 := upd_set3 w2 (H + 1 + 1 + 1) (.slice sa' n' sc') (.slice ia' m' ic') (.int .i64 nx')
    generalize (((w2.setCell ⟨H + 1 + 1 + 1, 0, none⟩ (.slice sa' n' sc')).setCell ⟨H + 1 + 1 + 1, 1, none⟩ (.slice ia' m' ic')).setCell ⟨H + 1 + 1 + 1, 2, none⟩ (.int .i64 nx')) = w5 at *
    obtain ⟨r0, r1, r2⟩ := cells3 p1
    have hsz := HSZ.out; have hh := HH.out
    have HF := Lib.hid (HFIN.out sa' sc' ia' ic' W.heap.size w5 (by omega) (hm.keep hU5 (fun x hx => by simp at hx; omega)) ((HU.out.trans hW2 (by simp)).trans hU5 (fun x hx hl => by simp at hx; omega)))
    clear hm
    go_wp2_with fail
    exact bodyPost_ret (v := .tuple #[.agg #[.slice sa' n' sc', .slice ia' m' ic', .int .i64 nx'], .bool b]) (by simp [results, Try.results19, go_sem, r0, r1, r2]) rfl HF.out
end Go.Proofs.Ythpofcomlidoiaa
