/- Contract: the program's Alloc where it succeeds. -/
import Derived.Test.YthpofcomlidoiaaDQ
namespace Go.Proofs.Ythpofcomlidoiaa
open Go.RowKit Go.Lib

theorem allocM {r : ArR} {i : Nat} {t nx : Int} {bt ba : Nat} {w : World} (ha : HasA w r) (hg : Good r.ar) (hi : i < r.ar.sl.length) (ht : w.cell? ⟨bt, 0, none⟩ = some (.int .i64 t)) (hx : w.cell? ⟨ba, 2, none⟩ = some (.int .i64 nx)) :
    Calls Try.prog 35 #[encA r, .int .i64 (i : Nat), .func (.func 36) #[] #[.pointer (some ⟨bt, 0, none⟩), .pointer (some ⟨ba, 0, none⟩)]] w (GivesMod' (setS r.ar i ⟨(slAt r.ar.sl i).g, 1, t, nx⟩) true w) := by
  have hl1 := hg.len1
  have hl2 := good_id_len hg
  have hch : ∀ W, Upd [] w W → Calls Try.prog 36 (#[aggS (slAt r.ar.sl i)] ++ #[.pointer (some ⟨bt, 0, none⟩), .pointer (some ⟨ba, 0, none⟩)]) W fun e w' => e = .returned (.tuple #[aggS ⟨(slAt r.ar.sl i).g, 1, t, nx⟩, .bool true]) ∧ Upd [] W w' := fun W hu => by
    rw [arr12]
    exact allocF_any (slAt r.ar.sl i) t nx bt ba W (hu.cell ht (by simp)) (hu.cell hx (by simp))
  exact (modify_in r i 36 _ _ _ w ha (by omega) (by omega) hi allocF_enter hch).mono (fun _ _ h => h.spelt)
theorem Mod.idAt {B : Nat} {a : Ar} {w : World} {r : ArR} (h : Mod B a w r) (h0 : 0 < a.id.length) : ∃ g, r.ia = some ⟨g, 0, none⟩ ∧ B ≤ g ∧ a.id.length ≤ r.ic := by
  rcases h.id.2 with ⟨_, hn⟩ | ⟨g, cap, cur, hv, hb, _, hc, _⟩
  · omega
  · simp only [Value.slice.injEq, true_and] at hv
    exact ⟨g, hv.1, hb, by rw [hv.2]; exact hc⟩
theorem ints_dropLast {w : World} {ad : Option Addr} {xs : List Int} (h : Ints w ad xs) : Ints w ad xs.dropLast := by
  intro j hj
  have h2 := h j (by rw [List.length_dropLast] at hj; omega)
  rw [List.getElem_dropLast]
  exact h2

set_option maxHeartbeats 4000000 in
theorem PAlloc_ok (r : ArR) (t : Int) (w : World) (ha : HasA w r) (hg : Good r.ar) (ht : TimeOk t) (hr : Room r.ar) :
    Calls Try.prog 17 #[encA r, .int .i64 t] w (GivesAHE r (allocA r.ar t) w) := by
  rw [allocA_ok ht hr]
  obtain ⟨hi, h0, hid⟩ := hg.last hr.1
  obtain ⟨i, hie⟩ : ∃ i, i = lastI r.ar := ⟨_, rfl⟩
  have hm0 : 0 < r.ar.id.length := List.length_pos_iff.2 hr.1
  have hm1 := good_id_len hg
  have hnx0 := hg.nx0
  have hnx1 : r.ar.nx < 1099511627776 := hr.2
  rw [← hie] at hi h0 hid
  have hsl := (hg.ok i hi).1
  have hdl : r.ar.id.dropLast.length = r.ar.id.length - 1 := List.length_dropLast
  have hat : r.ar.id[r.ar.id.length - 1]? = some (i : Int) := by
    have h1 := congrArg (fun l : List Int => l[r.ar.id.length - 1]?) hid
    rw [h1, List.getElem?_append_right (by omega), hdl, Nat.sub_self]; rfl
  obtain ⟨hi1, hi2⟩ := List.getElem?_eq_some_iff.1 hat
  have HIX : Hid (∀ W, Upd [] w W → ∃ ib io, r.ia = some ⟨ib, io, none⟩ ∧ W.cell? ⟨ib, io + (r.ar.id.length - 1), none⟩ = some (.int .i64 (i : Int))) := fun W hu => by
    obtain ⟨ib, io, e, c⟩ := (ha.stay hu).id (r.ar.id.length - 1) hi1
    rw [hi2] at c
    exact ⟨ib, io, e, c⟩
  have hIC := ha.ic
  have HVT := Lib.hid (validTime_any t)
  rw [show decide (TimeOk t) = true from by simpa using ht] at HVT
  have HMD := Lib.hid (fun W (hu : Upd [] w W) bt ba (h1 : W.cell? ⟨bt, 0, none⟩ = some (.int .i64 t)) (h2 : W.cell? ⟨ba, 2, none⟩ = some (.int .i64 r.ar.nx)) => allocM (ha.stay hu) hg hi h1 h2)
  unfold GivesMod' at HMD
  have HTA : Hid (takeA r.ar t = ⟨(setS r.ar i ⟨(slAt r.ar.sl i).g, 1, t, r.ar.nx⟩).sl, (setS r.ar i ⟨(slAt r.ar.sl i).g, 1, t, r.ar.nx⟩).id.dropLast, r.ar.nx + 1⟩) := by show _ = _; rw [takeA, ← hie]; rfl
  have HTH : Hid (takeH r.ar = 64 * (slAt r.ar.sl i).g + (i : Int)) := by show _ = _; rw [takeH, ← hie]
  have HLEN : Hid ((setS r.ar i ⟨(slAt r.ar.sl i).g, 1, t, r.ar.nx⟩).sl.length = r.ar.sl.length ∧ (setS r.ar i ⟨(slAt r.ar.sl i).g, 1, t, r.ar.nx⟩).id.length = r.ar.id.length ∧ (setS r.ar i ⟨(slAt r.ar.sl i).g, 1, t, r.ar.nx⟩).nx = r.ar.nx) := ⟨by simp [setS], rfl, rfl⟩
  have HGS : Hid (slAt (setS r.ar i ⟨(slAt r.ar.sl i).g, 1, t, r.ar.nx⟩).sl i = ⟨(slAt r.ar.sl i).g, 1, t, r.ar.nx⟩) := by show _ = _; simp only [setS]; rw [slAt_set hi, if_pos rfl]
  simp only [HLEN.out.1, HLEN.out.2.1, HLEN.out.2.2] at HMD
  have HMK := Lib.hid (Make_in i (slAt r.ar.sl i).g ⟨by omega, by have := hg.len1; omega⟩ ⟨hsl.1, hsl.2.1⟩)
  generalize (slAt r.ar.sl i).g = yg at *
  generalize setS r.ar i ⟨yg, 1, t, r.ar.nx⟩ = a' at *
  have HL0 : Hid (i < a'.sl.length) := by show _ < _; rw [HLEN.out.1]; exact hi
  have HFIN : Hid (∀ sa sc g cap B w', w.heap.size ≤ B → Slots w' sa a'.sl → a'.sl.length ≤ sc → (sa = none → sc = 0) → Ints w' (some ⟨g, 0, none⟩) a'.id → r.ar.id.length ≤ cap → B ≤ g → (∀ ad : Addr, sa = some ad → B ≤ ad.block) → Upd [] w w' → GivesAHE r (takeA r.ar t, takeH r.ar, 0) w (.returned (.tuple #[.agg #[.slice sa r.ar.sl.length sc, .slice (some ⟨g, 0, none⟩) (r.ar.id.length - 1) cap, .int .i64 (r.ar.nx + 1)], .int .i64 (64 * yg + (i : Int)), .int .i64 0])) w') :=
    fun sa sc g cap B w' hB h1 h2 h3 h4 h5 h6 h7 hu => ⟨⟨⟨a'.sl, a'.id.dropLast, r.ar.nx + 1⟩, sa, sc, some ⟨g, 0, none⟩, cap⟩, by simp only [encA, HLEN.out.1, HLEN.out.2.1, List.length_dropLast, HTH.out], by
      rw [HTA.out]
      exact ⟨rfl, ⟨h1, ints_dropLast h4, h2, by simp only [List.length_dropLast, HLEN.out.2.1]; omega, h3, fun e => by simp at e⟩, fun b hb _ => ⟨fun _ ad e => by have := h7 ad e; omega, fun _ ad e => by rw [← Option.some.inj e]; simp only; omega⟩, hu⟩⟩
  clear HTA HTH
  generalize hP : (takeA r.ar t, takeH r.ar, (0 : Int)) = p at *
  have HLI : Hid (a'.id.length = r.ar.id.length) := HLEN.out.2.1
  have HLS : Hid (a'.sl.length = r.ar.sl.length) := HLEN.out.1
  clear HLEN hat hid h0 hdl hi2 hi1 ht
  have HEN : Hid (encA r = .agg #[.slice r.sa r.ar.sl.length r.sc, .slice r.ia r.ar.id.length r.ic, .int .i64 r.ar.nx]) := rfl
  rw [HEN.out] at HMD ⊢
  clear ha hg hr hie hsl hP
  generalize r.ar.sl.length = n at *
  generalize r.ar.id.length = m at *
  generalize r.ar.nx = nx at *
  generalize r.sa = sa at *
  generalize r.sc = sc at *
  generalize r.ia = ia at *
  generalize r.ic = ic at *
  obtain ⟨ib, io, rfl, _⟩ := HIX.out w (Upd.refl _ _)
  have HIX2 : Hid (∀ W, Upd [] w W → W.cell? ⟨ib, io + (m - 1), none⟩ = some (.int .i64 (i : Int))) := fun W hu => by
    obtain ⟨ib', io', e, c⟩ := HIX.out W hu
    simp only [Option.some.injEq, Addr.mk.injEq, and_true] at e
    rw [e.1, e.2]; exact c
  clear HIX
  have hiz : (i : Int) < (n : Int) := by omega
  have hd0 : ((m : Int) == 0) = false := by rw [beq_eq_false_iff_ne]; omega
  have hd1 : decide (1099511627776 ≤ nx) = false := by rw [decide_eq_false_iff_not]; omega
  have hnz2 : ((m - 1 : Nat) : Int) < (m : Int) := by omega
  have hwr : IntKind.i64.wrap ((m : Int) - 1) = ((m - 1 : Nat) : Int) := by rw [IntKind.wrap_i64]; omega
  have hwx : IntKind.i64.wrap (nx + 1) = nx + 1 := by rw [IntKind.wrap_i64]; omega
  go_enter Try.func17, Try.ntmps17
  go_upto_region 1 with (fail)
  generalize hA : (Obj.cells #[.slice sa n sc, .slice (some ⟨ib, io, none⟩) m ic, .int .i64 nx] 25 : Obj) = A
  generalize hB : (Obj.cells #[.int .i64 t] 3 : Obj) = B
  generalize hC : (Obj.cells #[.slice none 0 0, .slice none 0 0, .int .i64 0] 25 : Obj) = C
  obtain ⟨hu, b0, b1, b2, hsz⟩ := three_boxes w A B C
  generalize ((w.alloc A).alloc B).alloc C = W at *
  generalize hH : w.heap.size = H at *
  rw [← hA] at b0
  rw [← hB] at b1
  rw [← hC] at b2
  have HU := Lib.hid hu; have HB0 := Lib.hid b0; have HB2 := Lib.hid b2; have HH := Lib.hid hH; have HSZ := Lib.hid hsz
  obtain ⟨c0, c1, c2⟩ := cells3 b0
  have ct := cell_block b1 0
  simp only [List.getElem?_toArray, List.getElem?_cons_zero] at ct
  have cx := HIX2.out W hu
  have HMW := Lib.hid (HMD.out W hu _ _ ct c2)
  clear hu hA hB hC b0 b1 b2 hH hsz HMD HIX2
  go_wp2_with fail
  refine (HVT.out _).mono ?_
  rintro e w' ⟨rfl, rfl⟩
  go_upto_region 8 with (go_at_call 35; refine (HMW.out).mono ?_; rintro e w2 ⟨sa', sc', ia', ic', rfl, hm, hu2⟩)
  obtain ⟨gi, hia', hgi, hcap⟩ := hm.idAt (by rw [HLI.out]; exact hm0)
  simp only at hia' hcap
  subst hia'
  rw [HLI.out] at hcap
  have hgl : gi < w2.heap.size := (hm.id.lt gi rfl).2
  obtain ⟨sb, so, hsa', k0, _, _, _⟩ := hm.sl i HL0.out
  simp only at hsa' k0
  subst hsa'
  rw [← slAt_get HL0.out, HGS.out] at k0
  simp only at k0
  have hsl2 := World.block_lt_of_cell? w2 _ k0
  simp only at hsl2
  have hsb : W.heap.size ≤ sb := hm.sb _ rfl
  have HM := Lib.hid hm; have HU2 := Lib.hid hu2
  have HB3 := Lib.hid (heap_alloc1 w2 (.cells #[.slice (some ⟨sb, so, none⟩) n sc', .slice (some ⟨gi, 0, none⟩) m ic', .int .i64 nx] 25))
  have HA3 : Hid (Upd [] w2 (w2.alloc (.cells #[.slice (some ⟨sb, so, none⟩) n sc', .slice (some ⟨gi, 0, none⟩) m ic', .int .i64 nx] 25))) := (Upd.refl [] w2).alloc _
  generalize w2.alloc (.cells #[.slice (some ⟨sb, so, none⟩) n sc', .slice (some ⟨gi, 0, none⟩) m ic', .int .i64 nx] 25) = W3 at *
  have HPG := Lib.hid hu2.size
  generalize w2.heap.size = P at *
  have hpg := HPG.out; have hsz := HSZ.out; have hh := HH.out
  have HR3 := Lib.hid (HA3.out.at (hu2.at HB2.out (by simp)) (by simp))
  have HK3 := Lib.hid (HA3.out.cell k0 (by simp))
  have hcapz : ((m - 1 : Nat) : Int) ≤ (ic' : Int) := by omega
  clear c0 c1 c2 ct cx hm hu2 k0 HVT HMW
  obtain ⟨c0, c1, c2⟩ := cells3 HB3.out
  obtain ⟨z0, z1, z2⟩ := free3 HB3.out
  go_upto_region 11 with (fail)
  have bp : (W3.setCell ⟨P, 1, none⟩ (.slice (some ⟨gi, 0, none⟩) (m - 1) ic')).heap[P]? = some (.cells #[.slice (some ⟨sb, so, none⟩) n sc', .slice (some ⟨gi, 0, none⟩) (m - 1) ic', .int .i64 nx] 25 (0, 0)) := setCell_block HB3.out _
  have hu4 := (Upd.refl [P] W3).setCell (p := ⟨P, 1, none⟩) (fun _ => by simp) (.slice (some ⟨gi, 0, none⟩) (m - 1) ic')
  generalize W3.setCell ⟨P, 1, none⟩ (.slice (some ⟨gi, 0, none⟩) (m - 1) ic') = W4 at *
  have HB4 := Lib.hid bp; have HU4 := Lib.hid hu4
  clear c0 c1 c2 z0 z1 z2 hu4
  obtain ⟨c0, c1, c2⟩ := cells3 bp
  obtain ⟨z0, z1, z2⟩ := free3 bp
  clear bp
  go_upto_region 12 with (fail)
  have bp : (W4.setCell ⟨P, 2, none⟩ (.int .i64 (nx + 1))).heap[P]? = some (.cells #[.slice (some ⟨sb, so, none⟩) n sc', .slice (some ⟨gi, 0, none⟩) (m - 1) ic', .int .i64 (nx + 1)] 25 (0, 0)) := setCell_block HB4.out _
  have hu5 := HU4.out.setCell (p := ⟨P, 2, none⟩) (fun _ => by simp) (.int .i64 (nx + 1))
  generalize W4.setCell ⟨P, 2, none⟩ (.int .i64 (nx + 1)) = W5 at *
  have HU5 := Lib.hid hu5
  clear c0 c1 c2 z0 z1 z2
  obtain ⟨p0, p1, p2⟩ := cells3 bp
  have k0 := hu5.cell HK3.out (by simp; omega)
  have hr5 := hu5.at HR3.out (by simp; omega)
  have HR5 := Lib.hid hr5
  obtain ⟨e0, e1, e2⟩ := cells3 hr5
  obtain ⟨z0, z1, z2⟩ := free3 hr5
  have HKP : Hid (∀ W', Upd [H + 1 + 1] W5 W' → W'.cell? ⟨P, 0, none⟩ = some (.slice (some ⟨sb, so, none⟩) n sc') ∧ W'.cell? ⟨P, 1, none⟩ = some (.slice (some ⟨gi, 0, none⟩) (m - 1) ic') ∧ W'.cell? ⟨P, 2, none⟩ = some (.int .i64 (nx + 1)) ∧ W'.cell? ⟨sb, so + i * 4, none⟩ = some (.int .i64 yg)) := fun W' hu => ⟨hu.cell p0 (by simp; omega), hu.cell p1 (by simp; omega), hu.cell p2 (by simp; omega), hu.cell k0 (by simp; omega)⟩
  clear bp hu5 hr5
  go_region_held3 (fun wz => wz.cell? ⟨P, 0, none⟩ = some (.slice (some ⟨sb, so, none⟩) n sc') ∧ wz.cell? ⟨P, 1, none⟩ = some (.slice (some ⟨gi, 0, none⟩) (m - 1) ic') ∧ wz.cell? ⟨P, 2, none⟩ = some (.int .i64 (nx + 1)) ∧ wz.cell? ⟨sb, so + i * 4, none⟩ = some (.int .i64 yg)) (first | exact ⟨p0, p1, p2, k0⟩ | (refine HKP.out _ ?_; (repeat (first | exact Upd.refl _ _ | refine Upd.drew ?_ | refine Upd.setCell ?_ (by simp) _)))) (first | (go_at_call 37; refine (HMK.out _).mono ?_; rintro e w' ⟨rfl, rfl⟩))
  have pf : ((((W5.setCell ⟨H + 1 + 1, 0, none⟩ (.slice (some ⟨sb, so, none⟩) n sc')).setCell ⟨H + 1 + 1, 1, none⟩ (.slice (some ⟨gi, 0, none⟩) (m - 1) ic')).setCell ⟨H + 1 + 1, 2, none⟩ (.int .i64 (nx + 1))).drew).heap[H + 1 + 1]? = _ := stored3 HR5.out (.slice (some ⟨sb, so, none⟩) n sc') (.slice (some ⟨gi, 0, none⟩) (m - 1) ic') (.int .i64 (nx + 1))
  have hU6 := (upd_set3 W5 (H + 1 + 1) (.slice (some ⟨sb, so, none⟩) n sc') (.slice (some ⟨gi, 0, none⟩) (m - 1) ic') (.int .i64 (nx + 1))).drew
  generalize (((W5.setCell ⟨H + 1 + 1, 0, none⟩ (.slice (some ⟨sb, so, none⟩) n sc')).setCell ⟨H + 1 + 1, 1, none⟩ (.slice (some ⟨gi, 0, none⟩) (m - 1) ic')).setCell ⟨H + 1 + 1, 2, none⟩ (.int .i64 (nx + 1))).drew = w6 at *
  clear p0 p1 p2 e0 e1 e2 z0 z1 z2 k0
  obtain ⟨r0, r1, r2⟩ := cells3 pf
  have hsl6 : Slots w6 (some ⟨sb, so, none⟩) a'.sl := ((HM.out.sl.stay HA3.out).keep HU5.out (fun ad e => by rw [← Option.some.inj e]; simp; omega)).keep hU6 (fun ad e => by rw [← Option.some.inj e]; simp; omega)
  have hid6 : Ints w6 (some ⟨gi, 0, none⟩) a'.id := ((HM.out.has.id.stay HA3.out).keep HU5.out (fun ad e => by rw [← Option.some.inj e]; simp; omega)).keep hU6 (fun ad e => by rw [← Option.some.inj e]; simp; omega)
  have HF := Lib.hid (HFIN.out (some ⟨sb, so, none⟩) sc' gi ic' W.heap.size w6 (by omega) hsl6 HM.out.sc HM.out.sn hid6 hcap hgi (fun ad e => by rw [← Option.some.inj e]; exact hsb) ((((HU.out.trans HU2.out (by simp)).trans HA3.out (by simp)).trans HU5.out (fun x hx hl => by simp at hx; omega)).trans hU6 (fun x hx hl => by simp at hx; omega)))
  clear hsl6 hid6
  go_wp2_with fail
  exact bodyPost_ret (v := .tuple #[.agg #[.slice (some ⟨sb, so, none⟩) n sc', .slice (some ⟨gi, 0, none⟩) (m - 1) ic', .int .i64 (nx + 1)], .int .i64 (64 * yg + (i : Int)), .int .i64 0]) (by simp [results, Try.results17, go_sem, r0, r1, r2]) rfl HF.out
theorem PAlloc_has (r : ArR) (t : Int) (w : World) (ha : HasA w r) (hg : Good r.ar) : Calls Try.prog 17 #[encA r, .int .i64 t] w (GivesAHE r (allocA r.ar t) w) := by
  by_cases ht : TimeOk t
  · by_cases hr : Room r.ar
    · exact PAlloc_ok r t w ha hg ht hr
    · exact PAlloc_full r t w ha hg ht hr
  · exact PAlloc_bad r t w ha hg ht
end Go.Proofs.Ythpofcomlidoiaa
