/- Contract: the program's Release. -/
import Derived.Test.YthpofcomlidoiaaDN
namespace Go.Proofs.Ythpofcomlidoiaa
open Go.RowKit Go.Lib

theorem arr10 (x : Value) : #[x] ++ #[] = #[x] := rfl
theorem relM_yes {r : ArR} {h : Int} {w : World} (ha : HasA w r) (hg : Good r.ar) (hf : Frees r.ar h) :
    Calls Try.prog 35 #[encA r, .int .i64 (hS h : Nat), .func (.func 44) #[] #[]] w (GivesMod' (setS r.ar (hS h) (freeS (slAt r.ar.sl (hS h)))) true w) := by
  have hl1 := hg.len1
  have hl2 := good_id_len hg
  have hsl := (hg.ok _ hf.1.2.1).1
  have hch : ∀ W, Upd [] w W → Calls Try.prog 44 (#[aggS (slAt r.ar.sl (hS h))] ++ #[]) W fun e w' => e = .returned (.tuple #[aggS (freeS (slAt r.ar.sl (hS h))), .bool true]) ∧ Upd [] W w' := fun W _ => by
    rw [arr10]
    have := relF_any (slAt r.ar.sl (hS h)) ⟨by omega, by omega⟩ W
    rwa [show decide ((slAt r.ar.sl (hS h)).g < 1099511627776) = true from by simpa using hf.2] at this
  exact (modify_in r (hS h) 44 _ _ _ w ha (by omega) (by omega) hf.1.2.1 relF_enter hch).mono (fun _ _ h => h.spelt)
theorem relM_no {r : ArR} {h : Int} {w : World} (ha : HasA w r) (hg : Good r.ar) (hf : ¬ Frees r.ar h) :
    Calls Try.prog 35 #[encA r, .int .i64 (findZ r.ar h), .func (.func 44) #[] #[]] w (GivesMod' r.ar false w) := by
  have hl1 := hg.len1
  have hl2 := good_id_len hg
  by_cases hr : Refers r.ar h
  · rw [findZ_yes hr]
    have hsl := (hg.ok _ hr.2.1).1
    have hch : ∀ W, Upd [] w W → Calls Try.prog 44 (#[aggS (slAt r.ar.sl (hS h))] ++ #[]) W fun e w' => e = .returned (.tuple #[aggS (freeS (slAt r.ar.sl (hS h))), .bool false]) ∧ Upd [] W w' := fun W _ => by
      rw [arr10]
      have := relF_any (slAt r.ar.sl (hS h)) ⟨by omega, by omega⟩ W
      rwa [show decide ((slAt r.ar.sl (hS h)).g < 1099511627776) = false from by rw [decide_eq_false_iff_not]; exact fun k => hf ⟨hr, k⟩] at this
    exact (modify_in r (hS h) 44 _ _ _ w ha (by omega) (by omega) hr.2.1 relF_enter hch).mono (fun _ _ h => h.spelt)
  · rw [findZ_no hr]
    exact (modify_no r (-1) _ w ha (by omega) (by omega) (by omega)).mono (fun _ _ h => h.spelt)

set_option maxHeartbeats 4000000 in
theorem PRelease_no (r : ArR) (h : Int) (w : World) (ha : HasA w r) (hg : Good r.ar) (hf : ¬ Frees r.ar h) :
    Calls Try.prog 21 #[encA r, .int .i64 h] w (GivesAB r (relA r.ar h) w) := by
  rw [relA, if_neg hf]
  have HRF := Lib.hid (fun W (hu : Upd [] w W) => referredBy_has r h W (ha.stay hu))
  have HMD := Lib.hid (fun W (hu : Upd [] w W) => relM_no (h := h) (ha.stay hu) hg hf)
  have HFIN : Hid (∀ sa sc ia ic B w', w.heap.size ≤ B → Mod B r.ar w' ⟨r.ar, sa, sc, ia, ic⟩ → Upd [] w w' → GivesAB r (r.ar, false) w (.returned (.tuple #[.agg #[.slice sa r.ar.sl.length sc, .slice ia r.ar.id.length ic, .int .i64 r.ar.nx], .bool false])) w') :=
    fun sa sc ia ic B w' hB hm hu => ⟨⟨r.ar, sa, sc, ia, ic⟩, rfl, hm.nxt hB hu⟩
  unfold GivesMod' at HMD
  generalize hP : (r.ar, false) = p at *
  generalize findZ r.ar h = fz at *
  have HEN : Hid (encA r = .agg #[.slice r.sa r.ar.sl.length r.sc, .slice r.ia r.ar.id.length r.ic, .int .i64 r.ar.nx]) := rfl
  rw [HEN.out] at HRF HMD ⊢
  generalize r.ar.sl.length = n at *
  generalize r.ar.id.length = m at *
  generalize r.ar.nx = nx at *
  generalize r.sa = sa at *
  generalize r.sc = sc at *
  generalize r.ia = ia at *
  generalize r.ic = ic at *
  clear ha hg hf hP
  go_enter Try.func21, Try.ntmps21
  go_upto_region 1 with (fail)
  generalize hA : (Obj.cells #[.slice sa n sc, .slice ia m ic, .int .i64 nx] 25 : Obj) = A
  generalize hB : (Obj.cells #[.slice none 0 0, .slice none 0 0, .int .i64 0] 25 : Obj) = B
  obtain ⟨hu, b0, b1, hsz⟩ := two_boxes w A B
  generalize (w.alloc A).alloc B = W at *
  generalize hH : w.heap.size = H at *
  rw [← hA] at b0
  rw [← hB] at b1
  have HU := Lib.hid hu; have HB0 := Lib.hid b0; have HB1 := Lib.hid b1; have HH := Lib.hid hH; have HSZ := Lib.hid hsz
  obtain ⟨c0, c1, c2⟩ := cells3 b0
  clear hu hA hB b0 b1 hH hsz
  go_wp2_with fail
  refine (HRF.out W HU.out).mono ?_
  rintro e w1 ⟨rfl, hu1⟩
  have HU1 := Lib.hid hu1
  obtain ⟨c0, c1, c2⟩ := cells3 (hu1.at HB0.out (by simp))
  clear hu1
  go_upto_region 3 with (go_at_call 35; refine (HMD.out w1 (HU.out.trans HU1.out (by simp))).mono ?_; rintro e w2 ⟨sa', sc', ia', ic', rfl, hm, hu2⟩)
  have HM := Lib.hid hm
  have hu3 : Upd [] w1 (w2.alloc (.cells #[.slice sa' n sc', .slice ia' m ic', .int .i64 nx] 25)) := hu2.alloc _
  have HB2 := Lib.hid (heap_alloc1 w2 (.cells #[.slice sa' n sc', .slice ia' m ic', .int .i64 nx] 25))
  have HM3 := Lib.hid (hm.keep ((Upd.refl [] w2).alloc (.cells #[.slice sa' n sc', .slice ia' m ic', .int .i64 nx] 25)) (by simp))
  generalize w2.alloc (.cells #[.slice sa' n sc', .slice ia' m ic', .int .i64 nx] 25) = W3 at *
  generalize w2.heap.size = P at *
  have HUW : Hid (Upd [] W W3) := HU1.out.trans hu3 (by simp)
  have HR3 := Lib.hid (HUW.out.at HB1.out (by simp))
  have HSZ1 := Lib.hid HU1.out.size
  clear c0 c1 c2 hm hu2 hu3
  obtain ⟨c0, c1, c2⟩ := cells3 HB2.out
  obtain ⟨d0, d1, d2⟩ := cells3 HR3.out
  obtain ⟨z0, z1, z2⟩ := free3 HR3.out
  go_wp2_with fail
  have p1 := stored3 HR3.out (.slice sa' n sc') (.slice ia' m ic') (.int .i64 nx)
  have hU5 := upd_set3 W3 (H + 1) (.slice sa' n sc') (.slice ia' m ic') (.int .i64 nx)
  generalize (((W3.setCell ⟨H + 1, 0, none⟩ (.slice sa' n sc')).setCell ⟨H + 1, 1, none⟩ (.slice ia' m ic')).setCell ⟨H + 1, 2, none⟩ (.int .i64 nx)) = w5 at *
  obtain ⟨r0, r1, r2⟩ := cells3 p1
  have hsz := HSZ.out; have hh := HH.out; have hsz1 := HSZ1.out
  have HF := HFIN.out sa' sc' ia' ic' w1.heap.size w5 (by omega) (HM3.out.keep hU5 (fun x hx => by simp at hx; omega)) ((HU.out.trans HUW.out (by simp)).trans hU5 (fun x hx hl => by simp at hx; omega))
  exact bodyPost_ret (v := .tuple #[.agg #[.slice sa' n sc', .slice ia' m ic', .int .i64 nx], .bool false]) (by simp [results, Try.results21, go_sem, r0, r1, r2]) rfl HF

/-- The ids grown by one, the box that keeps the arena written, the result written. -/
theorem Mod.put {B : Nat} {a : Ar} {w w3 w4 w5 : World} {sa ia : Option Addr} {sc ic g cap P R : Nat} {x : Int} {O : Obj} (h : Mod B a w ⟨a, sa, sc, ia, ic⟩)
    (ho : w3.ownsRow B 3 1 (.slice (some ⟨g, 0, none⟩) (a.id.length + 1) cap) (a.id.length + 1) ((a.id ++ [x]).map (Value.int .i64)))
    (hg : (w.alloc O).grownBy w3 (Value.slice ia a.id.length ic).ownBlock) (hu4 : Upd [P] w3 w4) (hu5 : Upd [R] w4 w5) (hPs : ∀ ad, sa = some ad → ad.block ≠ P) (hPg : g ≠ P) (hR : R < B) :
    HasA w5 ⟨⟨a.sl, a.id ++ [x], a.nx⟩, sa, sc, some ⟨g, 0, none⟩, cap⟩ ∧ B ≤ g ∧ ∀ ad, sa = some ad → B ≤ ad.block := by
  have hge := row_ge ho
  have hu3 := upd_grown hg
  have hal := (Upd.refl [] w).alloc O
  refine ⟨⟨?_, ?_, h.sc, ?_, h.sn, fun e => by simp at e⟩, hge, h.sb⟩
  · exact (((h.sl.stay hal).keep hu3 (fun ad e hm => h.ne ad _ e (toList_of hm) rfl)).keep hu4 (fun ad e => by have := hPs ad e; simpa using this)).keep hu5 (fun ad e => by have h6 : B ≤ ad.block := h.sb ad e; simp; omega)
  · have h1 : w3.ownsRow B 3 1 (.slice (some ⟨g, 0, none⟩) (a.id.length + 1) cap) (a.id ++ [x]).length ((a.id ++ [x]).map (Value.int .i64)) := by rw [List.length_append]; exact ho
    have h2 := ints_row h1
    exact (h2.keep hu4 (fun ad e => by rw [← Option.some.inj e]; simpa using hPg)).keep hu5 (fun ad e => by rw [← Option.some.inj e]; simp; omega)
  · have := row_cap ho
    simp only [List.length_append, List.length_cons, List.length_nil]; omega
set_option maxHeartbeats 4000000 in
theorem PRelease_yes (r : ArR) (h : Int) (w : World) (ha : HasA w r) (hg : Good r.ar) (hf : Frees r.ar h) :
    Calls Try.prog 21 #[encA r, .int .i64 h] w (GivesAB r (relA r.ar h) w) := by
  rw [relA, if_pos hf]
  have HRF := Lib.hid (fun W (hu : Upd [] w W) => referredBy_has r h W (ha.stay hu))
  have HMD := Lib.hid (fun W (hu : Upd [] w W) => relM_yes (h := h) (ha.stay hu) hg hf)
  rw [findZ_yes hf.1] at HRF
  have HPUT : Hid (putA r.ar h = ⟨(setS r.ar (hS h) (freeS (slAt r.ar.sl (hS h)))).sl, (setS r.ar (hS h) (freeS (slAt r.ar.sl (hS h)))).id ++ [((hS h : Nat) : Int)], (setS r.ar (hS h) (freeS (slAt r.ar.sl (hS h)))).nx⟩) := rfl
  have HLEN : Hid ((setS r.ar (hS h) (freeS (slAt r.ar.sl (hS h)))).sl.length = r.ar.sl.length ∧ (setS r.ar (hS h) (freeS (slAt r.ar.sl (hS h)))).id.length = r.ar.id.length ∧ (setS r.ar (hS h) (freeS (slAt r.ar.sl (hS h)))).nx = r.ar.nx) := ⟨by simp [setS], rfl, rfl⟩
  have HL0 : Hid (0 < (setS r.ar (hS h) (freeS (slAt r.ar.sl (hS h)))).sl.length) := by have := hg.len0; show 0 < _; simp only [setS, List.length_set]; omega
  have HIL : Hid (r.ar.id.length ≤ 1000) := by have := good_id_len hg; show _ ≤ _; omega
  unfold GivesMod' at HMD
  simp only [HLEN.out.1, HLEN.out.2.1, HLEN.out.2.2] at HMD
  generalize setS r.ar (hS h) (freeS (slAt r.ar.sl (hS h))) = a' at *
  have HFIN : Hid (∀ sa sc g cap B w', w.heap.size ≤ B → HasA w' ⟨⟨a'.sl, a'.id ++ [((hS h : Nat) : Int)], a'.nx⟩, sa, sc, some ⟨g, 0, none⟩, cap⟩ → B ≤ g → (∀ ad : Addr, sa = some ad → B ≤ ad.block) → Upd [] w w' → GivesAB r (putA r.ar h, true) w (.returned (.tuple #[.agg #[.slice sa r.ar.sl.length sc, .slice (some ⟨g, 0, none⟩) (r.ar.id.length + 1) cap, .int .i64 r.ar.nx], .bool true])) w') :=
    fun sa sc g cap B w' hB hm h1 h2 hu => ⟨⟨⟨a'.sl, a'.id ++ [((hS h : Nat) : Int)], a'.nx⟩, sa, sc, some ⟨g, 0, none⟩, cap⟩, by simp only [encA, HLEN.out.1, HLEN.out.2.1, HLEN.out.2.2, List.length_append, List.length_cons, List.length_nil], HPUT.out.symm ▸ ⟨rfl, hm, fun b hb _ => ⟨fun _ ad e => by have := h2 ad e; omega, fun _ ad e => by rw [← Option.some.inj e]; simp only; omega⟩, hu⟩⟩
  clear HPUT
  generalize hP : (putA r.ar h, true) = p at *
  have HLI : Hid (a'.id.length = r.ar.id.length) := HLEN.out.2.1
  clear HLEN
  generalize hS h = i at *
  have HEN : Hid (encA r = .agg #[.slice r.sa r.ar.sl.length r.sc, .slice r.ia r.ar.id.length r.ic, .int .i64 r.ar.nx]) := rfl
  rw [HEN.out] at HRF HMD ⊢
  generalize r.ar.sl.length = n at *
  generalize r.ar.id.length = m at *
  have hm1000 := HIL.out
  generalize r.ar.nx = nx at *
  generalize r.sa = sa at *
  generalize r.sc = sc at *
  generalize r.ia = ia at *
  generalize r.ic = ic at *
  clear ha hg hf hP
  go_enter Try.func21, Try.ntmps21
  go_upto_region 1 with (fail)
  generalize hA : (Obj.cells #[.slice sa n sc, .slice ia m ic, .int .i64 nx] 25 : Obj) = A
  generalize hB : (Obj.cells #[.slice none 0 0, .slice none 0 0, .int .i64 0] 25 : Obj) = B
  obtain ⟨hu, b0, b1, hsz⟩ := two_boxes w A B
  generalize (w.alloc A).alloc B = W at *
  generalize hH : w.heap.size = H at *
  rw [← hA] at b0
  rw [← hB] at b1
  have HU := Lib.hid hu; have HB0 := Lib.hid b0; have HB1 := Lib.hid b1; have HH := Lib.hid hH; have HSZ := Lib.hid hsz
  obtain ⟨c0, c1, c2⟩ := cells3 b0
  clear hu hA hB b0 b1 hH hsz
  go_wp2_with fail
  refine (HRF.out W HU.out).mono ?_
  rintro e w1 ⟨rfl, hu1⟩
  have HU1 := Lib.hid hu1
  obtain ⟨c0, c1, c2⟩ := cells3 (hu1.at HB0.out (by simp))
  clear hu1
  go_upto_region 3 with (go_at_call 35; refine (HMD.out w1 (HU.out.trans HU1.out (by simp))).mono ?_; rintro e w2 ⟨sa', sc', ia', ic', rfl, hm, hu2⟩)
  have HM := Lib.hid hm
  have hu3 : Upd [] w1 (w2.alloc (.cells #[.slice sa' n sc', .slice ia' m ic', .int .i64 nx] 25)) := hu2.alloc _
  have HB2 := Lib.hid (heap_alloc1 w2 (.cells #[.slice sa' n sc', .slice ia' m ic', .int .i64 nx] 25))
  have HM3 := Lib.hid (hm.keep ((Upd.refl [] w2).alloc (.cells #[.slice sa' n sc', .slice ia' m ic', .int .i64 nx] 25)) (by simp))
  have HPG := Lib.hid hu2.size
  have HPS : Hid (∀ ad, sa' = some ad → ad.block ≠ w2.heap.size) := fun ad e he => by
    obtain ⟨b', off, e', hc, _⟩ := hm.sl 0 HL0.out
    simp only at e'
    rw [e] at e'
    obtain rfl := Option.some.inj e'
    have := World.block_lt_of_cell? w2 _ hc
    simp only at this he
    omega
  generalize w2.alloc (.cells #[.slice sa' n sc', .slice ia' m ic', .int .i64 nx] 25) = W3 at *
  generalize w2.heap.size = P at *
  have HUW : Hid (Upd [] W W3) := HU1.out.trans hu3 (by simp)
  have HR3 := Lib.hid (HUW.out.at HB1.out (by simp))
  have HSZ1 := Lib.hid HU1.out.size
  have HU3s := Lib.hid hu3.size
  clear c0 c1 c2 hm hu2 hu3
  obtain ⟨c0, c1, c2⟩ := cells3 HB2.out
  have hsz := HSZ.out; have hh := HH.out; have hsz1 := HSZ1.out
  have hrow := HM3.out.id
  simp only at hrow
  rw [HLI.out] at hrow
  have HRW := Lib.hid hrow
  clear hrow
  go_upto_region 5 with (at_builtin; refine app_int rfl _ _ rfl w1.heap.size (.slice ia' m ic') m a'.id rfl (HRW.out.alloc _) W3.heap.size (i : Int) rfl (heap_alloc1 _ _) (by omega) (by have := HUW.out.size; have := HU3s.out; simp; omega) ?_; intro g cap w4 hown hgrow hat hlt; have HO4 := Lib.hid hown; have HG4 := Lib.hid hgrow; have hU4 := upd_grown hgrow; have hnP : ∀ k, (Value.slice ia' m ic').ownBlock = some k → k ≠ P := fun k hk e => ne_own HB2.out HRW.out (by decide) (e ▸ hk); have hbP := hU4.at (((Upd.refl [] W3).alloc _).at HB2.out (by simp)) (fun hm => hnP _ (toList_of hm) rfl); have HBP := Lib.hid hbP; obtain ⟨p0, p1, p2⟩ := cells3 hbP; obtain ⟨z0, z1, z2⟩ := free3 hbP; clear hown hgrow hat hlt hU4 hbP hnP)
  have bp : (w4.setCell ⟨P, 1, none⟩ (.slice (some ⟨g, 0, none⟩) (m + 1) cap)).heap[P]? = some (.cells #[.slice sa' n sc', .slice (some ⟨g, 0, none⟩) (m + 1) cap, .int .i64 nx] 25 (0, 0)) := setCell_block HBP.out _
  have hu5 := (Upd.refl [P] w4).setCell (p := ⟨P, 1, none⟩) (fun _ => by simp) (.slice (some ⟨g, 0, none⟩) (m + 1) cap)
  have hPg : g ≠ P := fun e => ne_own HBP.out HO4.out (by decide) (by rw [← e]; rfl)
  have hpg := HPG.out
  have hUa : Upd [] W3 (W3.alloc (.cells #[.int .i64 (i : Int)] 3)) := (Upd.refl [] W3).alloc _
  have hUg := upd_grown HG4.out
  have hge3 : ∀ k, (Value.slice ia' m ic').ownBlock = some k → w1.heap.size ≤ k := own_ge HRW.out
  have hr6 := hu5.at (hUg.at (hUa.at HR3.out (by simp)) (fun hm => by have := hge3 _ (toList_of hm); omega)) (by simp; omega)
  have HR6 := Lib.hid hr6; have HU5 := Lib.hid hu5
  have HUX : Hid (Upd [] w w4) := ((HU.out.trans HUW.out (by simp)).trans hUa (by simp)).trans hUg (fun x hx hl => by have := hge3 _ (toList_of hx); omega)
  generalize w4.setCell ⟨P, 1, none⟩ (.slice (some ⟨g, 0, none⟩) (m + 1) cap) = w5 at *
  clear c0 c1 c2 p0 p1 p2 z0 z1 z2 hu5 hUa hUg
  obtain ⟨c0, c1, c2⟩ := cells3 bp
  obtain ⟨d0, d1, d2⟩ := cells3 hr6
  obtain ⟨z0, z1, z2⟩ := free3 hr6
  clear bp hr6
  go_wp2_with fail
  have p1 := stored3 HR6.out (.slice sa' n sc') (.slice (some ⟨g, 0, none⟩) (m + 1) cap) (.int .i64 nx)
  have hU6 := upd_set3 w5 (H + 1) (.slice sa' n sc') (.slice (some ⟨g, 0, none⟩) (m + 1) cap) (.int .i64 nx)
  generalize (((w5.setCell ⟨H + 1, 0, none⟩ (.slice sa' n sc')).setCell ⟨H + 1, 1, none⟩ (.slice (some ⟨g, 0, none⟩) (m + 1) cap)).setCell ⟨H + 1, 2, none⟩ (.int .i64 nx)) = w6 at *
  obtain ⟨r0, r1, r2⟩ := cells3 p1
  have ho := HO4.out
  have hg4 := HG4.out
  rw [← HLI.out] at ho hg4
  obtain ⟨h1, h2, h3⟩ := HM3.out.put ho hg4 HU5.out hU6 HPS.out hPg (by omega)
  have HF := HFIN.out sa' sc' g cap w1.heap.size w6 (by omega) h1 h2 h3 ((HUX.out.trans HU5.out (fun x hx hl => by simp at hx; omega)).trans hU6 (fun x hx hl => by simp at hx; omega))
  exact bodyPost_ret (v := .tuple #[.agg #[.slice sa' n sc', .slice (some ⟨g, 0, none⟩) (m + 1) cap, .int .i64 nx], .bool true]) (by simp [results, Try.results21, go_sem, r0, r1, r2]) rfl HF
theorem PRelease_has (r : ArR) (h : Int) (w : World) (ha : HasA w r) (hg : Good r.ar) : Calls Try.prog 21 #[encA r, .int .i64 h] w (GivesAB r (relA r.ar h) w) := by
  by_cases hf : Frees r.ar h
  · exact PRelease_yes r h w ha hg hf
  · exact PRelease_no r h w ha hg hf
end Go.Proofs.Ythpofcomlidoiaa
