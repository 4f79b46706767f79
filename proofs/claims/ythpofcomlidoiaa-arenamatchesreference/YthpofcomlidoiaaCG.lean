/- Contract: the reference's Alloc. -/
import Derived.Test.YthpofcomlidoiaaCF
namespace Go.Proofs.Ythpofcomlidoiaa
open Go.RowKit Go.Lib

def GivesAHE (r : ArR) (p : Ar × Int × Int) (w : World) (e : Ending) (w' : World) : Prop := ∃ r', e = .returned (.tuple #[encA r', .int .i64 p.2.1, .int .i64 p.2.2]) ∧ Nxt w r p.1 w' r'

theorem row_ints {w : World} {base n : Nat} {v : Value} {xs : List Int} (h : w.ownsRow base 3 1 v n (xs.map (Value.int .i64))) : ∃ va vc, v = .slice va n vc ∧ Ints w va xs ∧ n ≤ vc ∧ (va = none → vc = 0) ∧ ∀ ad, va = some ad → base ≤ ad.block := by
  have hn : n = xs.length := by have := h.1; simp at this; omega
  subst hn
  rcases h.2 with ⟨rfl, h0⟩ | ⟨g, cap, cur, rfl, hb, _, hc, _⟩
  · obtain rfl : xs = [] := List.eq_nil_of_length_eq_zero h0
    exact ⟨none, 0, rfl, ints_nil _ _, Nat.le_refl _, fun _ => rfl, fun ad e => by simp at e⟩
  · exact ⟨some ⟨g, 0, none⟩, cap, rfl, ints_row h, hc, fun e => by simp at e, fun ad e => by rw [← Option.some.inj e]; exact hb⟩
set_option maxHeartbeats 8000000 in
theorem Alloc_has (r : ArR) (t : Int) (w : World) (ha : HasA w r) (hg : Good r.ar) :
    Calls Try.prog 18 #[encA r, .int .i64 t] w (GivesAHE r (allocA r.ar t) w) := by
  have hwith := fun W (hu : Upd [] w W) (i : Nat) (hi : i < r.ar.sl.length) (s : Sl) => with_has r i s W (ha.stay hu) hi (by have := hg.len1; omega)
  obtain ⟨a, sa, sc, ia, ic⟩ := r
  have HA := Lib.hid ha
  have HGD : Hid (Good a) := hg
  have hli : a.id.length ≤ 64 := by have h1 := hg.count; have h2 := hg.len1; simp only at h1 h2; omega
  have hxb := hg.nx0
  have hxb1 := hg.nx1
  rw [show encA ⟨a, sa, sc, ia, ic⟩ = .agg #[.slice sa a.sl.length sc, .slice ia a.id.length ic, .int .i64 a.nx] from rfl] at hwith ⊢
  simp only at hwith hxb hxb1 ⊢
  clear ha hg
  have HW := Lib.hid hwith
  have HSM : Hid (∀ k W, Upd [] w W → GivesAHE ⟨a, sa, sc, ia, ic⟩ (a, 0, k) w (.returned (.tuple #[.agg #[.slice sa a.sl.length sc, .slice ia a.id.length ic, .int .i64 a.nx], .int .i64 0, .int .i64 k])) W) := fun k W hu => ⟨_, rfl, Nxt.same HA.out hu⟩
  have HWA : Hid (∀ i s sa' sc', encA ⟨setS a i s, sa', sc', ia, ic⟩ = .agg #[.slice sa' a.sl.length sc', .slice ia a.id.length ic, .int .i64 a.nx]) := fun i s sa' sc' => by simp [encA, setS]
  have HRM : Hid (Room a ↔ a.id.length ≠ 0 ∧ a.nx < 1099511627776) := by show _ ↔ _; rw [Room, ne_eq, ne_eq, List.length_eq_zero_iff]
  clear hwith
  generalize hn : a.sl.length = n at HW HSM HWA ⊢
  have HN := Lib.hid hn
  clear hn
  generalize hni : a.id.length = ni at HW HSM HWA HRM hli ⊢
  generalize hnx : a.nx = nx at HW HSM HWA HRM hxb hxb1 ⊢
  have HNI := Lib.hid hni; have HNX := Lib.hid hnx
  clear hni hnx
  go_enter Try.func18, Try.ntmps18
  go_upto_region 1 with (fail)
  generalize hA : (Obj.cells #[.slice sa n sc, .slice ia ni ic, .int .i64 nx] 25 : Obj) = A
  generalize hB : (Obj.cells #[.slice none 0 0, .slice none 0 0, .int .i64 0] 25 : Obj) = B
  obtain ⟨hu, b0, b1, hsz⟩ := two_boxes w A B
  generalize (w.alloc A).alloc B = w1 at *
  generalize hH : w.heap.size = H at *
  rw [← hA] at b0
  rw [← hB] at b1
  have HU1 := Lib.hid hu; have HQ0 := Lib.hid b0; have HQ1 := Lib.hid b1; have HH := Lib.hid hH
  have HSZ1 : Hid (H + 2 ≤ w1.heap.size) := by show _ ≤ _; omega
  obtain ⟨d0, d1, d2⟩ := cells3 b0
  obtain ⟨e0, e1, e2⟩ := cells3 b1
  obtain ⟨z0, z1, z2⟩ := free3 b1
  clear hu hA hB b0 b1 hH hsz
  by_cases ht0 : t < 0
  · have hd0 : decide (t < 0) = true := by simpa using ht0
    go_wp2_with fail
    have p1 := stored3 HQ1.out (.slice sa n sc) (.slice ia ni ic) (.int .i64 nx)
    have hU5 := upd_set3 w1 (H + 1) (.slice sa n sc) (.slice ia ni ic) (.int .i64 nx)
    generalize (((w1.setCell ⟨H + 1, 0, none⟩ (.slice sa n sc)).setCell ⟨H + 1, 1, none⟩ (.slice ia ni ic)).setCell ⟨H + 1, 2, none⟩ (.int .i64 nx)) = w4 at p1 hU5 ⊢
    obtain ⟨r0, r1, r2⟩ := cells3 p1
    have hh := HH.out
    have huf : Upd [] w w4 := HU1.out.trans hU5 (fun x hx hl => by simp at hx; omega)
    exact bodyPost_ret (v := .tuple #[.agg #[.slice sa n sc, .slice ia ni ic, .int .i64 nx], .int .i64 0, .int .i64 1]) (by simp [results, Try.results18, go_sem, r0, r1, r2]) rfl (by rw [allocA_bad (fun k => by have := k.1; omega)]; exact HSM.out _ _ huf)
  have hd0 : decide (t < 0) = false := by simpa using ht0
  by_cases ht1 : 1152921504606846976 < t
  · have hd1 : decide (1152921504606846976 < t) = true := by simpa using ht1
    go_wp2_with fail
    have p1 := stored3 HQ1.out (.slice sa n sc) (.slice ia ni ic) (.int .i64 nx)
    have hU5 := upd_set3 w1 (H + 1) (.slice sa n sc) (.slice ia ni ic) (.int .i64 nx)
    generalize (((w1.setCell ⟨H + 1, 0, none⟩ (.slice sa n sc)).setCell ⟨H + 1, 1, none⟩ (.slice ia ni ic)).setCell ⟨H + 1, 2, none⟩ (.int .i64 nx)) = w4 at p1 hU5 ⊢
    obtain ⟨r0, r1, r2⟩ := cells3 p1
    have hh := HH.out
    have huf : Upd [] w w4 := HU1.out.trans hU5 (fun x hx hl => by simp at hx; omega)
    exact bodyPost_ret (v := .tuple #[.agg #[.slice sa n sc, .slice ia ni ic, .int .i64 nx], .int .i64 0, .int .i64 1]) (by simp [results, Try.results18, go_sem, r0, r1, r2]) rfl (by rw [allocA_bad (fun k => by have := k.2; omega)]; exact HSM.out _ _ huf)
  have hd1 : decide (1152921504606846976 < t) = false := by simpa using ht1
  have HTM : Hid (TimeOk t) := ⟨by omega, by omega⟩
  clear ht0 ht1
  by_cases hn0 : ni = 0
  · have hd2 : ((ni : Int) == 0) = true := by simpa using hn0
    have HN0 := Lib.hid hn0
    clear hn0
    go_wp2_with fail
    have p1 := stored3 HQ1.out (.slice sa n sc) (.slice ia ni ic) (.int .i64 nx)
    have hU5 := upd_set3 w1 (H + 1) (.slice sa n sc) (.slice ia ni ic) (.int .i64 nx)
    generalize (((w1.setCell ⟨H + 1, 0, none⟩ (.slice sa n sc)).setCell ⟨H + 1, 1, none⟩ (.slice ia ni ic)).setCell ⟨H + 1, 2, none⟩ (.int .i64 nx)) = w4 at p1 hU5 ⊢
    obtain ⟨r0, r1, r2⟩ := cells3 p1
    have hh := HH.out
    have huf : Upd [] w w4 := HU1.out.trans hU5 (fun x hx hl => by simp at hx; omega)
    exact bodyPost_ret (v := .tuple #[.agg #[.slice sa n sc, .slice ia ni ic, .int .i64 nx], .int .i64 0, .int .i64 10]) (by simp [results, Try.results18, go_sem, r0, r1, r2]) rfl (by rw [allocA_full HTM.out (fun k => by have := HRM.out.1 k; have := HN0.out; omega)]; exact HSM.out _ _ huf)
  have hd2 : ((ni : Int) == 0) = false := by simpa using hn0
  by_cases hx0 : 1099511627776 ≤ nx
  · have hd3 : decide (1099511627776 ≤ nx) = true := by simpa using hx0
    go_wp2_with fail
    have p1 := stored3 HQ1.out (.slice sa n sc) (.slice ia ni ic) (.int .i64 nx)
    have hU5 := upd_set3 w1 (H + 1) (.slice sa n sc) (.slice ia ni ic) (.int .i64 nx)
    generalize (((w1.setCell ⟨H + 1, 0, none⟩ (.slice sa n sc)).setCell ⟨H + 1, 1, none⟩ (.slice ia ni ic)).setCell ⟨H + 1, 2, none⟩ (.int .i64 nx)) = w4 at p1 hU5 ⊢
    obtain ⟨r0, r1, r2⟩ := cells3 p1
    have hh := HH.out
    have huf : Upd [] w w4 := HU1.out.trans hU5 (fun x hx hl => by simp at hx; omega)
    exact bodyPost_ret (v := .tuple #[.agg #[.slice sa n sc, .slice ia ni ic, .int .i64 nx], .int .i64 0, .int .i64 10]) (by simp [results, Try.results18, go_sem, r0, r1, r2]) rfl (by rw [allocA_full HTM.out (fun k => by have := HRM.out.1 k; omega)]; exact HSM.out _ _ huf)
  have hd3 : decide (1099511627776 ≤ nx) = false := by simpa using hx0
  have hroom : Room a := HRM.out.2 ⟨hn0, by omega⟩
  have HRO := Lib.hid hroom
  obtain ⟨hi, h0, hid⟩ := HGD.out.last hroom.1
  obtain ⟨i, hie⟩ : ∃ i, i = lastI a := ⟨_, rfl⟩
  rw [← hie] at hi h0 hid
  have HIE := Lib.hid hie
  have hsl := (HGD.out.ok i hi).1
  have hdl : a.id.dropLast.length = ni - 1 := by rw [List.length_dropLast, HNI.out]
  have hat : a.id[ni - 1]? = some (i : Int) := by
    have h1 := congrArg (fun l : List Int => l[ni - 1]?) hid
    rw [h1, List.getElem?_append_right (by omega), hdl, Nat.sub_self]; rfl
  obtain ⟨hi1, hi2⟩ := List.getElem?_eq_some_iff.1 hat
  obtain ⟨ib, io, hia, j0⟩ := (HA.out.stay HU1.out).id (ni - 1) hi1
  simp only at hia j0
  rw [hi2] at j0
  subst hia
  obtain ⟨bb, oo, hsa, k0, k1, k2, k3⟩ := (HA.out.stay HU1.out).sl i hi
  simp only at hsa k0 k1 k2 k3
  subst hsa
  have HAT := Lib.hid (slAt_get hi)
  rw [slAt_get hi] at hsl
  have HSL := Lib.hid hsl
  have HIL := Lib.hid hi
  have HDL := Lib.hid hdl
  have HID := Lib.hid hid
  generalize a.sl[i] = y at *
  have hiz : (i : Int) < (n : Int) := by have := HN.out; omega
  have hnz : (ni : Int) - 1 = ((ni - 1 : Nat) : Int) := by omega
  have hnz2 : ((ni - 1 : Nat) : Int) < (ni : Int) := by omega
  have hwr : IntKind.i64.wrap ((ni : Int) - 1) = ((ni - 1 : Nat) : Int) := by rw [IntKind.wrap_i64]; omega
  have hwx : IntKind.i64.wrap (nx + 1) = nx + 1 := by rw [IntKind.wrap_i64]; omega
  clear hroom hi h0 hid hie hsl hdl hat hi1 hi2 hnz
  have HL1 : Hid ((setS a i ⟨y.g, 1, t, nx⟩).sl.length = n) := by show _ = _; rw [← HN.out]; simp [setS]
  have HL2 : Hid ((setS a i ⟨y.g, 1, t, nx⟩).id.length = ni) := HNI.out
  have HL3 : Hid ((setS a i ⟨y.g, 1, t, nx⟩).nx = nx) := HNX.out
  have HCA : Hid (∀ sa' sc', cellsA ⟨setS a i ⟨y.g, 1, t, nx⟩, sa', sc', some ⟨ib, io, none⟩, ic⟩ = #[.slice sa' n sc', .slice (some ⟨ib, io, none⟩) ni ic, .int .i64 nx]) := fun sa' sc' => by simp only [cellsA, HL1.out, HL2.out, HL3.out]
  have HWF : Hid (∀ W, Upd [] w W → Calls Try.prog 38 #[.agg #[.slice (some ⟨bb, oo, none⟩) n sc, .slice (some ⟨ib, io, none⟩) ni ic, .int .i64 nx], .int .i64 (i : Nat), .agg #[.int .i64 y.g, .int .i64 1, .int .i64 t, .int .i64 nx]] W fun e w' => ∃ sa' sc', e = .returned (.agg #[.slice sa' n sc', .slice (some ⟨ib, io, none⟩) ni ic, .int .i64 nx]) ∧ Nxt W ⟨a, some ⟨bb, oo, none⟩, sc, some ⟨ib, io, none⟩, ic⟩ (setS a i ⟨y.g, 1, t, nx⟩) w' ⟨setS a i ⟨y.g, 1, t, nx⟩, sa', sc', some ⟨ib, io, none⟩, ic⟩) := fun W hu => by
    refine (HW.out W hu i (by rw [← HN.out]; exact HIL.out) ⟨y.g, 1, t, nx⟩).mono ?_
    rintro e w' ⟨sa', sc', rfl, hA', hav, hu'⟩
    exact ⟨sa', sc', by rw [HWA.out], nxt_set (r := ⟨a, some ⟨bb, oo, none⟩, sc, some ⟨ib, io, none⟩, ic⟩) hA' hav hu'⟩
  have hcapn : ni ≤ ic := by have h1 := HA.out.ic; simp only at h1; have h2 := HNI.out; omega
  have hcapz : ((ni - 1 : Nat) : Int) ≤ (ic : Int) := by omega
  clear HW
  go_upto_region 8 with (fail)
  go_upto_region 9 with (go_at_call 38; refine (HWF.out w1 HU1.out).mono ?_; rintro e w2 ⟨sa', sc', rfl, hN⟩)
  have hbx := boxed_last hN
  rw [HCA.out] at hbx
  have hPge : w1.heap.size ≤ w2.heap.size := hN.upd.size
  have hu2 := hN.upd.trans ((Upd.refl [] w2).alloc (.cells #[.slice sa' n sc', .slice (some ⟨ib, io, none⟩) ni ic, .int .i64 nx] 25)) (by simp)
  generalize w2.alloc (.cells #[.slice sa' n sc', .slice (some ⟨ib, io, none⟩) ni ic, .int .i64 nx] 25) = wc at hbx hu2 ⊢
  generalize w2.heap.size = P at *
  have HBX := Lib.hid hbx
  have HUC : Hid (Upd [] w wc) := HU1.out.trans hbx.nxt.upd (by simp)
  have HBP : Hid (wc.heap[P]? = some (.cells #[.slice sa' n sc', .slice (some ⟨ib, io, none⟩) ni ic, .int .i64 nx] 25 (0, 0))) := by have := hbx.blk; rw [HCA.out] at this; exact this
  have q0 := hu2.at HQ0.out (by simp)
  have q1 := hu2.at HQ1.out (by simp)
  have HQ0C := Lib.hid q0
  have HQ1C := Lib.hid q1
  obtain ⟨_, g1, _⟩ := cells3 q0
  have hKH := HSZ1.out
  have hhw := HH.out
  have HPL := Lib.hid (lt_block HBP.out)
  clear q0 q1 e0 e1 e2 z0 z1 z2 d0 d1 d2 k0 k1 k2 k3 j0 hbx hu2 hN
  have g1 := Lib.cell?_alloc_some (.cells #[] 3) g1
  have HIN : Hid (Ints (wc.alloc (.cells #[] 3)) (some ⟨ib, io, none⟩) a.id.dropLast) := by
    have h1 := (HA.out.stay (HUC.out.alloc (.cells #[] 3))).id
    simp only at h1
    intro j hj
    have h2 := h1 j (by rw [List.length_dropLast] at hj; omega)
    rw [List.getElem_dropLast]
    exact h2
  go_upto_region 10 with (at_builtin; refine app_copy rfl _ _ rfl wc.heap.size (.slice (some ⟨wc.heap.size, 0, none⟩) 0 0) rfl (World.ownsRow_made wc #[] 0 (Nat.le_refl _) (Nat.zero_le _) (by simp)) (some ⟨ib, io, none⟩) (ni - 1) ic a.id.dropLast rfl HDL.out HIN.out (fun e => by simp at e) (by omega) (by simp) ?_; intro v1 w3 hown hgrow; obtain ⟨va, vc, rfl, hvi, hvc, hvn, hvb⟩ := row_ints hown; have HVI := Lib.hid hvi; have HVC := Lib.hid hvc; have HVN := Lib.hid hvn; have HVB := Lib.hid hvb; have HU3 : Hid (Upd [] wc w3) := ((Upd.refl [] wc).alloc _).grown hgrow (fun k hk hl => by simp [Value.ownBlock] at hk; omega); obtain ⟨p0, p1, p2⟩ := cells3 (HU3.out.at HBP.out (by simp)); obtain ⟨z0, z1, z2⟩ := free3 (HU3.out.at HBP.out (by simp)); clear hown hgrow hvi hvc hvn hvb)
  have bp : (w3.setCell ⟨P, 1, none⟩ (.slice va (ni - 1) vc)).heap[P]? = some (.cells #[.slice sa' n sc', .slice va (ni - 1) vc, .int .i64 nx] 25 (0, 0)) := setCell_block (HU3.out.at HBP.out (by simp)) _
  have hu4 := (Upd.refl [P] w3).setCell (p := ⟨P, 1, none⟩) (fun _ => by simp) (.slice va (ni - 1) vc)
  generalize w3.setCell ⟨P, 1, none⟩ (.slice va (ni - 1) vc) = w4 at bp hu4 ⊢
  have q0 := hu4.at (HU3.out.at HQ0C.out (by simp)) (by simp; omega)
  have q1 := hu4.at (HU3.out.at HQ1C.out (by simp)) (by simp; omega)
  have HQ14 := Lib.hid q1; have HU4 := Lib.hid hu4; have HBP4 := Lib.hid bp
  clear p0 p1 p2 z0 z1 z2 hu4 g1
  obtain ⟨_, _, d2⟩ := cells3 q0
  obtain ⟨p0, p1, p2⟩ := cells3 bp
  obtain ⟨z0, z1, z2⟩ := free3 bp
  clear bp q0 q1
  go_upto_region 11 with (fail)
  have bp : (w4.setCell ⟨P, 2, none⟩ (.int .i64 (nx + 1))).heap[P]? = some (.cells #[.slice sa' n sc', .slice va (ni - 1) vc, .int .i64 (nx + 1)] 25 (0, 0)) := setCell_block HBP4.out _
  have hu5 := (Upd.refl [P] w4).setCell (p := ⟨P, 2, none⟩) (fun _ => by simp) (.int .i64 (nx + 1))
  generalize w4.setCell ⟨P, 2, none⟩ (.int .i64 (nx + 1)) = w5 at bp hu5 ⊢
  have q1 := hu5.at HQ14.out (by simp; omega)
  have HQ15 := Lib.hid q1; have HU5 := Lib.hid hu5
  clear p0 p1 p2 z0 z1 z2 d2 hu5
  obtain ⟨p0, p1, p2⟩ := cells3 bp
  obtain ⟨e0, e1, e2⟩ := cells3 q1
  obtain ⟨z0, z1, z2⟩ := free3 q1
  have HMK := Lib.hid (RMake_in i y.g ⟨by omega, by have h1 := HIL.out; have h2 := HGD.out.len1; omega⟩ ⟨HSL.out.1, HSL.out.2.1⟩)
  have HKP : Hid (∀ W, Upd [H + 1] w5 W → W.cell? ⟨P, 0, none⟩ = some (.slice sa' n sc') ∧ W.cell? ⟨P, 1, none⟩ = some (.slice va (ni - 1) vc) ∧ W.cell? ⟨P, 2, none⟩ = some (.int .i64 (nx + 1))) := fun W hu => ⟨hu.cell p0 (by simp; omega), hu.cell p1 (by simp; omega), hu.cell p2 (by simp; omega)⟩
  clear q1 bp
  go_region_held3 (fun wz => wz.cell? ⟨P, 0, none⟩ = some (.slice sa' n sc') ∧ wz.cell? ⟨P, 1, none⟩ = some (.slice va (ni - 1) vc) ∧ wz.cell? ⟨P, 2, none⟩ = some (.int .i64 (nx + 1))) (first | exact ⟨p0, p1, p2⟩ | (refine HKP.out _ ?_; (repeat (first | exact Upd.refl _ _ | refine Upd.drew ?_ | refine Upd.setCell ?_ (by simp) _)))) (first | (go_at_call 39; refine (HMK.out _).mono ?_; rintro e w' ⟨rfl, rfl⟩))
  have pf : ((((w5.setCell ⟨H + 1, 0, none⟩ (.slice sa' n sc')).setCell ⟨H + 1, 1, none⟩ (.slice va (ni - 1) vc)).setCell ⟨H + 1, 2, none⟩ (.int .i64 (nx + 1))).drew).heap[H + 1]? = _ := stored3 HQ15.out (.slice sa' n sc') (.slice va (ni - 1) vc) (.int .i64 (nx + 1))
  have hU6 := (upd_set3 w5 (H + 1) (.slice sa' n sc') (.slice va (ni - 1) vc) (.int .i64 (nx + 1))).drew
  generalize (((w5.setCell ⟨H + 1, 0, none⟩ (.slice sa' n sc')).setCell ⟨H + 1, 1, none⟩ (.slice va (ni - 1) vc)).setCell ⟨H + 1, 2, none⟩ (.int .i64 (nx + 1))).drew = w6 at pf hU6 ⊢
  clear p0 p1 p2 e0 e1 e2 z0 z1 z2
  go_wp2_with fail
  obtain ⟨r0, r1, r2⟩ := cells3 pf
  have hie := HIE.out
  have hta : takeA a t = ⟨(setS a i ⟨y.g, 1, t, nx⟩).sl, a.id.dropLast, nx + 1⟩ := by rw [takeA, ← hie, HAT.out, HNX.out]; rfl
  have hth : takeH a = 64 * y.g + (i : Int) := by rw [takeH, ← hie, HAT.out]
  have havH : Avoids ⟨setS a i ⟨y.g, 1, t, nx⟩, sa', sc', some ⟨ib, io, none⟩, ic⟩ (H + 1) := HBX.out.nxt.av _ (by omega) (HA.out.avoids (by omega))
  have huf : Upd [] w w6 := (((HUC.out.trans HU3.out (by simp)).trans HU4.out (fun x hx hl => by simp at hx; omega)).trans HU5.out (fun x hx hl => by simp at hx; omega)).trans hU6 (fun x hx hl => by simp at hx; omega)
  have hh6 := (((HBX.out.nxt.has.stay HU3.out).keep1 HU4.out HBX.out.av).keep1 HU5.out HBX.out.av).keep1 hU6 havH
  have hpl := HPL.out
  have hvi : Ints w6 va a.id.dropLast := ((HVI.out.keep HU4.out (fun ad e => by have := HVB.out ad e; simp; omega)).keep HU5.out (fun ad e => by have := HVB.out ad e; simp; omega)).keep hU6 (fun ad e => by have := HVB.out ad e; simp; omega)
  exact bodyPost_ret (v := .tuple #[.agg #[.slice sa' n sc', .slice va (ni - 1) vc, .int .i64 (nx + 1)], .int .i64 (64 * y.g + (i : Int)), .int .i64 0]) (by simp [results, Try.results18, go_sem, r0, r1, r2]) rfl ⟨⟨takeA a t, sa', sc', va, vc⟩, by
    rw [allocA_ok HTM.out HRO.out, hth, hta]
    simp only [encA, HL1.out, HDL.out], by
    rw [allocA_ok HTM.out HRO.out]
    refine ⟨rfl, ?_, ?_, huf⟩
    · rw [hta]
      exact ⟨hh6.sl, hvi, hh6.sc, by simp only [HDL.out]; exact HVC.out, hh6.sn, HVN.out⟩
    · intro b hb hav
      refine ⟨?_, fun _ ad e => by have := HVB.out ad e; have := HUC.out.size; omega⟩
      rw [hta]
      exact (HBX.out.nxt.av b (by have := HU1.out.size; omega) hav).1⟩
end Go.Proofs.Ythpofcomlidoiaa
