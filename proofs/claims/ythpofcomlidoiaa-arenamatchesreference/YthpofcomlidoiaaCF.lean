/- Contract: the reference's Release. An arena that a call gives, kept in a box of the caller's own. -/
import Derived.Test.YthpofcomlidoiaaCE
namespace Go.Proofs.Ythpofcomlidoiaa
open Go.RowKit Go.Lib

def cellsA (r : ArR) : Array Value := #[.slice r.sa r.ar.sl.length r.sc, .slice r.ia r.ar.id.length r.ic, .int .i64 r.ar.nx]
/-- The box P holds the arena r', which a call made out of r. -/
structure Boxed (w : World) (r : ArR) (a' : Ar) (P : Nat) (wx : World) (r' : ArR) : Prop where
  blk : wx.heap[P]? = some (.cells (cellsA r') 25 (0, 0))
  ge : w.heap.size ≤ P
  nxt : Nxt w r a' wx r'
  av : Avoids r' P
theorem boxed_last {w w4 : World} {r r' : ArR} {a' : Ar} (h : Nxt w r a' w4 r') : Boxed w r a' w4.heap.size (w4.alloc (.cells (cellsA r') 25)) r' :=
  ⟨heap_alloc1 _ _, h.upd.size, ⟨h.eq, h.has.stay ((Upd.refl _ _).alloc _), h.av, h.upd.trans ((Upd.refl [] _).alloc _) (by simp)⟩, h.has.avoids (Nat.le_refl _)⟩
theorem boxed_first {w w4 : World} {r r' : ArR} {a' : Ar} {x y z : Value} (hr : HasA w r) (h : Nxt (w.alloc (.cells #[x, y, z] 25)) r a' w4 r') :
    Boxed w r a' w.heap.size (((w4.setCell ⟨w.heap.size, 0, none⟩ (.slice r'.sa r'.ar.sl.length r'.sc)).setCell ⟨w.heap.size, 1, none⟩ (.slice r'.ia r'.ar.id.length r'.ic)).setCell ⟨w.heap.size, 2, none⟩ (.int .i64 r'.ar.nx)) r' := by
  have h1 := h.upd.at (heap_alloc1 w _) (by simp)
  have h2 := upd_set3 w4 w.heap.size (.slice r'.sa r'.ar.sl.length r'.sc) (.slice r'.ia r'.ar.id.length r'.ic) (.int .i64 r'.ar.nx)
  have h3 := h.av w.heap.size (by simp) (hr.avoids (Nat.le_refl _))
  exact ⟨stored3 h1 _ _ _, Nat.le_refl _, ⟨h.eq, h.has.keep1 h2 h3, fun b hb ha => h.av b (by simp; omega) ha, (((Upd.refl [] w).alloc _).trans h.upd (by simp)).trans h2 (fun x hx hl => by simp at hx; omega)⟩, h3⟩
theorem Nxt.of_upd {w w0 : World} {r : ArR} {a' : Ar} {w' : World} {r' : ArR} (h : Nxt w0 r a' w' r') (hu : Upd [] w w0) : Nxt w r a' w' r' :=
  ⟨h.eq, h.has, fun b hb ha => h.av b (by have := hu.size; omega) ha, hu.trans h.upd (by simp)⟩
theorem nxt_set {w w' : World} {r : ArR} {i : Nat} {s : Sl} {sa : Option Addr} {sc : Nat} (hA : HasA w' ⟨setS r.ar i s, sa, sc, r.ia, r.ic⟩) (hs : ∀ a, sa = some a → w.heap.size ≤ a.block) (hu : Upd [] w w') : Nxt w r (setS r.ar i s) w' ⟨setS r.ar i s, sa, sc, r.ia, r.ic⟩ :=
  ⟨rfl, hA, fun b hb ha => ⟨fun _ ad e => by have := hs ad e; omega, ha.2⟩, hu⟩

theorem row_ge {w : World} {base g n cap size : Nat} {e : TypeId} {xs : List Value} (h : w.ownsRow base e size (.slice (some ⟨g, 0, none⟩) n cap) n xs) : base ≤ g := by
  rcases h.2 with ⟨h1, _⟩ | ⟨g', cap', cur, h1, hb, _⟩
  · simp at h1
  · simp only [Value.slice.injEq, Option.some.injEq, Addr.mk.injEq] at h1
    omega
theorem row_cap {w : World} {base g n cap size : Nat} {e : TypeId} {xs : List Value} (h : w.ownsRow base e size (.slice (some ⟨g, 0, none⟩) n cap) n xs) : n ≤ cap := by
  rcases h.2 with ⟨h1, _⟩ | ⟨g', cap', cur, h1, _, _, hc, _⟩
  · simp at h1
  · simp only [Value.slice.injEq] at h1
    omega
set_option maxHeartbeats 8000000 in
theorem Release_has (r : ArR) (h : Int) (w : World) (ha : HasA w r) (hl : r.ar.sl.length ≤ 100000) (hli : r.ar.id.length ≤ 100000) :
    Calls Try.prog 22 #[encA r, .int .i64 h] w (GivesAB r (relA r.ar h) w) := by
  have hfind := fun W (hu : Upd [] w W) => find_has r h W (ha.stay hu)
  have hwith := fun W (hu : Upd [] w W) (hi : hS h < r.ar.sl.length) (s : Sl) => with_has r (hS h) s W (ha.stay hu) hi hl
  obtain ⟨a, sa, sc, ia, ic⟩ := r
  have HA := Lib.hid ha
  unfold encA at hfind ⊢
  rw [show encA ⟨a, sa, sc, ia, ic⟩ = .agg #[.slice sa a.sl.length sc, .slice ia a.id.length ic, .int .i64 a.nx] from rfl] at hwith
  simp only at hfind hwith hli ⊢
  clear ha
  have HF := Lib.hid hfind
  have HW := Lib.hid hwith
  have HSM : Hid (∀ W, Upd [] w W → GivesAB ⟨a, sa, sc, ia, ic⟩ (a, false) w (.returned (.tuple #[.agg #[.slice sa a.sl.length sc, .slice ia a.id.length ic, .int .i64 a.nx], .bool false])) W) := fun W hu => ⟨_, rfl, Nxt.same HA.out hu⟩
  have HWA : Hid (∀ s sa' sc', encA ⟨setS a (hS h) s, sa', sc', ia, ic⟩ = .agg #[.slice sa' a.sl.length sc', .slice ia a.id.length ic, .int .i64 a.nx]) := fun s sa' sc' => by simp [encA, setS]
  clear hfind hwith hl
  generalize hn : a.sl.length = n at HF HW HSM HWA ⊢
  have HN := Lib.hid hn
  clear hn
  generalize hni : a.id.length = ni at HF HW HSM HWA hli ⊢
  generalize hnx : a.nx = nx at HF HW HSM HWA ⊢
  have HNI := Lib.hid hni; have HNX := Lib.hid hnx
  clear hni hnx
  go_enter Try.func22, Try.ntmps22
  go_upto_region 1 with (fail)
  generalize hA : (Obj.cells #[.slice sa n sc, .slice ia ni ic, .int .i64 nx] 25 : Obj) = A
  generalize hB : (Obj.cells #[.slice none 0 0, .slice none 0 0, .int .i64 0] 25 : Obj) = B
  obtain ⟨hu, b0, b1, hsz⟩ := two_boxes w A B
  generalize (w.alloc A).alloc B = W at *
  generalize hH : w.heap.size = H at *
  rw [← hA] at b0
  rw [← hB] at b1
  have HU := Lib.hid hu; have HB0 := Lib.hid b0; have HB1 := Lib.hid b1; have HH := Lib.hid hH; have HSZ := Lib.hid hsz
  obtain ⟨c0, c1, c2⟩ := cells3 b0
  clear hu hA hB b0 b1 hH hsz
  go_wp2_with fail
  refine (HF.out W HU.out).mono ?_
  rintro e w1 ⟨rfl, hu1⟩
  have q1 := hu1.at HB1.out (by simp)
  have HQ1 := Lib.hid q1
  obtain ⟨e0, e1, e2⟩ := cells3 q1
  obtain ⟨z0, z1, z2⟩ := free3 q1
  have q0 := hu1.at HB0.out (by simp)
  obtain ⟨d0, d1, d2⟩ := cells3 q0
  have HQ0 := Lib.hid q0
  have HU1 : Hid (Upd [] w w1) := HU.out.trans hu1 (by simp)
  have HSZ1 : Hid (H + 2 ≤ w1.heap.size) := by have := hu1.size; have := HSZ.out; show _ ≤ _; omega
  clear c0 c1 c2 q1 q0 hu1 HU HB0 HB1 HSZ HF
  by_cases hr : Refers a h
  · rw [findZ_yes hr]
    have hil : hS h < a.sl.length := hr.2.1
    have HR := Lib.hid hr
    obtain ⟨bb, oo, hsa, k0, k1, k2, k3⟩ := (HA.out.stay HU1.out).sl (hS h) hil
    simp only at hsa k0 k1 k2 k3
    subst hsa
    have hat := slAt_get hil
    have HIL := Lib.hid hil
    generalize a.sl[hS h] = y at *
    have HAT := Lib.hid hat
    have hiz : ((hS h : Nat) : Int) < (n : Int) := by have := HN.out; omega
    have hnn : decide (((hS h : Nat) : Int) < 0) = false := by simp
    clear hr hil hat
    by_cases hs : 1099511627776 ≤ y.g
    · have hsz : decide (1099511627776 ≤ y.g) = true := by simpa using hs
      have HS := Lib.hid hs
      clear hs
      go_wp2_with fail
      have p1 := stored3 HQ1.out (.slice (some ⟨bb, oo, none⟩) n sc) (.slice ia ni ic) (.int .i64 nx)
      have hU5 := upd_set3 w1 (H + 1) (.slice (some ⟨bb, oo, none⟩) n sc) (.slice ia ni ic) (.int .i64 nx)
      generalize (((w1.setCell ⟨H + 1, 0, none⟩ (.slice (some ⟨bb, oo, none⟩) n sc)).setCell ⟨H + 1, 1, none⟩ (.slice ia ni ic)).setCell ⟨H + 1, 2, none⟩ (.int .i64 nx)) = w4 at p1 hU5 ⊢
      obtain ⟨r0, r1, r2⟩ := cells3 p1
      have hh := HH.out
      have huf : Upd [] w w4 := HU1.out.trans hU5 (fun x hx hl => by simp at hx; omega)
      exact bodyPost_ret (v := .tuple #[.agg #[.slice (some ⟨bb, oo, none⟩) n sc, .slice ia ni ic, .int .i64 nx], .bool false]) (by simp [results, Try.results22, go_sem, r0, r1, r2]) rfl (by rw [relA, if_neg (fun k => by have := k.2; rw [HAT.out] at this; have := HS.out; omega)]; exact HSM.out _ huf)
    · have hsz : decide (1099511627776 ≤ y.g) = false := by simpa using hs
      have HS := Lib.hid hs
      have hgb : 0 ≤ y.g := by have h1 := HR.out.1; have h2 := HR.out.2.2.1; rw [HAT.out] at h2; have := h1.1; omega
      have hwr : IntKind.i64.wrap (y.g + 1) = y.g + 1 := by rw [IntKind.wrap_i64]; omega
      have HWF : Hid (∀ W, Upd [] w W → Calls Try.prog 38 #[.agg #[.slice (some ⟨bb, oo, none⟩) n sc, .slice ia ni ic, .int .i64 nx], .int .i64 (hS h : Nat), .agg #[.int .i64 (y.g + 1), .int .i64 0, .int .i64 0, .int .i64 0]] W fun e w' => ∃ sa' sc', e = .returned (.agg #[.slice sa' n sc', .slice ia ni ic, .int .i64 nx]) ∧ Nxt W ⟨a, some ⟨bb, oo, none⟩, sc, ia, ic⟩ (setS a (hS h) (freeS y)) w' ⟨setS a (hS h) (freeS y), sa', sc', ia, ic⟩) := fun W hu => by
        refine (HW.out W hu (by rw [← HN.out]; exact HIL.out) (freeS y)).mono ?_
        rintro e w' ⟨sa', sc', rfl, hA', hav, hu'⟩
        exact ⟨sa', sc', by rw [HWA.out], nxt_set (r := ⟨a, some ⟨bb, oo, none⟩, sc, ia, ic⟩) hA' hav hu'⟩
      have HL1 : Hid ((setS a (hS h) (freeS y)).sl.length = n) := by show _ = _; rw [← HN.out]; simp [setS]
      have HL2 : Hid ((setS a (hS h) (freeS y)).id.length = ni) := HNI.out
      have HL3 : Hid ((setS a (hS h) (freeS y)).nx = nx) := HNX.out
      have HCA : Hid (∀ sa' sc', cellsA ⟨setS a (hS h) (freeS y), sa', sc', ia, ic⟩ = #[.slice sa' n sc', .slice ia ni ic, .int .i64 nx]) := fun sa' sc' => by simp only [cellsA, HL1.out, HL2.out, HL3.out]
      clear hs HW
      go_upto_region 4 with (fail)
      go_cut [7] (fun v7 wx => ∃ P r', v7 = .pointer (some ⟨P, 0, none⟩) ∧ Hid (Boxed w1 ⟨a, some ⟨bb, oo, none⟩, sc, ia, ic⟩ (setS a (hS h) (freeS y)) P wx r'))
      case first =>
        have HKP : Hid (∀ W, Upd [] w1 W → W.cell? ⟨H, 0, none⟩ = some (.slice (some ⟨bb, oo, none⟩) n sc) ∧ W.cell? ⟨H, 1, none⟩ = some (.slice ia ni ic) ∧ W.cell? ⟨H, 2, none⟩ = some (.int .i64 nx) ∧ W.cell? ⟨bb, oo + hS h * 4, none⟩ = some (.int .i64 y.g)) := fun W hu => ⟨hu.cell d0 (by simp), hu.cell d1 (by simp), hu.cell d2 (by simp), hu.cell k0 (by simp)⟩
        go_region_held3 (fun wz => wz.cell? ⟨H, 0, none⟩ = some (.slice (some ⟨bb, oo, none⟩) n sc) ∧ wz.cell? ⟨H, 1, none⟩ = some (.slice ia ni ic) ∧ wz.cell? ⟨H, 2, none⟩ = some (.int .i64 nx) ∧ wz.cell? ⟨bb, oo + hS h * 4, none⟩ = some (.int .i64 y.g)) (first | exact ⟨d0, d1, d2, k0⟩ | (refine HKP.out _ ?_; (repeat (first | exact Upd.refl [] _ | refine Upd.setCell ?_ (fun hl => absurd hl (Nat.lt_irrefl _)) _ | refine Upd.drew ?_ | refine Upd.alloc ?_ _ | refine Upd.trans (T := []) ?_ (by assumption) (by simp))))) (first | (go_at_call 38; (with_reducible refine (HWF.out _ ?_).mono ?_); (refine HU1.out.trans (T := []) ?_ (by simp); (repeat (first | exact Upd.refl [] _ | refine Upd.drew ?_ | refine Upd.alloc ?_ _ | refine Upd.trans (T := []) ?_ (by assumption) (by simp)))); rintro e w' ⟨sa', sc', rfl, hN⟩; have hu := hN.upd; try (have p := hu.at (heap_alloc1 w1 (.cells #[.slice none 0 0, .slice none 0 0, .int .i64 0] 25)) (by simp); obtain ⟨x0, x1, x2⟩ := cells3 p; obtain ⟨y0, y1, y2⟩ := free3 p; clear p)))
        all_goals go_wp2_with fail
        · go_meet
          case rel =>
            have := boxed_last (hN.of_upd ((Upd.refl [] w1).drew))
            rw [HCA.out] at this
            exact ⟨_, _, rfl, this⟩
        · go_meet
          case rel =>
            have hN2 : Nxt (w1.alloc (.cells #[.slice none 0 0, .slice none 0 0, .int .i64 0] 25)) _ _ w' _ := hN.of_upd ((Upd.refl [] _).drew)
            have := boxed_first (HA.out.stay HU1.out) hN2
            simp only [HL1.out, HL2.out, HL3.out] at this
            exact ⟨_, _, rfl, this⟩
      case rest =>
        obtain ⟨P, r', rfl, HBX⟩ := hcut
        obtain ⟨a', sa', sc', ia', ic'⟩ := r'
        have he : a' = setS a (hS h) (freeS y) := HBX.out.nxt.eq
        subst he
        have HUC : Hid (Upd [] w wc) := HU1.out.trans HBX.out.nxt.upd (by simp)
        have bp := HBX.out.blk
        simp only [cellsA, HL1.out, HL2.out, HL3.out] at bp
        have HBP := Lib.hid bp
        have q0 := HBX.out.nxt.upd.at HQ0.out (by simp)
        have q1 := HBX.out.nxt.upd.at HQ1.out (by simp)
        have HQ1C := Lib.hid q1
        obtain ⟨_, g1, _⟩ := cells3 q0
        have hPge := HBX.out.ge
        have hKH := HSZ1.out
        have hhw := HH.out
        have HPL := Lib.hid (lt_block bp)
        clear q0 q1 bp e0 e1 e2 z0 z1 z2 d0 d1 d2 k0 k1 k2 k3
        have g1 := Lib.cell?_alloc_some (.cells #[] 3) g1
        have HIN : Hid (Ints (wc.alloc (.cells #[] 3)) ia a.id) := (HA.out.stay (HUC.out.alloc _)).id
        have HNN := Lib.hid HA.out.nn
        go_upto_region 6 with (first
          | (at_builtin; refine app_copy rfl _ _ rfl wc.heap.size (.slice (some ⟨wc.heap.size, 0, none⟩) 0 0) rfl (World.ownsRow_made wc #[] 0 (Nat.le_refl _) (Nat.zero_le _) (by simp)) ia ni ic a.id rfl HNI.out HIN.out HNN.out (by omega) (by simp) ?_; intro v1 w2 hown hgrow; have HO := Lib.hid hown; have HG := Lib.hid hgrow; clear hown hgrow)
          | (at_builtin; refine app_int rfl _ _ rfl wc.heap.size v1 ni a.id rfl (by exact HO.out.alloc _) _ _ rfl (heap_alloc1 _ _) (by omega) (by have := HG.out.size; simp at this ⊢; omega) ?_; intro g cap w3 hown hgrow hat hlt; have HO2 := Lib.hid hown; have HU3 : Hid (Upd [] wc w3) := app_upd (((Upd.refl [] wc).alloc _).grown HG.out (fun k hk hl => by simp [Value.ownBlock] at hk; omega)) HO.out hgrow; have HGE : Hid (wc.heap.size ≤ g) := (row_ge hown); obtain ⟨p0, p1, p2⟩ := cells3 (HU3.out.at HBP.out (by simp)); obtain ⟨z0, z1, z2⟩ := free3 (HU3.out.at HBP.out (by simp)); clear hown hgrow hat))
        have bp : (w3.setCell ⟨P, 1, none⟩ (.slice (some ⟨g, 0, none⟩) (ni + 1) cap)).heap[P]? = some (.cells #[.slice sa' n sc', .slice (some ⟨g, 0, none⟩) (ni + 1) cap, .int .i64 nx] 25 (0, 0)) := setCell_block (HU3.out.at HBP.out (by simp)) _
        have hu4 := (Upd.refl [P] w3).setCell (p := ⟨P, 1, none⟩) (fun _ => by simp) (.slice (some ⟨g, 0, none⟩) (ni + 1) cap)
        generalize w3.setCell ⟨P, 1, none⟩ (.slice (some ⟨g, 0, none⟩) (ni + 1) cap) = w4 at bp hu4 ⊢
        have q1 := hu4.at (HU3.out.at HQ1C.out (by simp)) (by simp; omega)
        have HQ14 := Lib.hid q1; have HU4 := Lib.hid hu4
        clear p0 p1 p2 z0 z1 z2 hu4 g1
        obtain ⟨p0, p1, p2⟩ := cells3 bp
        obtain ⟨e0, e1, e2⟩ := cells3 q1
        obtain ⟨z0, z1, z2⟩ := free3 q1
        clear bp q1
        go_wp2_with fail
        have pf := stored3 HQ14.out (.slice sa' n sc') (.slice (some ⟨g, 0, none⟩) (ni + 1) cap) (.int .i64 nx)
        have hU5 := upd_set3 w4 (H + 1) (.slice sa' n sc') (.slice (some ⟨g, 0, none⟩) (ni + 1) cap) (.int .i64 nx)
        generalize (((w4.setCell ⟨H + 1, 0, none⟩ (.slice sa' n sc')).setCell ⟨H + 1, 1, none⟩ (.slice (some ⟨g, 0, none⟩) (ni + 1) cap)).setCell ⟨H + 1, 2, none⟩ (.int .i64 nx)) = w5 at pf hU5 ⊢
        obtain ⟨r0, r1, r2⟩ := cells3 pf
        have hFr : Frees a h := ⟨HR.out, by rw [HAT.out]; have := HS.out; omega⟩
        have hput : putA a h = ⟨(setS a (hS h) (freeS y)).sl, a.id ++ [(hS h : Int)], a.nx⟩ := by rw [putA, HAT.out]; rfl
        have havH : Avoids ⟨setS a (hS h) (freeS y), sa', sc', ia', ic'⟩ (H + 1) := HBX.out.nxt.av _ (by omega) (HA.out.avoids (by omega))
        have huf : Upd [] w w5 := ((HUC.out.trans HU3.out (by simp)).trans HU4.out (fun x hx hl => by simp at hx; omega)).trans hU5 (fun x hx hl => by simp at hx; omega)
        have hh3 : HasA w3 ⟨setS a (hS h) (freeS y), sa', sc', ia', ic'⟩ := HBX.out.nxt.has.stay HU3.out
        have hh5 := (hh3.keep1 HU4.out HBX.out.av).keep1 hU5 havH
        have hge := HGE.out
        have hpl := HPL.out
        have hi3 : Ints w3 (some ⟨g, 0, none⟩) (a.id ++ [(hS h : Int)]) := by
          have h1 := HO2.out
          have e : (a.id ++ [(hS h : Int)]).length = ni + 1 := by rw [List.length_append, HNI.out]; rfl
          rw [← e] at h1
          exact ints_row h1
        have hi5 : Ints w5 (some ⟨g, 0, none⟩) (a.id ++ [(hS h : Int)]) := (hi3.keep HU4.out (fun ad e => by rw [← Option.some.inj e]; simp; omega)).keep hU5 (fun ad e => by rw [← Option.some.inj e]; simp; omega)
        have hcap : ni + 1 ≤ cap := row_cap HO2.out
        exact bodyPost_ret (v := .tuple #[.agg #[.slice sa' n sc', .slice (some ⟨g, 0, none⟩) (ni + 1) cap, .int .i64 nx], .bool true]) (by simp [results, Try.results22, go_sem, r0, r1, r2]) rfl ⟨⟨putA a h, sa', sc', some ⟨g, 0, none⟩, cap⟩, by
          rw [relA, if_pos hFr, hput]
          simp only [encA, HL1.out, List.length_append, HNI.out, HNX.out]
          rfl, by
          rw [relA, if_pos hFr]
          refine ⟨rfl, ?_, ?_, huf⟩
          · rw [hput]
            exact ⟨hh5.sl, hi5, hh5.sc, by rw [List.length_append, HNI.out]; exact hcap, hh5.sn, fun e => by simp at e⟩
          · intro b hb hav
            refine ⟨?_, fun _ ad e => by rw [← Option.some.inj e]; simp only; have := HUC.out.size; omega⟩
            rw [hput]
            exact (HBX.out.nxt.av b (by have := HU1.out.size; omega) hav).1⟩
  · rw [findZ_no hr]
    have HR := Lib.hid hr
    clear hr
    go_wp2_with fail
    have p1 := stored3 HQ1.out (.slice sa n sc) (.slice ia ni ic) (.int .i64 nx)
    have hU5 := upd_set3 w1 (H + 1) (.slice sa n sc) (.slice ia ni ic) (.int .i64 nx)
    generalize (((w1.setCell ⟨H + 1, 0, none⟩ (.slice sa n sc)).setCell ⟨H + 1, 1, none⟩ (.slice ia ni ic)).setCell ⟨H + 1, 2, none⟩ (.int .i64 nx)) = w4 at p1 hU5 ⊢
    obtain ⟨r0, r1, r2⟩ := cells3 p1
    have hh := HH.out
    have huf : Upd [] w w4 := HU1.out.trans hU5 (fun x hx hl => by simp at hx; omega)
    exact bodyPost_ret (v := .tuple #[.agg #[.slice sa n sc, .slice ia ni ic, .int .i64 nx], .bool false]) (by simp [results, Try.results22, go_sem, r0, r1, r2]) rfl (by rw [relA, if_neg (fun k => HR.out k.1)]; exact HSM.out _ huf)
end Go.Proofs.Ythpofcomlidoiaa
