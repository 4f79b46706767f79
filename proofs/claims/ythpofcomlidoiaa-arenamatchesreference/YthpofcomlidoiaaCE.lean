/- Contracts: the reference's Lookup and Transition. -/
import Derived.Test.YthpofcomlidoiaaCD
namespace Go.Proofs.Ythpofcomlidoiaa
open Go.RowKit Go.Lib

theorem stored4 {w : World} {b : Nat} {x y z p : Value} {t : TypeId} {f : Nat × Nat} (h : w.heap[b]? = some (.cells #[x, y, z, p] t f)) (u v s q : Value) :
    ((((w.setCell ⟨b, 0, none⟩ u).setCell ⟨b, 1, none⟩ v).setCell ⟨b, 2, none⟩ s).setCell ⟨b, 3, none⟩ q).heap[b]? = some (.cells #[u, v, s, q] t f) := setCell_block (setCell_block (setCell_block (setCell_block h _) _) _) _
theorem upd_sets4 (w : World) (b : Nat) (u v s q : Value) : Upd [b] w ((((w.setCell ⟨b, 0, none⟩ u).setCell ⟨b, 1, none⟩ v).setCell ⟨b, 2, none⟩ s).setCell ⟨b, 3, none⟩ q) :=
  (upd_set3 w b u v s).setCell (p := ⟨b, 3, none⟩) (fun _ => by simp) _
theorem cells4 {w : World} {b : Nat} {x y z p : Value} {t : TypeId} {f : Nat × Nat} (h : w.heap[b]? = some (.cells #[x, y, z, p] t f)) : w.cell? ⟨b, 0, none⟩ = some x ∧ w.cell? ⟨b, 1, none⟩ = some y ∧ w.cell? ⟨b, 2, none⟩ = some z ∧ w.cell? ⟨b, 3, none⟩ = some p := ⟨cell_block h 0, cell_block h 1, cell_block h 2, cell_block h 3⟩
theorem free4 {w : World} {b : Nat} {c : Array Value} {t : TypeId} (h : w.heap[b]? = some (.cells c t (0, 0))) : w.frozen? ⟨b, 0, none⟩ = false ∧ w.frozen? ⟨b, 1, none⟩ = false ∧ w.frozen? ⟨b, 2, none⟩ = false ∧ w.frozen? ⟨b, 3, none⟩ = false := ⟨free_block h 0, free_block h 1, free_block h 2, free_block h 3⟩

def GivesL (a : Ar) (h : Int) (w : World) (e : Ending) (w' : World) : Prop := e = .returned (.tuple #[aggS (lookA a h).1, .bool (lookA a h).2]) ∧ Upd [] w w'

set_option maxHeartbeats 4000000 in
theorem Lookup_has (r : ArR) (h : Int) (w : World) (ha : HasA w r) :
    Calls Try.prog 24 #[encA r, .int .i64 h] w (GivesL r.ar h w) := by
  have hfind := fun W (hu : Upd [] w W) => find_has r h W (ha.stay hu)
  obtain ⟨a, sa, sc, ia, ic⟩ := r
  have HA := Lib.hid ha
  unfold encA at hfind ⊢
  simp only at hfind ⊢
  clear ha
  have HF := Lib.hid hfind
  clear hfind
  generalize hn : a.sl.length = n at HF ⊢
  have HN := Lib.hid hn
  clear hn
  generalize a.id.length = ni at HF ⊢
  generalize a.nx = nx at HF ⊢
  go_enter Try.func24, Try.ntmps24
  go_upto_region 1 with (fail)
  generalize hA : (Obj.cells #[.slice sa n sc, .slice ia ni ic, .int .i64 nx] 25 : Obj) = A
  generalize hB : (Obj.cells #[.int .i64 0, .int .i64 0, .int .i64 0, .int .i64 0] 44 : Obj) = B
  obtain ⟨hu, b0, b1, hsz⟩ := two_boxes w A B
  generalize (w.alloc A).alloc B = W at *
  generalize hH : w.heap.size = H at *
  rw [← hA] at b0
  rw [← hB] at b1
  have HU := Lib.hid hu; have HB0 := Lib.hid b0; have HB1 := Lib.hid b1; have HH := Lib.hid hH; have HSZ := Lib.hid hsz
  obtain ⟨c0, c1, c2⟩ := cells3 b0
  clear hu hA hB b0 b1 hH hsz
  go_wp2_with fail
  refine (HF.out W HU.out).mono ?_
  rintro e w1 ⟨rfl, hu1⟩
  have q1 := hu1.at HB1.out (by simp)
  have HQ1 := Lib.hid q1
  obtain ⟨e0, e1, e2, e3⟩ := cells4 q1
  obtain ⟨z0, z1, z2, z3⟩ := free4 q1
  have q0 := hu1.at HB0.out (by simp)
  obtain ⟨d0, d1, d2⟩ := cells3 q0
  have HU1 := Lib.hid hu1
  clear c0 c1 c2 q1 q0 hu1
  by_cases hr : Refers a h
  · rw [findZ_yes hr]
    have hil : hS h < a.sl.length := hr.2.1
    obtain ⟨bb, oo, hsa, k0, k1, k2, k3⟩ := ((HA.out.stay HU.out).stay HU1.out).sl (hS h) hil
    simp only at hsa k0 k1 k2 k3
    subst hsa
    have hlk : lookA a h = (a.sl[hS h], true) := by rw [lookA, if_pos hr, slAt_get hil]
    have hiz : ((hS h : Nat) : Int) < (n : Int) := by have := HN.out; omega
    generalize a.sl[hS h] = y at *
    have HLK := Lib.hid hlk
    clear hlk
    have hnn : decide (((hS h : Nat) : Int) < 0) = false := by simp
    clear hr hil
    generalize hS h = i at *
    go_wp2_with fail
    have p1 := stored4 HQ1.out (.int .i64 y.g) (.int .i64 y.s) (.int .i64 y.t) (.int .i64 y.q)
    have hU5 := upd_sets4 w1 (H + 1) (.int .i64 y.g) (.int .i64 y.s) (.int .i64 y.t) (.int .i64 y.q)
    generalize ((((w1.setCell ⟨H + 1, 0, none⟩ (.int .i64 y.g)).setCell ⟨H + 1, 1, none⟩ (.int .i64 y.s)).setCell ⟨H + 1, 2, none⟩ (.int .i64 y.t)).setCell ⟨H + 1, 3, none⟩ (.int .i64 y.q)) = w4 at p1 hU5 ⊢
    obtain ⟨r0, r1, r2, r3⟩ := cells4 p1
    have hh := HH.out
    exact bodyPost_ret (v := .tuple #[aggS y, .bool true]) (by simp [results, Try.results24, go_sem, r0, r1, r2, r3, aggS]) rfl ⟨by rw [HLK.out], (HU.out.trans HU1.out (by simp)).trans hU5 (fun x hx hl => by simp at hx; omega)⟩
  · rw [findZ_no hr]
    have HR := Lib.hid hr
    clear hr
    go_wp2_with fail
    have p1 := stored4 HQ1.out (.int .i64 0) (.int .i64 0) (.int .i64 0) (.int .i64 0)
    have hU5 := upd_sets4 w1 (H + 1) (.int .i64 0) (.int .i64 0) (.int .i64 0) (.int .i64 0)
    generalize ((((w1.setCell ⟨H + 1, 0, none⟩ (.int .i64 0)).setCell ⟨H + 1, 1, none⟩ (.int .i64 0)).setCell ⟨H + 1, 2, none⟩ (.int .i64 0)).setCell ⟨H + 1, 3, none⟩ (.int .i64 0)) = w4 at p1 hU5 ⊢
    obtain ⟨r0, r1, r2, r3⟩ := cells4 p1
    have hh := HH.out
    exact bodyPost_ret (v := .tuple #[aggS ⟨0, 0, 0, 0⟩, .bool false]) (by simp [results, Try.results24, go_sem, r0, r1, r2, r3, aggS]) rfl ⟨by rw [lookA, if_neg HR.out], (HU.out.trans HU1.out (by simp)).trans hU5 (fun x hx hl => by simp at hx; omega)⟩

/-- What comes back: an arena and a flag. -/
def GivesAB (r : ArR) (p : Ar × Bool) (w : World) (e : Ending) (w' : World) : Prop := ∃ r', e = .returned (.tuple #[encA r', .bool p.2]) ∧ Nxt w r p.1 w' r'
theorem Nxt.same {w w' : World} {r : ArR} (h : HasA w r) (hu : Upd [] w w') : Nxt w r r.ar w' r := ⟨rfl, h.stay hu, fun _ _ h => h, hu⟩

set_option maxHeartbeats 8000000 in
theorem Transition_has (r : ArR) (h f t : Int) (w : World) (ha : HasA w r) (hl : r.ar.sl.length ≤ 100000) :
    Calls Try.prog 20 #[encA r, .int .i64 h, .int .i64 f, .int .i64 t] w (GivesAB r (transA r.ar h f t) w) := by
  have hfind := fun W (hu : Upd [] w W) => find_has r h W (ha.stay hu)
  have hwith := fun W (hu : Upd [] w W) (hi : hS h < r.ar.sl.length) (s : Sl) => with_has r (hS h) s W (ha.stay hu) hi hl
  obtain ⟨a, sa, sc, ia, ic⟩ := r
  have HA := Lib.hid ha
  unfold encA at hfind ⊢
  rw [show encA ⟨a, sa, sc, ia, ic⟩ = .agg #[.slice sa a.sl.length sc, .slice ia a.id.length ic, .int .i64 a.nx] from rfl] at hwith
  simp only at hfind hwith ⊢
  clear ha
  have HF := Lib.hid hfind
  have HW := Lib.hid hwith
  have HSM : Hid (∀ W, Upd [] w W → GivesAB ⟨a, sa, sc, ia, ic⟩ (a, false) w (.returned (.tuple #[.agg #[.slice sa a.sl.length sc, .slice ia a.id.length ic, .int .i64 a.nx], .bool false])) W) := fun W hu => ⟨_, rfl, Nxt.same HA.out hu⟩
  have HWA : Hid (∀ s sa' sc', encA ⟨setS a (hS h) s, sa', sc', ia, ic⟩ = .agg #[.slice sa' a.sl.length sc', .slice ia a.id.length ic, .int .i64 a.nx]) := fun s sa' sc' => by simp [encA, setS]
  clear hfind hwith hl
  generalize hn : a.sl.length = n at HF HW HSM HWA ⊢
  have HN := Lib.hid hn
  clear hn
  generalize a.id.length = ni at HF HW HSM HWA ⊢
  generalize a.nx = nx at HF HW HSM HWA ⊢
  go_enter Try.func20, Try.ntmps20
  go_upto_region 1 with (fail)
  generalize hA : (Obj.cells #[.slice sa n sc, .slice ia ni ic, .int .i64 nx] 25 : Obj) = A
  generalize hB : (Obj.cells #[.slice none 0 0, .slice none 0 0, .int .i64 0] 25 : Obj) = B
  obtain ⟨hu, b0, b1, hsz⟩ := two_boxes w A B
  generalize (w.alloc A).alloc B = W at *
  generalize hH : w.heap.size = H at *
  rw [← hA] at b0
  rw [← hB] at b1
  have HU := Lib.hid hu; have HB0 := Lib.hid b0; have HB1 := Lib.hid b1; have HH := Lib.hid hH; have HSZ := Lib.hid hsz
  obtain ⟨c0, c1, c2⟩ := cells3 b0
  clear hu hA hB b0 b1 hH hsz
  go_wp2_with fail
  refine (HF.out W HU.out).mono ?_
  rintro e w1 ⟨rfl, hu1⟩
  have q1 := hu1.at HB1.out (by simp)
  have HQ1 := Lib.hid q1
  obtain ⟨e0, e1, e2⟩ := cells3 q1
  obtain ⟨z0, z1, z2⟩ := free3 q1
  have q0 := hu1.at HB0.out (by simp)
  obtain ⟨d0, d1, d2⟩ := cells3 q0
  have HQ0 := Lib.hid q0
  have HU1 : Hid (Upd [] w w1) := HU.out.trans hu1 (by simp)
  have HSZ1 : Hid (H + 2 ≤ w1.heap.size) := by have := hu1.size; have := HSZ.out; show _ ≤ _; omega
  clear c0 c1 c2 q1 q0 hu1 HU HB0 HB1 HSZ HF
  by_cases hr : Refers a h
  · rw [findZ_yes hr]
    have hil : hS h < a.sl.length := hr.2.1
    have HR := Lib.hid hr
    obtain ⟨bb, oo, hsa, k0, k1, k2, k3⟩ := (HA.out.stay HU1.out).sl (hS h) hil
    simp only at hsa k0 k1 k2 k3
    subst hsa
    have hat := slAt_get hil
    have HIL := Lib.hid hil
    generalize a.sl[hS h] = y at *
    have HAT := Lib.hid hat
    have hiz : ((hS h : Nat) : Int) < (n : Int) := by have := HN.out; omega
    have hnn : decide (((hS h : Nat) : Int) < 0) = false := by simp
    clear hr hil hat
    by_cases hs : y.s = f
    · have hsz : (y.s != f) = false := by simpa using hs
      have HS := Lib.hid hs
      by_cases ht1 : t < 1
      · have hd1 : decide (t < 1) = true := by simpa using ht1
        go_wp2_with fail
        have p1 := stored3 HQ1.out (.slice (some ⟨bb, oo, none⟩) n sc) (.slice ia ni ic) (.int .i64 nx)
        have hU5 := upd_set3 w1 (H + 1) (.slice (some ⟨bb, oo, none⟩) n sc) (.slice ia ni ic) (.int .i64 nx)
        generalize (((w1.setCell ⟨H + 1, 0, none⟩ (.slice (some ⟨bb, oo, none⟩) n sc)).setCell ⟨H + 1, 1, none⟩ (.slice ia ni ic)).setCell ⟨H + 1, 2, none⟩ (.int .i64 nx)) = w4 at p1 hU5 ⊢
        obtain ⟨r0, r1, r2⟩ := cells3 p1
        have hh := HH.out
        have huf : Upd [] w w4 := HU1.out.trans hU5 (fun x hx hl => by simp at hx; omega)
        exact bodyPost_ret (v := .tuple #[.agg #[.slice (some ⟨bb, oo, none⟩) n sc, .slice ia ni ic, .int .i64 nx], .bool false]) (by simp [results, Try.results20, go_sem, r0, r1, r2]) rfl (by rw [transA, if_neg (fun k => by have := k.2.2.1; omega)]; exact HSM.out _ huf)
      · have hd1 : decide (t < 1) = false := by simpa using ht1
        by_cases ht3 : 3 < t
        · have hd3 : decide (3 < t) = true := by simpa using ht3
          go_wp2_with fail
          have p1 := stored3 HQ1.out (.slice (some ⟨bb, oo, none⟩) n sc) (.slice ia ni ic) (.int .i64 nx)
          have hU5 := upd_set3 w1 (H + 1) (.slice (some ⟨bb, oo, none⟩) n sc) (.slice ia ni ic) (.int .i64 nx)
          generalize (((w1.setCell ⟨H + 1, 0, none⟩ (.slice (some ⟨bb, oo, none⟩) n sc)).setCell ⟨H + 1, 1, none⟩ (.slice ia ni ic)).setCell ⟨H + 1, 2, none⟩ (.int .i64 nx)) = w4 at p1 hU5 ⊢
          obtain ⟨r0, r1, r2⟩ := cells3 p1
          have hh := HH.out
          have huf : Upd [] w w4 := HU1.out.trans hU5 (fun x hx hl => by simp at hx; omega)
          exact bodyPost_ret (v := .tuple #[.agg #[.slice (some ⟨bb, oo, none⟩) n sc, .slice ia ni ic, .int .i64 nx], .bool false]) (by simp [results, Try.results20, go_sem, r0, r1, r2]) rfl (by rw [transA, if_neg (fun k => by have := k.2.2.2; omega)]; exact HSM.out _ huf)
        · have hd3 : decide (3 < t) = false := by simpa using ht3
          clear hs
          go_upto_region 4 with (fail)
          go_upto_region 5 with (fail)
          generalize hC : (Obj.cells #[.int .i64 y.g, .int .i64 y.s, .int .i64 y.t, .int .i64 y.q] 44 : Obj) = C
          have bc := box_at w1 hC
          have hu2 := (Upd.refl [] w1).alloc C
          generalize hW2 : w1.alloc C = W2 at bc hu2 ⊢
          generalize hK : w1.heap.size = K at *
          have HBC := Lib.hid bc; have HU2 := Lib.hid hu2
          obtain ⟨c0, c1, c2, c3⟩ := cells4 bc
          obtain ⟨x0, x1, x2, x3⟩ := free4 bc
          clear bc hu2 hC hW2 e0 e1 e2 z0 z1 z2 d0 d1 d2 k0 k1 k2 k3
          go_upto_region 6 with (fail)
          have bc : (W2.setCell ⟨K, 1, none⟩ (.int .i64 t)).heap[K]? = some (.cells #[.int .i64 y.g, .int .i64 t, .int .i64 y.t, .int .i64 y.q] 44 (0, 0)) := setCell_block HBC.out _
          have hu3 := (Upd.refl [K] W2).setCell (p := ⟨K, 1, none⟩) (fun _ => by simp) (.int .i64 t)
          generalize W2.setCell ⟨K, 1, none⟩ (.int .i64 t) = w3 at bc hu3 ⊢
          clear c0 c1 c2 c3 x0 x1 x2 x3
          have hKH := HSZ1.out
          have q0 := hu3.at (HU2.out.at HQ0.out (by simp)) (by simp; omega)
          have q1 := hu3.at (HU2.out.at HQ1.out (by simp)) (by simp; omega)
          have HQ13 := Lib.hid q1
          obtain ⟨c0, c1, c2, c3⟩ := cells4 bc
          obtain ⟨d0, d1, d2⟩ := cells3 q0
          have hh := HH.out
          have HU3 : Hid (Upd [] w w3) := (HU1.out.trans HU2.out (by simp)).trans hu3 (fun x hx hl => by simp at hx; omega)
          have HSZ3 : Hid (H + 2 ≤ w3.heap.size) := by have := HU2.out.size; have := hu3.size; show _ ≤ _; omega
          clear bc hu3 q0 q1
          go_wp2_with fail
          refine (HW.out w3 HU3.out (by rw [← HN.out]; exact HIL.out) ⟨y.g, t, y.t, y.q⟩).mono ?_
          rintro e w4 ⟨sa', sc', rfl, hA4, hav, hu4⟩
          rw [HWA.out]
          have HA4 := Lib.hid hA4
          have q1 := hu4.at HQ13.out (by simp)
          have HQ14 := Lib.hid q1
          obtain ⟨e0, e1, e2⟩ := cells3 q1
          obtain ⟨z0, z1, z2⟩ := free3 q1
          have HU4 : Hid (Upd [] w w4) := HU3.out.trans hu4 (by simp)
          clear c0 c1 c2 c3 d0 d1 d2 q1 hu4 hA4
          go_wp2_with fail
          have p1 := stored3 HQ14.out (.slice sa' n sc') (.slice ia ni ic) (.int .i64 nx)
          have hU5 := upd_set3 w4 (H + 1) (.slice sa' n sc') (.slice ia ni ic) (.int .i64 nx)
          generalize (((w4.setCell ⟨H + 1, 0, none⟩ (.slice sa' n sc')).setCell ⟨H + 1, 1, none⟩ (.slice ia ni ic)).setCell ⟨H + 1, 2, none⟩ (.int .i64 nx)) = w5 at p1 hU5 ⊢
          obtain ⟨r0, r1, r2⟩ := cells3 p1
          have huf : Upd [] w w5 := HU4.out.trans hU5 (fun x hx hl => by simp at hx; omega)
          have hav2 : Avoids ⟨setS a (hS h) ⟨y.g, t, y.t, y.q⟩, sa', sc', ia, ic⟩ (H + 1) := ⟨fun _ ad e => by have := hav ad e; have := HSZ3.out; omega, (HA.out.avoids (by omega)).2⟩
          exact bodyPost_ret (v := .tuple #[.agg #[.slice sa' n sc', .slice ia ni ic, .int .i64 nx], .bool true]) (by simp [results, Try.results20, go_sem, r0, r1, r2]) rfl ⟨⟨setS a (hS h) ⟨y.g, t, y.t, y.q⟩, sa', sc', ia, ic⟩, by rw [HWA.out, transA, if_pos ⟨HR.out, by rw [HAT.out]; exact HS.out, by omega, by omega⟩], by
            rw [transA, if_pos ⟨HR.out, by rw [HAT.out]; exact HS.out, by omega, by omega⟩, HAT.out]
            exact ⟨rfl, HA4.out.keep1 hU5 hav2, fun b hb ha => ⟨fun _ ad e => by have := hav ad e; have := HU3.out.size; omega, ha.2⟩, huf⟩⟩
    · have hsz : (y.s != f) = true := by simpa using hs
      have HS := Lib.hid hs
      clear hs
      go_wp2_with fail
      have p1 := stored3 HQ1.out (.slice (some ⟨bb, oo, none⟩) n sc) (.slice ia ni ic) (.int .i64 nx)
      have hU5 := upd_set3 w1 (H + 1) (.slice (some ⟨bb, oo, none⟩) n sc) (.slice ia ni ic) (.int .i64 nx)
      generalize (((w1.setCell ⟨H + 1, 0, none⟩ (.slice (some ⟨bb, oo, none⟩) n sc)).setCell ⟨H + 1, 1, none⟩ (.slice ia ni ic)).setCell ⟨H + 1, 2, none⟩ (.int .i64 nx)) = w4 at p1 hU5 ⊢
      obtain ⟨r0, r1, r2⟩ := cells3 p1
      have hh := HH.out
      have huf : Upd [] w w4 := HU1.out.trans hU5 (fun x hx hl => by simp at hx; omega)
      exact bodyPost_ret (v := .tuple #[.agg #[.slice (some ⟨bb, oo, none⟩) n sc, .slice ia ni ic, .int .i64 nx], .bool false]) (by simp [results, Try.results20, go_sem, r0, r1, r2]) rfl (by rw [transA, if_neg (fun k => by have := k.2.1; rw [HAT.out] at this; exact HS.out this)]; exact HSM.out _ huf)
  · rw [findZ_no hr]
    have HR := Lib.hid hr
    clear hr
    go_wp2_with fail
    have p1 := stored3 HQ1.out (.slice sa n sc) (.slice ia ni ic) (.int .i64 nx)
    have hU5 := upd_set3 w1 (H + 1) (.slice sa n sc) (.slice ia ni ic) (.int .i64 nx)
    generalize (((w1.setCell ⟨H + 1, 0, none⟩ (.slice sa n sc)).setCell ⟨H + 1, 1, none⟩ (.slice ia ni ic)).setCell ⟨H + 1, 2, none⟩ (.int .i64 nx)) = w4 at p1 hU5 ⊢
    obtain ⟨r0, r1, r2⟩ := cells3 p1
    have hh := HH.out
    have huf : Upd [] w w4 := HU1.out.trans hU5 (fun x hx hl => by simp at hx; omega)
    exact bodyPost_ret (v := .tuple #[.agg #[.slice sa n sc, .slice ia ni ic, .int .i64 nx], .bool false]) (by simp [results, Try.results20, go_sem, r0, r1, r2]) rfl (by rw [transA, if_neg (fun k => HR.out k.1)]; exact HSM.out _ huf)
end Go.Proofs.Ythpofcomlidoiaa
