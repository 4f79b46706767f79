/- Contract: the program's modify, over whatever function it is handed. -/
import Derived.Test.YthpofcomlidoiaaDH
namespace Go.Proofs.Ythpofcomlidoiaa
open Go.RowKit Go.Lib

/-- The arena r holds a: slots and ids from block B on, the ids in a row of their own. -/
structure Mod (B : Nat) (a : Ar) (w : World) (r : ArR) : Prop where
  eq : r.ar = a
  sl : Slots w r.sa a.sl
  sc : a.sl.length ≤ r.sc
  sn : r.sa = none → r.sc = 0
  sb : ∀ ad, r.sa = some ad → B ≤ ad.block
  id : w.ownsRow B 3 1 (.slice r.ia a.id.length r.ic) a.id.length (a.id.map (Value.int .i64))
  ne : ∀ ad k, r.sa = some ad → (Value.slice r.ia a.id.length r.ic).ownBlock = some k → ad.block ≠ k
theorem Own.mod {B : Nat} {a : Ar} {w : World} {r : ArR} (h : Own B a w r) : Mod B a w r := by
  obtain ⟨a1, c1, e1, s1, l1, n1, g1⟩ := row_slots h.sl
  simp only [Value.slice.injEq, true_and] at e1
  obtain ⟨rfl, rfl⟩ := e1
  refine ⟨h.eq, s1, l1, n1, g1, h.id, fun ad k e hk => ?_⟩
  rcases h.sl.2 with ⟨hn, _⟩ | ⟨g, cap, cur, hv, _, hg, _⟩
  · simp only [Value.slice.injEq] at hn
    rw [e] at hn; simp at hn
  · simp only [Value.slice.injEq] at hv
    rw [e] at hv
    obtain rfl := Option.some.inj hv.1
    intro hgk
    exact ne_own hg h.id (by decide) (by rw [hk, ← hgk])
theorem Mod.has {B : Nat} {a : Ar} {w : World} {r : ArR} (h : Mod B a w r) : HasA w r := by
  obtain ⟨a2, c2, e2, s2, l2, n2, g2⟩ := row_ints h.id
  simp only [Value.slice.injEq, true_and] at e2
  obtain ⟨rfl, rfl⟩ := e2
  have h1 := h.sl; have h2 := h.sc; have h3 := h.sn
  obtain ⟨ar, sa, sc, ia, ic⟩ := r
  obtain rfl : ar = a := h.eq
  exact ⟨h1, s2, h2, l2, h3, n2⟩
theorem Mod.av {B : Nat} {a : Ar} {w : World} {r : ArR} (h : Mod B a w r) {b : Nat} (hb : b < B) : Avoids r b := by
  obtain ⟨a2, c2, e2, s2, l2, n2, g2⟩ := row_ints h.id
  simp only [Value.slice.injEq, true_and] at e2
  obtain ⟨rfl, rfl⟩ := e2
  exact ⟨fun _ ad e => by have := h.sb ad e; omega, fun _ ad e => by have := g2 ad e; omega⟩
theorem Mod.keep {B : Nat} {a : Ar} {w w' : World} {r : ArR} {S : List Nat} (h : Mod B a w r) (hu : Upd S w w') (hS : ∀ x ∈ S, x < B) : Mod B a w' r :=
  ⟨h.eq, h.sl.keep hu (fun ad e hm => by have := h.sb ad e; have := hS _ hm; omega), h.sc, h.sn, h.sb, hu.row h.id (fun k hk hm => by have := own_ge h.id k hk; have := hS k hm; omega), h.ne⟩
theorem Mod.base {B B' : Nat} {a : Ar} {w : World} {r : ArR} (h : Mod B a w r) (hb : B' ≤ B) : Mod B' a w r := ⟨h.eq, h.sl, h.sc, h.sn, fun ad e => by have := h.sb ad e; omega, row_base h.id hb, h.ne⟩
theorem Mod.nxt {a : Ar} {w w' : World} {r r' : ArR} {B : Nat} (h : Mod B a w' r') (hB : w.heap.size ≤ B) (hu : Upd [] w w') : Nxt w r a w' r' := ⟨h.eq, h.has, fun b hb _ => h.av (by omega), hu⟩
/-- The slot i written in place. -/
theorem Own.set {B : Nat} {a : Ar} {w : World} {r : ArR} (h : Own B a w r) {i : Nat} (hi : i < a.sl.length) (s : Sl) : ∃ g cap, r.sa = some ⟨g, 0, none⟩ ∧ r.sc = cap ∧ B ≤ g ∧ HeldS w g cap a.sl ∧
    Mod B (setS a i s) ((((w.setCell ⟨g, i * 4, none⟩ (.int .i64 s.g)).setCell ⟨g, i * 4 + 1, none⟩ (.int .i64 s.s)).setCell ⟨g, i * 4 + 2, none⟩ (.int .i64 s.t)).setCell ⟨g, i * 4 + 3, none⟩ (.int .i64 s.q)) ⟨setS a i s, r.sa, r.sc, r.ia, r.ic⟩ := by
  obtain ⟨g, cap, hv, hge, hheld⟩ := heldS_row h.sl rfl (by omega)
  simp only [Value.slice.injEq, true_and] at hv
  obtain ⟨h1, h2⟩ := hv
  have hm := h.mod
  have hset := hheld.set i hi s
  have hU := upd_set4 (S := [g]) (Upd.refl [g] w) (g := g) (o := i * 4) (fun _ => by simp) (.int .i64 s.g) (.int .i64 s.s) (.int .i64 s.t) (.int .i64 s.q)
  refine ⟨g, cap, h1, h2, hge, hheld, ⟨rfl, ?_, ?_, ?_, ?_, ?_, ?_⟩⟩
  · rw [h1]; exact hset.slots
  · simp only [setS, List.length_set]; exact hm.sc
  · exact hm.sn
  · exact hm.sb
  · exact hU.row h.id (fun k hk hmem => hm.ne _ k h1 hk (by simp at hmem; exact hmem.symm))
  · exact hm.ne
def GivesMod (a : Ar) (b : Bool) (w : World) (e : Ending) (w' : World) : Prop := ∃ r', e = .returned (.tuple #[encA r', .bool b]) ∧ Mod w.heap.size a w' r' ∧ Upd [] w w'
def modA (a : Ar) (i : Nat) (s : Sl) (b : Bool) : Ar := if b = true then setS a i s else a

set_option maxHeartbeats 4000000 in
theorem modify_in (r : ArR) (i : Nat) (g : Nat) (cb : Array Value) (s' : Sl) (b : Bool) (w : World) (h : HasA w r) (hl : r.ar.sl.length ≤ 100000) (hi : r.ar.id.length ≤ 100000) (hil : i < r.ar.sl.length)
    (eg : ∀ args w, (callFunc g args).run Try.prog w = .ok (.enter g args) w)
    (hch : ∀ W, Upd [] w W → Calls Try.prog g (#[aggS (slAt r.ar.sl i)] ++ cb) W fun e w' => e = .returned (.tuple #[aggS s', .bool b]) ∧ Upd [] W w') :
    Calls Try.prog 35 #[encA r, .int .i64 i, .func (.func g) #[] cb] w (GivesMod (modA r.ar i s' b) b w) := by
  have HCL := Lib.hid (fun W (hu : Upd [] w W) => clone_has r W (h.stay hu) hl hi)
  obtain ⟨a, sa, sc, ia, ic⟩ := r
  rw [show encA ⟨a, sa, sc, ia, ic⟩ = .agg #[.slice sa a.sl.length sc, .slice ia a.id.length ic, .int .i64 a.nx] from rfl] at HCL ⊢
  simp only at HCL hil hch ⊢
  clear h hl hi
  have HIX := Lib.hid (fun sa ia sc ic => isIndex_any sa ia a.sl.length sc a.id.length ic a.nx (i : Int))
  rw [show idxB a.sl.length (i : Int) = true from by unfold idxB; rw [decide_eq_true_iff]; omega] at HIX
  have HEN : Hid (∀ sa sc ia ic, encA ⟨a, sa, sc, ia, ic⟩ = .agg #[.slice sa a.sl.length sc, .slice ia a.id.length ic, .int .i64 a.nx]) := fun _ _ _ _ => rfl
  have HAT := Lib.hid (slAt_get hil)
  have HIL := Lib.hid hil
  have HFT := Lib.hid (flatS_at a.sl i hil)
  have HEM : Hid (∀ sa sc ia ic b, encA ⟨modA a i s' b, sa, sc, ia, ic⟩ = .agg #[.slice sa a.sl.length sc, .slice ia a.id.length ic, .int .i64 a.nx]) := fun _ _ _ _ b => by cases b <;> simp [encA, modA, setS]
  rw [HAT.out] at hch
  have HCH := Lib.hid hch
  clear hch HAT
  generalize a.sl[i] = y at *
  unfold aggS at HCH
  generalize hn : a.sl.length = n at HCL HIX HEN hil HEM ⊢
  have HN := Lib.hid hn
  clear hn
  generalize a.id.length = m at HCL HIX HEN HEM ⊢
  generalize a.nx = nx at HCL HIX HEN HEM ⊢
  have hiz : (i : Int) < (n : Int) := by omega
  go_enter Try.func35, Try.ntmps35
  go_upto_region 1 with (fail)
  generalize hA : (Obj.cells #[.slice sa n sc, .slice ia m ic, .int .i64 nx] 25 : Obj) = A
  generalize hB : (Obj.cells #[.slice none 0 0, .slice none 0 0, .int .i64 0] 25 : Obj) = B
  obtain ⟨hu, b0, b1, hsz⟩ := two_boxes w A B
  generalize (w.alloc A).alloc B = W at *
  generalize hH : w.heap.size = H at *
  rw [← hA] at b0
  rw [← hB] at b1
  have HU := Lib.hid hu; have HB1 := Lib.hid b1; have HH := Lib.hid hH; have HSZ := Lib.hid hsz
  obtain ⟨c0, c1, c2⟩ := cells3 b0
  clear hu hA hB b0 b1 hH hsz
  go_upto_region 2 with (go_at_call 34; refine (HCL.out W HU.out).mono ?_; rintro e w1 ⟨r', rfl, hO, hu1⟩; obtain ⟨a1, sa1, sc1, ia1, ic1⟩ := r'; have he1 := hO.eq; simp only at he1; subst he1; rw [HEN.out])
  have HO1 := Lib.hid hO; have HU1 := Lib.hid hu1
  have hb := heap_alloc1 w1 (.cells #[.slice sa1 n sc1, .slice ia1 m ic1, .int .i64 nx] 25)
  have hu2 := (Upd.refl [] w1).alloc (.cells #[.slice sa1 n sc1, .slice ia1 m ic1, .int .i64 nx] 25)
  have hP : w1.heap.size = w1.heap.size := rfl
  generalize w1.alloc (.cells #[.slice sa1 n sc1, .slice ia1 m ic1, .int .i64 nx] 25) = W2 at hb hu2 ⊢
  generalize hPP : w1.heap.size = P at hb ⊢
  have HB := Lib.hid hb; have HU2 := Lib.hid hu2; have HP := Lib.hid hPP
  obtain ⟨d0, d1, d2⟩ := cells3 hb
  clear c0 c1 c2 hO hu1 hb hu2 hP hPP
  go_wp2_with fail
  refine (HIX.out sa1 ia1 sc1 ic1 W2).mono ?_
  rintro e w3 ⟨rfl, hg3⟩
  have HU3 : Hid (Upd [] w1 w3) := HU2.out.trans hg3.upd (by simp)
  have hb3 := hg3.upd.at HB.out (by simp)
  have HB3 := Lib.hid hb3
  obtain ⟨g1, cap1, hsa1, hsc1, hge1, hheld1, _⟩ := (HO1.out.stay HU3.out).set HIL.out y
  simp only at hsa1 hsc1
  subst hsa1 hsc1
  obtain ⟨f0, f1, f2, f3⟩ := HFT.out
  have k0 := (hheld1.cell _ _ f0).1
  have k1 := (hheld1.cell _ _ f1).1
  have k2 := (hheld1.cell _ _ f2).1
  have k3 := (hheld1.cell _ _ f3).1
  clear d0 d1 d2 hg3
  obtain ⟨d0, d1, d2⟩ := cells3 hb3
  clear hb3 f0 f1 f2 f3
  go_wp2_with fail
  refine (HCH.out w3 ((HU.out.trans HU1.out (by simp)).trans HU3.out (by simp))).mono ?_
  rintro e w4 ⟨rfl, hu4⟩
  have hby := heap_alloc1 w4 (.cells #[.int .i64 s'.g, .int .i64 s'.s, .int .i64 s'.t, .int .i64 s'.q] 44)
  have hu5 : Upd [] w3 (w4.alloc (.cells #[.int .i64 s'.g, .int .i64 s'.s, .int .i64 s'.t, .int .i64 s'.q] 44)) := hu4.alloc _
  have HBY := Lib.hid hby; have HU5 := Lib.hid hu5
  clear hby hu5 hu4 k0 k1 k2 k3 d0 d1 d2 hheld1
  go_upto_region 5 with (fail)
  generalize w4.alloc (.cells #[.int .i64 s'.g, .int .i64 s'.s, .int .i64 s'.t, .int .i64 s'.q] 44) = W5 at *
  generalize hQQ : w4.heap.size = Q at *
  have HO5 := Lib.hid (HO1.out.stay (HU3.out.trans HU5.out (by simp)))
  have HB5 := Lib.hid (HU5.out.at HB3.out (by simp))
  have HR5 := Lib.hid (HU5.out.at (HU3.out.at (HU1.out.at HB1.out (by simp)) (by simp)) (by simp))
  have HUW : Hid (Upd [] w W5) := ((HU.out.trans HU1.out (by simp)).trans HU3.out (by simp)).trans HU5.out (by simp)
  have hsz := HSZ.out; have hh := HH.out
  have hPg : H + 2 ≤ P := by have := HU1.out.size; have := HP.out; omega
  clear hQQ
  cases b with
  | false =>
    obtain ⟨d0, d1, d2⟩ := cells3 HB5.out
    obtain ⟨e0, e1, e2⟩ := cells3 HR5.out
    obtain ⟨z0, z1, z2⟩ := free3 HR5.out
    go_wp2_with fail
    have pf := stored3 HR5.out (.slice (some ⟨g1, 0, none⟩) n sc1) (.slice ia1 m ic1) (.int .i64 nx)
    have hU6 := upd_set3 W5 (H + 1) (.slice (some ⟨g1, 0, none⟩) n sc1) (.slice ia1 m ic1) (.int .i64 nx)
    generalize (((W5.setCell ⟨H + 1, 0, none⟩ (.slice (some ⟨g1, 0, none⟩) n sc1)).setCell ⟨H + 1, 1, none⟩ (.slice ia1 m ic1)).setCell ⟨H + 1, 2, none⟩ (.int .i64 nx)) = w6 at pf hU6 ⊢
    obtain ⟨r0, r1, r2⟩ := cells3 pf
    have hm := (HO5.out.mod.keep hU6 (fun x hx => by simp at hx; omega)).base (B' := w.heap.size) (by omega)
    exact bodyPost_ret (v := .tuple #[.agg #[.slice (some ⟨g1, 0, none⟩) n sc1, .slice ia1 m ic1, .int .i64 nx], .bool false]) (by simp [results, Try.results35, go_sem, r0, r1, r2]) rfl ⟨⟨modA a1 i s' false, some ⟨g1, 0, none⟩, sc1, ia1, ic1⟩, by rw [HEM.out], hm, HUW.out.trans hU6 (fun x hx hl => by simp at hx; omega)⟩
  | true =>
    obtain ⟨g', cap', hg', hc', hge', hheld', hmod⟩ := HO5.out.set HIL.out s'
    simp only [Option.some.injEq, Addr.mk.injEq, and_true] at hg'
    simp only at hc'
    subst hg' hc'
    obtain ⟨f0, f1, f2, f3⟩ := HFT.out
    obtain ⟨k0, l0⟩ := hheld'.cell _ _ f0
    obtain ⟨k1, l1⟩ := hheld'.cell _ _ f1
    obtain ⟨k2, l2⟩ := hheld'.cell _ _ f2
    obtain ⟨k3, l3⟩ := hheld'.cell _ _ f3
    obtain ⟨y0, y1, y2, y3⟩ := cells4 HBY.out
    obtain ⟨d0, d1, d2⟩ := cells3 HB5.out
    have hUs := upd_set4 (S := [g1]) (Upd.refl [g1] W5) (g := g1) (o := i * 4) (fun _ => by simp) (.int .i64 s'.g) (.int .i64 s'.s) (.int .i64 s'.t) (.int .i64 s'.q)
    have HMO := Lib.hid hmod; have HUS := Lib.hid hUs
    have hne : P ≠ g1 := by
      intro e
      obtain ⟨cur, hcur, _⟩ := hheld'.ex
      exact ne_block HB5.out hcur (by decide) e
    clear hmod hUs hheld' f0 f1 f2 f3
    go_upto_region 7 with (fail)
    generalize (((W5.setCell ⟨g1, i * 4, none⟩ (.int .i64 s'.g)).setCell ⟨g1, i * 4 + 1, none⟩ (.int .i64 s'.s)).setCell ⟨g1, i * 4 + 2, none⟩ (.int .i64 s'.t)).setCell ⟨g1, i * 4 + 3, none⟩ (.int .i64 s'.q) = W6 at *
    have HB6 := Lib.hid (HUS.out.at HB5.out (by simpa using hne))
    have HR6 := Lib.hid (HUS.out.at HR5.out (by simp; omega))
    clear k0 k1 k2 k3 l0 l1 l2 l3 y0 y1 y2 y3 d0 d1 d2
    obtain ⟨d0, d1, d2⟩ := cells3 HB6.out
    obtain ⟨e0, e1, e2⟩ := cells3 HR6.out
    obtain ⟨z0, z1, z2⟩ := free3 HR6.out
    go_wp2_with fail
    have pf := stored3 HR6.out (.slice (some ⟨g1, 0, none⟩) n sc1) (.slice ia1 m ic1) (.int .i64 nx)
    have hU6 := upd_set3 W6 (H + 1) (.slice (some ⟨g1, 0, none⟩) n sc1) (.slice ia1 m ic1) (.int .i64 nx)
    generalize (((W6.setCell ⟨H + 1, 0, none⟩ (.slice (some ⟨g1, 0, none⟩) n sc1)).setCell ⟨H + 1, 1, none⟩ (.slice ia1 m ic1)).setCell ⟨H + 1, 2, none⟩ (.int .i64 nx)) = w6 at pf hU6 ⊢
    obtain ⟨r0, r1, r2⟩ := cells3 pf
    have hm := (HMO.out.keep hU6 (fun x hx => by simp at hx; omega)).base (B' := w.heap.size) (by omega)
    exact bodyPost_ret (v := .tuple #[.agg #[.slice (some ⟨g1, 0, none⟩) n sc1, .slice ia1 m ic1, .int .i64 nx], .bool true]) (by simp [results, Try.results35, go_sem, r0, r1, r2]) rfl ⟨⟨modA a1 i s' true, some ⟨g1, 0, none⟩, sc1, ia1, ic1⟩, by rw [HEM.out], hm, (HUW.out.trans HUS.out (fun x hx hl => by simp at hx; omega)).trans hU6 (fun x hx hl => by simp at hx; omega)⟩
end Go.Proofs.Ythpofcomlidoiaa
