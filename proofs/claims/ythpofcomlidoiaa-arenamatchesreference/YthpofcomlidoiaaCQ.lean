/- Contract: step of the laws. -/
import Derived.Test.YthpofcomlidoiaaCL
namespace Go.Proofs.Ythpofcomlidoiaa
open Go.RowKit Go.Lib

/-- A slice of ints as a value: where it lies, its capacity. -/
structure HasI (w : World) (ad : Option Addr) (cap : Nat) (xs : List Int) : Prop where
  ints : Ints w ad xs
  le : xs.length ≤ cap
  nil : ad = none → cap = 0
theorem HasI.stay {w w' : World} {ad : Option Addr} {cap : Nat} {xs : List Int} (h : HasI w ad cap xs) (hu : Upd [] w w') : HasI w' ad cap xs := ⟨h.ints.stay hu, h.le, h.nil⟩
def AvoidsI (ad : Option Addr) (xs : List Int) (b : Nat) : Prop := xs ≠ [] → ∀ a, ad = some a → a.block ≠ b
theorem HasI.keep1 {w w' : World} {ad : Option Addr} {cap : Nat} {xs : List Int} {b : Nat} (h : HasI w ad cap xs) (hu : Upd [b] w w') (ha : AvoidsI ad xs b) : HasI w' ad cap xs :=
  ⟨h.ints.keepN hu (fun hn a e => by have := ha hn a e; simpa using this), h.le, h.nil⟩
theorem HasI.avoids {w : World} {ad : Option Addr} {cap : Nat} {xs : List Int} (h : HasI w ad cap xs) {b : Nat} (hb : w.heap.size ≤ b) : AvoidsI ad xs b := by
  intro hn a e
  obtain ⟨b', off, e', c⟩ := h.ints 0 (List.length_pos_iff.2 hn)
  rw [e] at e'
  obtain rfl := Option.some.inj e'
  have := World.block_lt_of_cell? w _ c
  simp only at this ⊢
  omega
/-- What step gives. -/
def GivesStep (r : ArR) (ad : Option Addr) (is : List Int) (p : Ar × List Int × Bool) (w : World) (e : Ending) (w' : World) : Prop :=
  ∃ r' ad' cap', e = .returned (.tuple #[encA r', .slice ad' p.2.1.length cap', .bool p.2.2]) ∧ Nxt w r p.1 w' r' ∧ HasI w' ad' cap' p.2.1 ∧ ∀ b, b < w.heap.size → AvoidsI ad is b → AvoidsI ad' p.2.1 b

theorem step_copy {w : World} {ops : Array Oper} {o : Oper} {a : Act} {K : Act → World → Prop} {Q : Exit → Act → World → Prop} {E : Prop} (hgd : o.guard = none) (s x : Operand)
    (ho : o.op = .call { callee := .builtin .append, args := #[s, x], argTypes := #[23, 23] })
    (base : Nat) (v : Value) (hs : a.eval s = v) (hown : w.ownsRow base 3 1 v 0 [])
    (ia : Option Addr) (m c : Nat) (ys : List Int) (hx : a.eval x = .slice ia m c) (hm : ys.length = m) (hc : Ints w ia ys) (hnil : ia = none → c = 0) (hn : m ≤ 1000000) (hbase : base ≤ w.heap.size)
    (h : ∀ v' w', w'.ownsRow base 3 1 v' m (ys.map (Value.int .i64)) → w.grownBy w' v.ownBlock → K (a.put o.dst v') w') :
    if Region.wanted o (yielded ops a.tmps) = true then Oper.wp Try.prog o a w K Q else E := by
  have hw : Region.wanted o (yielded ops a.tmps) = true := by simp [Region.wanted, hgd]
  rw [if_pos hw]
  obtain ⟨i0, hi0, hz0, hz1, hz2⟩ := info_parts infoInt
  cases ia with
  | none =>
    have e := ints_none hc
    subst e
    obtain rfl := hnil rfl
    obtain rfl : m = 0 := by simpa using hm.symm
    have hK := h v w hown (grownBy_refl _ _)
    have hrun := run_append_owned_none (P := Try.prog) (w := w) base 23 o.type 3 i0 1 Try.underlying23 hi0 v 0 _ hown
    unfold Oper.wp
    simp [execOp, ho, resolve, invoke, builtin, hs, hx, hrun, Result.andThen]
    exact hK
  | some ad =>
    refine wp_append_own w s x 23 ho base 3 i0 _ 1 8 Try.underlying23 hi0 hz0 hz1 hz2 rfl (by decide) v 0 _ hs hown ad m c (ys.map (Value.int .i64)) hx (by simp [hm]) (ints_cells hc) (by simp [Value.oneCell']) (by simp [maxLen]; omega) (by omega) hbase ?_
    intro v' w' h1 h2 _
    rw [Nat.zero_add, List.nil_append] at h1
    exact h v' w' h1 h2
theorem step_one {w : World} {ops : Array Oper} {o : Oper} {a : Act} {K : Act → World → Prop} {Q : Exit → Act → World → Prop} {E : Prop} (hgd : o.guard = none) (s x : Operand)
    (ho : o.op = .call { callee := .builtin .append, args := #[s, x], argTypes := #[23, 23] })
    (base : Nat) (v : Value) (n : Nat) (xs : List Int) (hs : a.eval s = v) (hown : w.ownsRow base 3 1 v n (xs.map (Value.int .i64)))
    (b : Nat) (y : Int) (hx : a.eval x = .slice (some ⟨b, 0, none⟩) 1 1) (hb : w.heap[b]? = some (.cells #[.int .i64 y] 3 (0, 0))) (hn : n ≤ 1000000) (hbase : base ≤ w.heap.size)
    (h : ∀ g cap w', w'.ownsRow base 3 1 (.slice (some ⟨g, 0, none⟩) (n + 1) cap) (n + 1) ((xs ++ [y]).map (Value.int .i64)) → w.grownBy w' v.ownBlock → K (a.put o.dst (.slice (some ⟨g, 0, none⟩) (n + 1) cap)) w') :
    if Region.wanted o (yielded ops a.tmps) = true then Oper.wp Try.prog o a w K Q else E := by
  have hw : Region.wanted o (yielded ops a.tmps) = true := by simp [Region.wanted, hgd]
  rw [if_pos hw]
  obtain ⟨i0, hi0, hz0, hz1, hz2⟩ := info_parts infoInt
  refine wp_append_lies w s x 23 ho base 3 i0 _ 1 8 Try.underlying23 hi0 hz0 hz1 hz2 rfl (by decide) v n _ hs hown ⟨b, 0, none⟩ 1 1 [.int .i64 y] hx rfl (World.news_of_block (cs := #[.int .i64 y]) hb) (by simp [Value.oneCell']) (by decide) (by simp [maxLen]; omega) (by omega) hbase _ rfl ?_
  intro g cap w' h1 h2 _ _
  exact h g cap w' (by simpa using h1) h2

def encO (o : Oz) : Value := .agg #[.int .u8 o.k, .int .i64 o.n, .int .u8 o.a, .int .u8 o.b]
structure OzOk (o : Oz) : Prop where
  k : 0 ≤ o.k ∧ o.k < 256
  a : 0 ≤ o.a ∧ o.a < 256
  b : 0 ≤ o.b ∧ o.b < 256

theorem nxt_close {w W w2 w3 w5 : World} {r r' : ArR} {a' : Ar} {H : Nat} (hA : HasA w r) (hU : Upd [] w W) (hWs : W.heap.size = H + 3) (hH : w.heap.size = H) (hN : Nxt W r a' w2 r') (h23 : Upd [] w2 w3) (h35 : Upd [H + 1 + 1] w3 w5) : Nxt w r a' w5 r' :=
  ⟨hN.eq, (hN.has.stay h23).keep1 h35 (hN.av _ (by omega) (hA.avoids (by omega))), fun b hb ha => hN.av b (by omega) ha, ((hU.trans hN.upd (by simp)).trans h23 (by simp)).trans h35 (fun x hx hl => by simp at hx; omega)⟩
theorem row_mono {w : World} {base base' : Nat} {e : TypeId} {size : Nat} {v : Value} {n : Nat} {xs : List Value} (h : w.ownsRow base e size v n xs) (hb : base' ≤ base) : w.ownsRow base' e size v n xs := by
  refine ⟨h.1, ?_⟩
  rcases h.2 with hn | ⟨g, cap, cur, rfl, hb', rest⟩
  · exact .inl hn
  · exact .inr ⟨g, cap, cur, rfl, by omega, rest⟩
theorem made_second (w : World) (O : Obj) : ((w.alloc O).alloc (.cells #[] 3)).ownsRow w.heap.size 3 1 (.slice (some ⟨w.heap.size + 1, 0, none⟩) 0 0) 0 [] := by
  have h := World.ownsRow_made (e := 3) (size := 1) (w.alloc O) #[] 0 (Nat.le_refl _) (Nat.zero_le _) (by simp)
  rw [show (w.alloc O).heap.size = w.heap.size + 1 by simp] at h
  exact row_mono h (by omega)
theorem step_new {w w5 w4 : World} {r r' : ArR} {ad : Option Addr} {is : List Int} {p : Ar × List Int × Bool} {q1 : Ar} {q2 : Int} {g cg m H : Nat} {va : Value} (hp : p = (q1, is ++ [q2], true)) (hm : is.length = m) (he : encA r' = va) (hN : Nxt w r q1 w5 r') (ho : w4.ownsRow (H + 3) 3 1 (.slice (some ⟨g, 0, none⟩) (m + 1) cg) (m + 1) ((is ++ [q2]).map (Value.int .i64))) (hH : w.heap.size = H) (h45 : Upd [H + 1 + 1] w4 w5) :
    GivesStep r ad is p w (.returned (.tuple #[va, .slice (some ⟨g, 0, none⟩) (m + 1) cg, .bool true])) w5 := by
  subst hp
  have hge := row_ge ho
  have hcap := row_cap ho
  have hl : (is ++ [q2]).length = m + 1 := by rw [List.length_append, hm]; rfl
  have hi : Ints w4 (some ⟨g, 0, none⟩) (is ++ [q2]) := by
    rw [← hl] at ho
    exact ints_row ho
  exact ⟨r', some ⟨g, 0, none⟩, cg, by rw [he]; simp only [hl], hN, ⟨hi.keep h45 (fun a e => by rw [← Option.some.inj e]; simp; omega), by simp only [hl]; exact hcap, fun e => by simp at e⟩, fun b hb _ _ a e => by rw [← Option.some.inj e]; simp only; omega⟩
theorem step_old {w w5 : World} {r r' : ArR} {ad : Option Addr} {cap m : Nat} {is : List Int} {p : Ar × List Int × Bool} {q1 : Ar} {b : Bool} {va : Value} (hp : p = (q1, is, b)) (hm : is.length = m) (he : encA r' = va) (hN : Nxt w r q1 w5 r') (hi : HasI w ad cap is) :
    GivesStep r ad is p w (.returned (.tuple #[va, .slice ad m cap, .bool b])) w5 := by
  subst hp
  exact ⟨r', ad, cap, by rw [he]; simp only [hm], hN, hi.stay hN.upd, fun _ _ h => h⟩
set_option maxHeartbeats 8000000 in
theorem step_alloc (r : ArR) (ad : Option Addr) (cap : Nat) (is : List Int) (o : Oz) (w : World) (ha : HasA w r) (hg : Good r.ar) (hi : HasI w ad cap is) (hl : is.length ≤ 100000) (ho : OzOk o) (h01 : o.k % 4 = 0 ∨ o.k % 4 = 1) :
    Calls Try.prog 27 #[encA r, .slice ad is.length cap, encO o] w (GivesStep r ad is (stepA r.ar is o) w) := by
  have hal := fun W (hu : Upd [] w W) => Alloc_has r o.n W (ha.stay hu) hg
  have htr := fun W (hu : Upd [] w W) => Transition_has r (pickA is o.n) (o.a % 5) (o.b % 5) W (ha.stay hu) (by have := hg.len1; omega)
  have hre := fun W (hu : Upd [] w W) => Release_has r (pickA is o.n) W (ha.stay hu) (by have := hg.len1; omega) (by have := hg.count; have := hg.len1; omega)
  have hpk := fun W (hu : Upd [] w W) => Pick_any ad cap is o.n W (hi.stay hu).ints (by omega)
  have hdk : o.k.tmod 4 = o.k % 4 := Int.tmod_eq_emod_of_nonneg ho.k.1
  have hda : o.a.tmod 5 = o.a % 5 := Int.tmod_eq_emod_of_nonneg ho.a.1
  have hdb : o.b.tmod 5 = o.b % 5 := Int.tmod_eq_emod_of_nonneg ho.b.1
  have hwx : IntKind.i64.wrap o.a = o.a := by rw [IntKind.wrap_i64]; have := ho.a; omega
  have hwy : IntKind.i64.wrap o.b = o.b := by rw [IntKind.wrap_i64]; have := ho.b; omega
  have hkb := ho.k
  have hab := ho.a
  have hbb := ho.b
  have HA := Lib.hid ha; have HI := Lib.hid hi; have HAL := Lib.hid hal; have HTR := Lib.hid htr; have HRE := Lib.hid hre; have HPK := Lib.hid hpk
  obtain ⟨p, hp⟩ : ∃ p, p = stepA r.ar is o := ⟨_, rfl⟩
  rw [← hp]
  have HP := Lib.hid hp
  clear ha hi hal htr hre hpk hp ho hg
  obtain ⟨k, n, x, y⟩ := o
  simp only at *
  unfold encO
  simp only
  generalize hn : is.length = m at *
  have HM := Lib.hid hn
  clear hn
  obtain ⟨a, sa, sc, ia, ic⟩ := r
  simp only [encA] at *
  generalize hsl : a.sl.length = n1 at *
  generalize hil : a.id.length = n2 at *
  generalize hnx : a.nx = nx at *
  clear hsl hil hnx
  go_enter Try.func27, Try.ntmps27
  go_upto_region 1 with (fail)
  generalize hA : (Obj.cells #[.slice sa n1 sc, .slice ia n2 ic, .int .i64 nx] 25 : Obj) = A
  generalize hB : (Obj.cells #[.int .u8 k, .int .i64 n, .int .u8 x, .int .u8 y] 28 : Obj) = B
  generalize hC : (Obj.cells #[.slice none 0 0, .slice none 0 0, .int .i64 0] 25 : Obj) = C
  obtain ⟨hu, b0, b1, b2, hsz⟩ := three_boxes w A B C
  generalize ((w.alloc A).alloc B).alloc C = W at *
  generalize hH : w.heap.size = H at *
  rw [← hA] at b0
  rw [← hB] at b1
  rw [← hC] at b2
  have HU := Lib.hid hu; have HB0 := Lib.hid b0; have HB1 := Lib.hid b1; have HB2 := Lib.hid b2; have HH := Lib.hid hH; have HSZ := Lib.hid hsz
  obtain ⟨c0, c1, c2⟩ := cells3 b0
  obtain ⟨d0, d1, d2, d3⟩ := cells4 b1
  clear hu hA hB hC b0 b1 b2 hH hsz
  obtain ⟨q1, q2, q3, hq⟩ : ∃ q1 q2 q3, allocA a n = (q1, q2, q3) := ⟨_, _, _, rfl⟩
  have HQ := Lib.hid hq
  have HPQ : Hid (p = if q3 = 0 then (q1, is ++ [q2], true) else (q1, is, false)) := by
    show p = _
    rw [HP.out, stepA]
    simp only [if_pos h01, hq]
  clear hq
  rcases h01 with h0 | h0
  · have e0 : (k % 4 == 0) = true := by simpa using h0
    clear h0
    go_upto_region 4 with (fail)
    go_upto_region 5 with (go_at_call 18; refine (HAL.out W HU.out).mono ?_; rintro e w1 ⟨r', rfl, hN⟩; obtain ⟨a', sa', sc', ia', ic'⟩ := r'; unfold encA; simp only [HQ.out] at hN ⊢)
    have hbx := boxed_last hN
    simp only [cellsA] at hbx
    have hblk := hbx.blk
    simp only [cellsA] at hblk
    have HE : Hid (encA ⟨a', sa', sc', ia', ic'⟩ = .agg #[.slice sa' a'.sl.length sc', .slice ia' a'.id.length ic', .int .i64 a'.nx]) := rfl
    generalize a'.sl.length = m1 at *
    generalize a'.id.length = m2 at *
    generalize a'.nx = mx at *
    have hu2 := hbx.nxt.upd
    have hPge := hbx.ge
    generalize w1.alloc (.cells #[.slice sa' m1 sc', .slice ia' m2 ic', .int .i64 mx] 25) = w2 at hbx hblk hu2 ⊢
    generalize w1.heap.size = P at *
    have HBX := Lib.hid hbx; have HBP := Lib.hid hblk; have HU2 := Lib.hid hu2
    have hhw := HH.out
    have hsw := HSZ.out
    have HQ2 := Lib.hid (hu2.at HB2.out (by simp))
    have HUW : Hid (Upd [] w w2) := HU.out.trans hu2 (by simp)
    clear hbx hu2 hN c0 c1 c2 d0 d1 d2 d3
    obtain ⟨c0, c1, c2⟩ := cells3 hblk
    obtain ⟨e0', e1', e2'⟩ := cells3 HQ2.out
    obtain ⟨z0, z1, z2⟩ := free3 HQ2.out
    clear hblk
    by_cases hq3 : q3 = 0
    · subst hq3
      go_upto_region 7 with (fail)
      have hKP : ∀ W', Upd [H + 1 + 1] w2 W' → W'.cell? ⟨P, 0, none⟩ = some (.slice sa' m1 sc') ∧ W'.cell? ⟨P, 1, none⟩ = some (.slice ia' m2 ic') ∧ W'.cell? ⟨P, 2, none⟩ = some (.int .i64 mx) := fun W' hu => ⟨hu.cell c0 (by simp; omega), hu.cell c1 (by simp; omega), hu.cell c2 (by simp; omega)⟩
      have HKP := Lib.hid hKP
      have HIN : Hid (∀ W', Upd [] w2 W' → Ints W' ad is) := fun W' hu => (HI.out.stay (HUW.out.trans hu (by simp))).ints
      clear hKP
      go_region_held3 (fun wz => wz.cell? ⟨P, 0, none⟩ = some (.slice sa' m1 sc') ∧ wz.cell? ⟨P, 1, none⟩ = some (.slice ia' m2 ic') ∧ wz.cell? ⟨P, 2, none⟩ = some (.int .i64 mx)) (first | exact ⟨c0, c1, c2⟩ | (refine HKP.out _ ?_; (repeat (first | exact Upd.refl _ _ | refine Upd.drew ?_ | refine Upd.alloc ?_ _ | refine Upd.setCell ?_ (by simp) _ | refine Upd.mono (S := []) (by assumption) (by simp))))) (first
        | (refine step_copy rfl (.tmp 35) (.tmp 36) rfl w2.heap.size (.slice (some ⟨w2.heap.size, 0, none⟩) 0 0) rfl (by first | exact World.ownsRow_made w2 #[] 0 (Nat.le_refl _) (Nat.zero_le _) (by simp) | exact (World.ownsRow_made w2 #[] 0 (Nat.le_refl _) (Nat.zero_le _) (by simp)).alloc _) ad m cap is rfl HM.out (HIN.out _ (by (repeat (first | exact Upd.refl [] _ | refine Upd.drew ?_ | refine Upd.alloc ?_ _ | refine Upd.trans (T := []) ?_ (by assumption) (by simp))))) HI.out.nil (by omega) (by first | (simp; done) | (simp; omega)) ?_; intro v1 w3 hown hgrow; have HO := Lib.hid hown; have hu3 : Upd [] w2 w3 := Upd.grown (by (repeat (first | exact Upd.refl [] _ | refine Upd.drew ?_ | refine Upd.alloc ?_ _ | refine Upd.trans (T := []) ?_ (by assumption) (by simp)))) hgrow (fun k hk hl => by simp [Value.ownBlock] at hk; omega); (first | have HBLK := Lib.hid ((upd_grown hgrow).at (b := w3) (heap_alloc2 w2 (.cells #[] 3) (.cells #[.int .i64 q2] 3)) (by simp [Value.ownBlock])) | have HBLK := Lib.hid ((upd_grown hgrow).at (b := w3) (((Upd.refl [] (w2.alloc (.cells #[.int .i64 q2] 3))).alloc (.cells #[] 3)).at (heap_alloc1 w2 (.cells #[.int .i64 q2] 3)) (by simp)) (by simp [Value.ownBlock])) | skip); clear hown hgrow)
        | (refine step_copy rfl (.tmp 35) (.tmp 36) rfl w2.heap.size (.slice (some ⟨w2.heap.size + 1, 0, none⟩) 0 0) rfl (by exact made_second w2 (.cells #[.int .i64 q2] 3)) ad m cap is rfl HM.out (HIN.out _ (by (repeat (first | exact Upd.refl [] _ | refine Upd.drew ?_ | refine Upd.alloc ?_ _ | refine Upd.trans (T := []) ?_ (by assumption) (by simp))))) HI.out.nil (by omega) (by first | (simp; done) | (simp; omega)) ?_; intro v1 w3 hown hgrow; have HO := Lib.hid hown; have hu3 : Upd [] w2 w3 := Upd.grown (by (repeat (first | exact Upd.refl [] _ | refine Upd.drew ?_ | refine Upd.alloc ?_ _ | refine Upd.trans (T := []) ?_ (by assumption) (by simp)))) hgrow (fun k hk hl => by simp [Value.ownBlock] at hk; omega); (first | have HBLK := Lib.hid ((upd_grown hgrow).at (b := w3) (heap_alloc2 w2 (.cells #[] 3) (.cells #[.int .i64 q2] 3)) (by simp [Value.ownBlock])) | have HBLK := Lib.hid ((upd_grown hgrow).at (b := w3) (((Upd.refl [] (w2.alloc (.cells #[.int .i64 q2] 3))).alloc (.cells #[] 3)).at (heap_alloc1 w2 (.cells #[.int .i64 q2] 3)) (by simp)) (by simp [Value.ownBlock])) | skip); clear hown hgrow)
        | (refine step_one rfl (.tmp 37) (.tmp 39) rfl w2.heap.size v1 m is rfl (by first | exact HO.out | exact HO.out.alloc _) _ q2 rfl (by first | exact HBLK.out | exact heap_alloc1 _ _) (by omega) (by have := hu3.size; simp; omega) ?_; intro g cg w4 hown hgrow; have HO2 := Lib.hid hown; have hu4 : Upd [] w2 w4 := Upd.grown (by (repeat (first | exact Upd.refl [] _ | refine Upd.drew ?_ | refine Upd.alloc ?_ _ | refine Upd.trans (T := []) ?_ (by assumption) (by simp)))) hgrow (fun k hk hl => by have := own_ge HO.out k hk; omega); obtain ⟨f0, f1, f2⟩ := cells3 (hu4.at HQ2.out (by simp)); obtain ⟨y0, y1, y2⟩ := free3 (hu4.at HQ2.out (by simp)); clear hown hgrow))
      all_goals
        have pf := stored3 (hu4.at HQ2.out (by simp)) (.slice sa' m1 sc') (.slice ia' m2 ic') (.int .i64 mx)
        have hU5 := upd_set3 w4 (H + 1 + 1) (.slice sa' m1 sc') (.slice ia' m2 ic') (.int .i64 mx)
        generalize (((w4.setCell ⟨H + 1 + 1, 0, none⟩ (.slice sa' m1 sc')).setCell ⟨H + 1 + 1, 1, none⟩ (.slice ia' m2 ic')).setCell ⟨H + 1 + 1, 2, none⟩ (.int .i64 mx)) = w5 at pf hU5 ⊢
        go_wp2_with fail
        obtain ⟨r0, r1, r2⟩ := cells3 pf
        exact bodyPost_ret (v := .tuple #[.agg #[.slice sa' m1 sc', .slice ia' m2 ic', .int .i64 mx], .slice (some ⟨g, 0, none⟩) (m + 1) cg, .bool true]) (by simp [results, Try.results27, go_sem, r0, r1, r2]) rfl (step_new (q1 := q1) (by rw [HPQ.out]; simp) HM.out HE.out (nxt_close HA.out HU.out HSZ.out HH.out HBX.out.nxt hu4 hU5) (row_mono HO2.out (by have := HBX.out.nxt.upd.size; omega)) HH.out hU5)
    · have hq3b : (q3 != 0) = true := by simpa using hq3
      have HQ3 := Lib.hid hq3
      clear hq3
      go_wp2_with fail
      have pf := stored3 HQ2.out (.slice sa' m1 sc') (.slice ia' m2 ic') (.int .i64 mx)
      have hU5 := upd_set3 w2 (H + 1 + 1) (.slice sa' m1 sc') (.slice ia' m2 ic') (.int .i64 mx)
      generalize (((w2.setCell ⟨H + 1 + 1, 0, none⟩ (.slice sa' m1 sc')).setCell ⟨H + 1 + 1, 1, none⟩ (.slice ia' m2 ic')).setCell ⟨H + 1 + 1, 2, none⟩ (.int .i64 mx)) = w5 at pf hU5 ⊢
      obtain ⟨r0, r1, r2⟩ := cells3 pf
      exact bodyPost_ret (v := .tuple #[.agg #[.slice sa' m1 sc', .slice ia' m2 ic', .int .i64 mx], .slice ad m cap, .bool false]) (by simp [results, Try.results27, go_sem, r0, r1, r2]) rfl (step_old (q1 := q1) (by rw [HPQ.out, if_neg HQ3.out]) HM.out HE.out (nxt_close HA.out HU.out HSZ.out HH.out HBX.out.nxt (Upd.refl _ _) hU5) HI.out)
  · have e0 : (k % 4 == 0) = false := by rw [h0]; rfl
    have e1 : (k % 4 == 1) = true := by simpa using h0
    clear h0
    go_upto_region 4 with (fail)
    go_upto_region 5 with (go_at_call 18; refine (HAL.out W HU.out).mono ?_; rintro e w1 ⟨r', rfl, hN⟩; obtain ⟨a', sa', sc', ia', ic'⟩ := r'; unfold encA; simp only [HQ.out] at hN ⊢)
    have hbx := boxed_last hN
    simp only [cellsA] at hbx
    have hblk := hbx.blk
    simp only [cellsA] at hblk
    have HE : Hid (encA ⟨a', sa', sc', ia', ic'⟩ = .agg #[.slice sa' a'.sl.length sc', .slice ia' a'.id.length ic', .int .i64 a'.nx]) := rfl
    generalize a'.sl.length = m1 at *
    generalize a'.id.length = m2 at *
    generalize a'.nx = mx at *
    have hu2 := hbx.nxt.upd
    have hPge := hbx.ge
    generalize w1.alloc (.cells #[.slice sa' m1 sc', .slice ia' m2 ic', .int .i64 mx] 25) = w2 at hbx hblk hu2 ⊢
    generalize w1.heap.size = P at *
    have HBX := Lib.hid hbx; have HBP := Lib.hid hblk; have HU2 := Lib.hid hu2
    have hhw := HH.out
    have hsw := HSZ.out
    have HQ2 := Lib.hid (hu2.at HB2.out (by simp))
    have HUW : Hid (Upd [] w w2) := HU.out.trans hu2 (by simp)
    clear hbx hu2 hN c0 c1 c2 d0 d1 d2 d3
    obtain ⟨c0, c1, c2⟩ := cells3 hblk
    obtain ⟨e0', e1', e2'⟩ := cells3 HQ2.out
    obtain ⟨z0, z1, z2⟩ := free3 HQ2.out
    clear hblk
    by_cases hq3 : q3 = 0
    · subst hq3
      go_upto_region 7 with (fail)
      have hKP : ∀ W', Upd [H + 1 + 1] w2 W' → W'.cell? ⟨P, 0, none⟩ = some (.slice sa' m1 sc') ∧ W'.cell? ⟨P, 1, none⟩ = some (.slice ia' m2 ic') ∧ W'.cell? ⟨P, 2, none⟩ = some (.int .i64 mx) := fun W' hu => ⟨hu.cell c0 (by simp; omega), hu.cell c1 (by simp; omega), hu.cell c2 (by simp; omega)⟩
      have HKP := Lib.hid hKP
      have HIN : Hid (∀ W', Upd [] w2 W' → Ints W' ad is) := fun W' hu => (HI.out.stay (HUW.out.trans hu (by simp))).ints
      clear hKP
      go_region_held3 (fun wz => wz.cell? ⟨P, 0, none⟩ = some (.slice sa' m1 sc') ∧ wz.cell? ⟨P, 1, none⟩ = some (.slice ia' m2 ic') ∧ wz.cell? ⟨P, 2, none⟩ = some (.int .i64 mx)) (first | exact ⟨c0, c1, c2⟩ | (refine HKP.out _ ?_; (repeat (first | exact Upd.refl _ _ | refine Upd.drew ?_ | refine Upd.alloc ?_ _ | refine Upd.setCell ?_ (by simp) _ | refine Upd.mono (S := []) (by assumption) (by simp))))) (first
        | (refine step_copy rfl (.tmp 35) (.tmp 36) rfl w2.heap.size (.slice (some ⟨w2.heap.size, 0, none⟩) 0 0) rfl (by first | exact World.ownsRow_made w2 #[] 0 (Nat.le_refl _) (Nat.zero_le _) (by simp) | exact (World.ownsRow_made w2 #[] 0 (Nat.le_refl _) (Nat.zero_le _) (by simp)).alloc _) ad m cap is rfl HM.out (HIN.out _ (by (repeat (first | exact Upd.refl [] _ | refine Upd.drew ?_ | refine Upd.alloc ?_ _ | refine Upd.trans (T := []) ?_ (by assumption) (by simp))))) HI.out.nil (by omega) (by first | (simp; done) | (simp; omega)) ?_; intro v1 w3 hown hgrow; have HO := Lib.hid hown; have hu3 : Upd [] w2 w3 := Upd.grown (by (repeat (first | exact Upd.refl [] _ | refine Upd.drew ?_ | refine Upd.alloc ?_ _ | refine Upd.trans (T := []) ?_ (by assumption) (by simp)))) hgrow (fun k hk hl => by simp [Value.ownBlock] at hk; omega); (first | have HBLK := Lib.hid ((upd_grown hgrow).at (b := w3) (heap_alloc2 w2 (.cells #[] 3) (.cells #[.int .i64 q2] 3)) (by simp [Value.ownBlock])) | have HBLK := Lib.hid ((upd_grown hgrow).at (b := w3) (((Upd.refl [] (w2.alloc (.cells #[.int .i64 q2] 3))).alloc (.cells #[] 3)).at (heap_alloc1 w2 (.cells #[.int .i64 q2] 3)) (by simp)) (by simp [Value.ownBlock])) | skip); clear hown hgrow)
        | (refine step_copy rfl (.tmp 35) (.tmp 36) rfl w2.heap.size (.slice (some ⟨w2.heap.size + 1, 0, none⟩) 0 0) rfl (by exact made_second w2 (.cells #[.int .i64 q2] 3)) ad m cap is rfl HM.out (HIN.out _ (by (repeat (first | exact Upd.refl [] _ | refine Upd.drew ?_ | refine Upd.alloc ?_ _ | refine Upd.trans (T := []) ?_ (by assumption) (by simp))))) HI.out.nil (by omega) (by first | (simp; done) | (simp; omega)) ?_; intro v1 w3 hown hgrow; have HO := Lib.hid hown; have hu3 : Upd [] w2 w3 := Upd.grown (by (repeat (first | exact Upd.refl [] _ | refine Upd.drew ?_ | refine Upd.alloc ?_ _ | refine Upd.trans (T := []) ?_ (by assumption) (by simp)))) hgrow (fun k hk hl => by simp [Value.ownBlock] at hk; omega); (first | have HBLK := Lib.hid ((upd_grown hgrow).at (b := w3) (heap_alloc2 w2 (.cells #[] 3) (.cells #[.int .i64 q2] 3)) (by simp [Value.ownBlock])) | have HBLK := Lib.hid ((upd_grown hgrow).at (b := w3) (((Upd.refl [] (w2.alloc (.cells #[.int .i64 q2] 3))).alloc (.cells #[] 3)).at (heap_alloc1 w2 (.cells #[.int .i64 q2] 3)) (by simp)) (by simp [Value.ownBlock])) | skip); clear hown hgrow)
        | (refine step_one rfl (.tmp 37) (.tmp 39) rfl w2.heap.size v1 m is rfl (by first | exact HO.out | exact HO.out.alloc _) _ q2 rfl (by first | exact HBLK.out | exact heap_alloc1 _ _) (by omega) (by have := hu3.size; simp; omega) ?_; intro g cg w4 hown hgrow; have HO2 := Lib.hid hown; have hu4 : Upd [] w2 w4 := Upd.grown (by (repeat (first | exact Upd.refl [] _ | refine Upd.drew ?_ | refine Upd.alloc ?_ _ | refine Upd.trans (T := []) ?_ (by assumption) (by simp)))) hgrow (fun k hk hl => by have := own_ge HO.out k hk; omega); obtain ⟨f0, f1, f2⟩ := cells3 (hu4.at HQ2.out (by simp)); obtain ⟨y0, y1, y2⟩ := free3 (hu4.at HQ2.out (by simp)); clear hown hgrow))
      all_goals
        have pf := stored3 (hu4.at HQ2.out (by simp)) (.slice sa' m1 sc') (.slice ia' m2 ic') (.int .i64 mx)
        have hU5 := upd_set3 w4 (H + 1 + 1) (.slice sa' m1 sc') (.slice ia' m2 ic') (.int .i64 mx)
        generalize (((w4.setCell ⟨H + 1 + 1, 0, none⟩ (.slice sa' m1 sc')).setCell ⟨H + 1 + 1, 1, none⟩ (.slice ia' m2 ic')).setCell ⟨H + 1 + 1, 2, none⟩ (.int .i64 mx)) = w5 at pf hU5 ⊢
        go_wp2_with fail
        obtain ⟨r0, r1, r2⟩ := cells3 pf
        exact bodyPost_ret (v := .tuple #[.agg #[.slice sa' m1 sc', .slice ia' m2 ic', .int .i64 mx], .slice (some ⟨g, 0, none⟩) (m + 1) cg, .bool true]) (by simp [results, Try.results27, go_sem, r0, r1, r2]) rfl (step_new (q1 := q1) (by rw [HPQ.out]; simp) HM.out HE.out (nxt_close HA.out HU.out HSZ.out HH.out HBX.out.nxt hu4 hU5) (row_mono HO2.out (by have := HBX.out.nxt.upd.size; omega)) HH.out hU5)
    · have hq3b : (q3 != 0) = true := by simpa using hq3
      have HQ3 := Lib.hid hq3
      clear hq3
      go_wp2_with fail
      have pf := stored3 HQ2.out (.slice sa' m1 sc') (.slice ia' m2 ic') (.int .i64 mx)
      have hU5 := upd_set3 w2 (H + 1 + 1) (.slice sa' m1 sc') (.slice ia' m2 ic') (.int .i64 mx)
      generalize (((w2.setCell ⟨H + 1 + 1, 0, none⟩ (.slice sa' m1 sc')).setCell ⟨H + 1 + 1, 1, none⟩ (.slice ia' m2 ic')).setCell ⟨H + 1 + 1, 2, none⟩ (.int .i64 mx)) = w5 at pf hU5 ⊢
      obtain ⟨r0, r1, r2⟩ := cells3 pf
      exact bodyPost_ret (v := .tuple #[.agg #[.slice sa' m1 sc', .slice ia' m2 ic', .int .i64 mx], .slice ad m cap, .bool false]) (by simp [results, Try.results27, go_sem, r0, r1, r2]) rfl (step_old (q1 := q1) (by rw [HPQ.out, if_neg HQ3.out]) HM.out HE.out (nxt_close HA.out HU.out HSZ.out HH.out HBX.out.nxt (Upd.refl _ _) hU5) HI.out)
end Go.Proofs.Ythpofcomlidoiaa
