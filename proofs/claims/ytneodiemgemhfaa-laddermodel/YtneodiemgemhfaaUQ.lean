/- Contract: the program's Len, a range over a function. -/
import Derived.Test.YtneodiemgemhfaaUP
namespace Go.Proofs.Ytneodiemgemhfaa
open Go.RowKit Go.Shelf

theorem Upd.keepsFrom {S : List Nat} {W W' : World} {H : Nat} (hu : Upd S W W') (hS : ∀ x ∈ S, x < H) : KeepsFrom H W W' :=
  ⟨hu.size, fun i _ hB hi _ => hu.at hi (fun hx => by have := hS i hx; omega)⟩
theorem own_at {A B : World} {row : Option Nat} {H j : Nat} {c : Array Value} {e : TypeId} {f : Nat × Nat} (h : A.heap[j]? = some (.cells c e f)) (hg : A.grownBy B row) (hr : ∀ r, row = some r → H ≤ r ∧ ∃ o : Obj, A.heap[r]? = some o ∧ o.isCells = false) : B.heap[j]? = some (.cells c e f) := by
  rw [hg.block j (lt_block h) (fun he => ?_)]
  · exact h
  · obtain ⟨_, o, ho, hc⟩ := hr j he.symm
    rw [h] at ho
    cases ho
    simp [Obj.isCells] at hc
theorem own_upd {w A B : World} {row : Option Nat} {H : Nat} (h : Upd [] w A) (hw : w.heap.size ≤ H) (hg : A.grownBy B row) (hr : ∀ r, row = some r → H ≤ r ∧ ∃ o : Obj, A.heap[r]? = some o ∧ o.isCells = false) : Upd [] w B :=
  h.grown hg (fun k hk hl => by have := (hr k hk).1; omega)
theorem Upd.putObj {w A : World} {D : Nat} (h : Upd [] w A) (hD : w.heap.size ≤ D) (o : Obj) : Upd [] w (A.putObj D o) := h.grown (grownBy_putObj' A D o) (fun k hk hl => by cases hk; omega)
theorem upd_putObj (A : World) (D : Nat) (o : Obj) : Upd [D] A (A.putObj D o) := (Upd.refl [D] A).grown (grownBy_putObj' A D o) (fun k hk _ => by cases hk; simp)
theorem InBox.keep1 {B : Nat} {r : RgR} {w w' : World} {b : Nat} (h : InBox B r w) (hu : Upd [b] w w') (hB : B ≠ b) (ha : AvR r b) : InBox B r w' := ⟨hu.at h.1 (by simpa using hB), h.2.keep1 hu ha⟩
/-- The rung in its box is kept. -/
def KpB (B : Nat) (r : RgR) (A C : World) : Prop := InBox B r A → InBox B r C
theorem KpB.trans {B : Nat} {r : RgR} {A C D : World} (h : KpB B r A C) (k : KpB B r C D) : KpB B r A D := fun x => k (h x)
theorem KpB.put {B : Nat} {r : RgR} {w W : World} {l : Nat} (hr : HasR w r) (hB : B < w.heap.size) (hl : w.heap.size ≤ l) (o : Obj) : KpB B r W (W.putObj l o) := fun h => h.keep1 (upd_putObj W l o) (by omega) (hr.avoids hl)

def LI2 (w : World) (C H : Nat) (n : Nat) (pre : List (Px n)) (W : World) : Prop := W.heap[C]? = some (.cells #[.int .i64 (pre.length : Nat)] 3 (0, 0)) ∧ Upd [] w W ∧ H ≤ W.heap.size
theorem li_own (w : World) (C H n : Nat) (hw : w.heap.size ≤ H) : OwnFrom H (LI2 w C H n) := by
  intro pre A W' row ⟨h1, h2, h3⟩ hg hr
  exact ⟨own_at h1 hg hr, own_upd h2 hw hg hr, Nat.le_trans h3 hg.size⟩
def LX2 (n : Nat) (_ : Code) (_ : List (Px n)) (_ : World) : Prop := False
theorem lx_own (H n : Nat) (c : Code) : OwnFrom H (LX2 n c) := fun _ _ _ _ h _ _ => h
theorem ps_len {n : Nat} {bs : List (List It)} (hn : n = bs.length) {ys : List (Px n)} (h : pvs ys = allP bs n) : ys.length = lenL bs := by
  rw [← pvs_length, h, hn, allP_length bs _ (Nat.le_refl _), lenTo_all]

set_option maxRecDepth 100000 in
set_option maxHeartbeats 4000000 in
theorem Len_has (r : RgR) (w : World) (h : HasR w r) (hl : r.bk.l.length ≤ 1000000) (hs : lenL r.rg.bs ≤ 1000000) (hm : ∀ s ∈ r.bk.l, s.l.length ≤ 1000000) :
    Calls Try.prog 21 #[encR r] w fun e w' => e = .returned (.int .i64 (lenL r.rg.bs : Nat)) ∧ Upd [] w w' := by
  have HIT := Lib.hid (fun W => items_has r W)
  have HST := Lib.hid (fun n hn Bp Kp => items_stops n hn Bp r hl hm Kp)
  have HR := Lib.hid h
  have HPL := Lib.hid (fun (ys : List (Px r.bk.l.length)) => ps_len (bs := rowsOf r.bk.l) (rowsOf_length r.bk.l).symm (ys := ys))
  obtain ⟨fr, wd, cu, bl, ba, bc⟩ := r
  simp only at hl HST HPL
  unfold encR at HIT ⊢
  simp only [cellsR] at HIT
  simp only [RgR.rg] at hs ⊢
  have HCR : Hid (cellsR ⟨fr, wd, cu, ⟨bl, ba, bc⟩⟩ = #[.int .i64 fr, .int .i64 wd, .int .i64 cu, .slice ba bl.length bc]) := Lib.hid rfl
  generalize lenL (rowsOf bl) = M at *
  clear h hm
  refine (callsIn_wide (n := 6)).1 ?_
  refine callsIn_of_wp_marks Try.func21 rfl trivial ?_ rfl
  simp only [Try.ntmps21, List.size_toArray, List.length_cons, List.length_nil, Nat.reduceAdd, Nat.reduceSub, Array.replicate_succ, Array.replicate_zero, List.push_toArray, List.append_toArray, List.nil_append, List.cons_append]
  refine wpIn_wide.2 ?_
  go_upto_region 1 with (fail)
  have hu := (Upd.refl [] w).alloc (.cells #[.int .i64 fr, .int .i64 wd, .int .i64 cu, .slice ba bl.length bc] 43)
  have b0 := heap_alloc1 w (.cells #[.int .i64 fr, .int .i64 wd, .int .i64 cu, .slice ba bl.length bc] 43)
  have hsz : (w.alloc (.cells #[.int .i64 fr, .int .i64 wd, .int .i64 cu, .slice ba bl.length bc] 43)).heap.size = w.heap.size + 1 := by simp
  generalize w.alloc (.cells #[.int .i64 fr, .int .i64 wd, .int .i64 cu, .slice ba bl.length bc] 43) = W at *
  generalize hH : w.heap.size = H at *
  have HU := Lib.hid hu; have HB0 := Lib.hid b0; have HH := Lib.hid hH; have HSZ := Lib.hid hsz
  clear hu b0 hH hsz
  go_upto_region 2 with (fail)
  have hu1 := (Upd.refl [] W).alloc (.cells #[.int .i64 0] 3)
  have b1 := heap_alloc1 W (.cells #[.int .i64 0] 3)
  have b0 := hu1.at HB0.out (by simp)
  have hsz1 : (W.alloc (.cells #[.int .i64 0] 3)).heap.size = H + 2 := by simp [HSZ.out]
  have hC : W.heap.size = H + 1 := HSZ.out
  generalize W.alloc (.cells #[.int .i64 0] 3) = W1 at *
  rw [hC] at b1 ⊢
  have HU1 := Lib.hid hu1; have HB1 := Lib.hid b1; have HSZ1 := Lib.hid hsz1
  obtain ⟨c0, c1, c2, c3⟩ := cells4 b0
  clear hu1 b0 b1 hsz1 hC
  go_wp2_with fail
  (with_reducible refine (HIT.out _).mono ?_)
  rintro e w2 ⟨rfl, rfl⟩
  go_wp2_with fail
  have hu2 := (Upd.refl [] W1).alloc (.cells #[.int .i64 fr, .int .i64 wd, .int .i64 cu, .slice ba bl.length bc] 43)
  have b2 := heap_alloc1 W1 (.cells #[.int .i64 fr, .int .i64 wd, .int .i64 cu, .slice ba bl.length bc] 43)
  have hsz2 : (W1.alloc (.cells #[.int .i64 fr, .int .i64 wd, .int .i64 cu, .slice ba bl.length bc] 43)).heap.size = H + 3 := by simp [HSZ1.out]
  have b1 := hu2.at HB1.out (by simp)
  have hP : W1.heap.size = H + 2 := HSZ1.out
  generalize W1.alloc (.cells #[.int .i64 fr, .int .i64 wd, .int .i64 cu, .slice ba bl.length bc] 43) = W0 at *
  rw [hP] at b2 ⊢
  have hUW : Upd [] w W0 := (HU.out.thn HU1.out).thn hu2
  have hib : InBox (H + 2) ⟨fr, wd, cu, ⟨bl, ba, bc⟩⟩ W0 := ⟨b2, HR.out.stay hUW⟩
  have hhw := HH.out
  have HIB := Lib.hid hib; have HUW := Lib.hid hUW
  have havC : AvR ⟨fr, wd, cu, ⟨bl, ba, bc⟩⟩ (H + 1) := HR.out.avoids (by omega)
  clear c0 c1 c2 c3 hu2 b2 hP hib
  have hge : H + 3 ≤ W0.heap.size := by omega
  have hle : W0.heap.size ≤ H + 3 := by omega
  clear hsz2
  refine (wpIn_wide (n := 6)).1 ?_
  refine wpIn_rangeFunc_ownG rfl (by omega) (gf := 54) (lb := #[.pointer (some ⟨H + 2, 0, none⟩)]) rfl trivial (enters_of Try.func54 (by kernel_rfl) rfl)
    (HST.out _ (by omega) (H + 2) (KpB (H + 2) ⟨fr, wd, cu, ⟨bl, ba, bc⟩⟩) (fun A B h => h) W0 HIB.out)
    KpB.trans (fun W l o o' hl _ _ _ => KpB.put HIB.out.2 (by omega) hl o') (Below.refl _ _) (fun _ => rfl)
    (LI2 w (H + 1) W0.heap.size bl.length) (LX2 bl.length) (li_own w (H + 1) W0.heap.size bl.length HUW.out.size) (lx_own W0.heap.size bl.length) ⟨b1, HUW.out, Nat.le_refl _⟩
    (fun x => { tmps := #[.agg #[.int .i64 fr, .int .i64 wd, .int .i64 cu, .slice ba bl.length bc], .pointer (some ⟨H, 0, none⟩), .int .i64 0, .pointer (some ⟨H + 1, 0, none⟩), .agg #[.int .i64 fr, .int .i64 wd, .int .i64 cu, .slice ba bl.length bc],
      .func (.func 54) #[] #[.pointer (some ⟨H + 2, 0, none⟩)], .int .i64 x.1.1, aggI x.1.2, undef, undef, undef], defers := [] }) ?assign ?body ?done ?stop
  case assign =>
    intro l x W K hK
    have hsa := @Oper.semAt_some
    dsimp only [penc]
    gi_wp2
    exact Eq.mp (congrArg (fun t => K { tmps := t, defers := [] } W) (by simp)) hK
  case body =>
    rintro ll pre x W ⟨hc, hUw, hHw⟩ hpl
    have hsa := @Oper.semAt_some
    have d0 : W.cell? ⟨H + 1, 0, none⟩ = some (.int .i64 (pre.length : Nat)) := cell_block hc 0
    have z0 := free_block hc 0
    have hw1 : IntKind.i64.wrap ((pre.length : Int) + 1) = (pre.length : Int) + 1 := by rw [IntKind.wrap_i64]; omega
    have HC := Lib.hid hc; have HUw := Lib.hid hUw
    clear hc hUw
    gi_wp2
    have hU := upd_set1 W (H + 1) 0 (.int .i64 ((pre.length : Int) + 1))
    refine ⟨hU.keepsFrom (by simp; omega), fun h => h.keep1 hU (by omega) havC, ?_, HUw.out.new hU (by omega), Nat.le_trans hHw hU.size⟩
    rw [setCell_block HC.out, List.length_append, List.length_singleton]
    simp
  case done =>
    rintro D ys W hD hS ⟨hc, hUw, hHw⟩ hK
    have hlen := HPL.out ys hS
    rw [hlen] at hc
    have d0 : W.cell? ⟨H + 1, 0, none⟩ = some (.int .i64 (M : Nat)) := cell_block hc 0
    have HUw := Lib.hid hUw; have HK := Lib.hid hK
    clear hc hUw hK hS hlen
    go_wp2_with fail
    refine ⟨by simp, .inl ⟨_, _, rfl, run_takeDeferred HK.out, ?_⟩⟩
    refine ⟨.int .i64 (M : Nat), ?_, rfl, HUw.out.putObj (by omega) _⟩
    simp [results, Try.f21, go_sem]
  case stop =>
    rintro D c pre W hD hS hX hK
    exact hX.elim
end Go.Proofs.Ytneodiemgemhfaa
