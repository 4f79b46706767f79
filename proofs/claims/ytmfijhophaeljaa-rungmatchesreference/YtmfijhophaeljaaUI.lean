/- Contracts: item and Small of the laws; a rung kept in a box of the caller's own. -/
import Derived.Test.YtmfijhophaeljaaUH
namespace Go.Proofs.Ytmfijhophaeljaa
open Go.RowKit Go.Lib

def aggO (o : Oz) : Value := .agg #[.bool o.n, .int .u64 o.a, .int .i64 o.q]
def LO : Lay Oz := ⟨3, fun x => [.bool x.n, .int .u64 x.a, .int .i64 x.q], fun _ => rfl, fun x v hv => by
  simp only [List.mem_cons, List.not_mem_nil, or_false] at hv
  rcases hv with rfl | rfl | rfl <;> rfl, by decide⟩
def U64 (x : Int) : Prop := 0 ≤ x ∧ x < 18446744073709551616
set_option maxHeartbeats 4000000 in
theorem item_has (r : RgR) (o : Oz) (w : World) (hg : GoodR r.rg) (ho : U64 o.a) :
    Calls Try.prog 11 #[encR r, aggO o] w fun e w' => e = .returned (aggI (itemR r.rg o)) ∧ Upd [] w w' := by
  have HCE := Lib.hid (fun W => REnd_has r W hg)
  obtain ⟨fr, wd, cu, bl, ba, bc⟩ := r
  obtain ⟨on, oa, oq⟩ := o
  have h2 := hg.fr0; have h3 := hg.fr1; have h4 := hg.wd1; have h5 := hg.wd0
  obtain ⟨ho0, ho1⟩ := ho
  simp only [RgR.rg] at h2 h3 h4 h5
  simp only at ho0 ho1
  obtain ⟨x, hx⟩ : ∃ x, x = fr + oa % (8 * wd + 3) - 1 := ⟨_, rfl⟩
  have HI : Hid (aggI (itemR (⟨fr, wd, cu, ⟨bl, ba, bc⟩⟩ : RgR).rg ⟨on, oa, oq⟩) = .agg #[.int .i64 x, .int .i64 oq, .int .i64 0]) := by
    show _ = _
    rw [hx]; rfl
  rw [HI.out]
  unfold encR at HCE ⊢
  unfold aggO
  unfold endT at HCE
  simp only [RgR.rg] at HCE ⊢
  have m0 := Int.emod_nonneg oa (show 8 * wd + 3 ≠ 0 by omega)
  have m1 := Int.emod_lt_of_pos oa (show 0 < 8 * wd + 3 by omega)
  have w1 : IntKind.i64.wrap (fr + 8 * wd - fr) = 8 * wd := by rw [IntKind.wrap_i64]; omega
  have w2 : IntKind.i64.wrap (8 * wd + 3) = 8 * wd + 3 := by rw [IntKind.wrap_i64]; omega
  have w3 : IntKind.u64.wrap (8 * wd + 3) = 8 * wd + 3 := by rw [IntKind.wrap_u64]; omega
  have w4 : IntKind.u64.wrap (oa % (8 * wd + 3)) = oa % (8 * wd + 3) := by rw [IntKind.wrap_u64]; omega
  have w5 : IntKind.i64.wrap (oa % (8 * wd + 3)) = oa % (8 * wd + 3) := by rw [IntKind.wrap_i64]; omega
  have w6 : IntKind.i64.wrap (fr + oa % (8 * wd + 3)) = fr + oa % (8 * wd + 3) := by rw [IntKind.wrap_i64]; omega
  have w7 : IntKind.i64.wrap (fr + oa % (8 * wd + 3) - 1) = x := by rw [IntKind.wrap_i64]; omega
  have w8 : oa.tmod (8 * wd + 3) = oa % (8 * wd + 3) := Int.tmod_eq_emod_of_nonneg ho0
  have w9 : ((8 * wd + 3) == 0) = false := by simp; omega
  have w10 : ¬ (8 * wd + 3 = 0) := by omega
  have HX := Lib.hid hx
  clear hg hx HI
  generalize bl.length = n at *
  go_enter Try.func11, Try.ntmps11
  go_upto_region 1 with (fail)
  generalize hA : (Obj.cells #[.int .i64 fr, .int .i64 wd, .int .i64 cu, .slice ba n bc] 24 : Obj) = A
  generalize hB : (Obj.cells #[.bool on, .int .u64 oa, .int .i64 oq] 28 : Obj) = B
  generalize hC : (Obj.cells #[.int .i64 0, .int .i64 0, .int .i64 0] 33 : Obj) = C
  obtain ⟨hu, b0, b1, b2, hsz⟩ := three_boxes w A B C
  generalize ((w.alloc A).alloc B).alloc C = W at *
  generalize hH : w.heap.size = H at *
  rw [← hA] at b0
  rw [← hB] at b1
  rw [← hC] at b2
  have HU := Lib.hid hu; have HB0 := Lib.hid b0; have HB1 := Lib.hid b1; have HB2 := Lib.hid b2; have HH := Lib.hid hH
  obtain ⟨c0, c1, c2, c3⟩ := cells4 b0
  clear hu hA hB hC b0 b1 b2 hH hsz
  have k0 := kept_at c0; have k1 := kept_at c1; have k2 := kept_at c2; have k3 := kept_at c3
  clear c0 c1 c2 c3
  refine wp_region_quiet_kept mixed (by kernel_rfl) ?_
  repeat (go_big_quiet_step (first | (go_at_call 29; exact calls_kept (HCE.out _))))
  refine wpQuiet_nil ?_
  intro W3 hw'
  obtain ⟨⟨Wx, hu⟩, hw''⟩ := hw'
  simp only at hw''
  subst hw''
  clear k0 k1 k2 k3
  have HU2 := Lib.hid hu
  obtain ⟨c0, c1, c2, c3⟩ := cells4 (hu.at HB0.out (by simp))
  obtain ⟨d0, d1, d2⟩ := cells3 (hu.at HB1.out (by simp))
  have q2 := hu.at HB2.out (by simp)
  have HQ2 := Lib.hid q2
  clear c1 c2 c3 hu q2
  go_upto_region 2 with (fail)
  go_quiet (fail)
  have HU3 : Hid (Upd [] w (W3.drewN nq)) := (HU.out.thn HU2.out).drewN nq
  have q2 : (W3.drewN nq).heap[H + 1 + 1]? = some (.cells #[.int .i64 0, .int .i64 0, .int .i64 0] 33 (0, 0)) := HQ2.out
  have d2' : (W3.drewN nq).cell? ⟨H + 1, 2, none⟩ = some (.int .i64 oq) := d2
  clear c0 d0 d1 d2 HQ2
  generalize W3.drewN nq = W4 at *
  have HQ2 := Lib.hid q2
  obtain ⟨e0, e1, e2⟩ := cells3 q2
  obtain ⟨z0, z1, z2⟩ := free3 q2
  clear q2
  go_wp2_with fail
  have p2 := stored3 HQ2.out (.int .i64 x) (.int .i64 oq) (.int .i64 0)
  have hU5 := upd_set3 W4 (H + 1 + 1) (.int .i64 x) (.int .i64 oq) (.int .i64 0)
  generalize ((W4.setCell ⟨H + 1 + 1, 0, none⟩ (.int .i64 x)).setCell ⟨H + 1 + 1, 1, none⟩ (.int .i64 oq)).setCell ⟨H + 1 + 1, 2, none⟩ (.int .i64 0) = w4 at p2 hU5 ⊢
  obtain ⟨r0, r1, r2⟩ := cells3 p2
  have hh := HH.out
  exact bodyPost_ret (v := .agg #[.int .i64 x, .int .i64 oq, .int .i64 0]) (by simp [results, Try.results11, go_sem, r0, r1, r2]) rfl ⟨rfl, HU3.out.new hU5 (by omega)⟩

/-- The box Q holds the rung r', which a call made out of r. -/
structure Boxed (w : World) (r : RgR) (g : Rg) (Q : Nat) (wx : World) (r' : RgR) : Prop where
  blk : wx.heap[Q]? = some (.cells (cellsR r') 24 (0, 0))
  ge : w.heap.size ≤ Q
  nxt : Nxt w r g wx r'
  av : AvR r' Q
theorem boxed_last {w w1 w4 : World} {r r' : RgR} {g : Rg} (h : Nxt w1 r g w4 r') (hu : Upd [] w w1) : Boxed w r g w4.heap.size (w4.alloc (.cells (cellsR r') 24)) r' :=
  ⟨heap_alloc1 _ _, Nat.le_trans hu.size h.upd.size, (h.of_upd hu).up ((Upd.refl _ _).alloc _), h.has.avoids (Nat.le_refl _)⟩
theorem boxed_at {w w1 w4 : World} {r r' : RgR} {g : Rg} {Q : Nat} {x y z p : Value} (hr : HasR w r) (hQ : w1.heap[Q]? = some (.cells #[x, y, z, p] 24 (0, 0))) (h : Nxt w1 r g w4 r') (hu : Upd [] w w1) (hge : w.heap.size ≤ Q) :
    Boxed w r g Q ((((w4.setCell ⟨Q, 0, none⟩ (.int .i64 r'.fr)).setCell ⟨Q, 1, none⟩ (.int .i64 r'.wd)).setCell ⟨Q, 2, none⟩ (.int .i64 r'.cu)).setCell ⟨Q, 3, none⟩ (.slice r'.bk.ad r'.bk.l.length r'.bk.cap)) r' := by
  have h1 := h.upd.at hQ (by simp)
  have h2 := upd_set4 w4 Q (.int .i64 r'.fr) (.int .i64 r'.wd) (.int .i64 r'.cu) (.slice r'.bk.ad r'.bk.l.length r'.bk.cap)
  have h3 := h.av Q (lt_block hQ) (hr.avoids hge)
  exact ⟨stored4 h1 _ _ _ _, hge, ⟨h.eq, h.has.keep1 h2 h3, fun b hb ha => h.av b (by have := hu.size; omega) ha, (hu.thn h.upd).new h2 hge⟩, h3⟩
end Go.Proofs.Ytmfijhophaeljaa
