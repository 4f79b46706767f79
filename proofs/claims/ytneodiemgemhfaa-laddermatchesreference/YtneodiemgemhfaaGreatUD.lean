/- Contracts: the reference's Start, Index, Current, End, Len, New. -/
/- Contracts: the reference's SameItems and Same. -/
import Derived.Test.YtneodiemgemhfaaGreatGD
import Derived.Laws.StructEq
namespace Go.Proofs.YtneodiemgemhfaaGreat
open Go.RowKit Go.Lib

set_option maxRecDepth 100000 in
set_option maxHeartbeats 400000 in
theorem RStart_in (f n i : Int) (hf : 0 ≤ f ∧ f ≤ 1152921504606846976) (hp : 0 ≤ i * n ∧ i * n ≤ 4611686018427387904) (w : World) :
    Calls Tryz.prog 54 #[.int .i64 f, .int .i64 n, .int .i64 i] w fun e w' => e = .returned (.int .i64 (f + i * n)) ∧ w = w' := by
  have hs : IntKind.i64.wrap (i * n) = i * n := by rw [IntKind.wrap_i64]; omega
  have ht : IntKind.i64.wrap (f + i * n) = f + i * n := by rw [IntKind.wrap_i64]; omega
  go_enter Tryz.func54, Tryz.ntmps54
  go_wp2_with fail
  go_ret
  exact ⟨rfl, rfl⟩
set_option maxRecDepth 100000 in
set_option maxHeartbeats 400000 in
theorem RIndex_in (f n t : Int) (hf : 0 ≤ f) (h : f ≤ t) (ht : t ≤ 4611686018427387904) (hn : 1 ≤ n ∧ n ≤ 4611686018427387904) (w : World) :
    Calls Tryz.prog 75 #[.int .i64 f, .int .i64 n, .int .i64 t] w fun e w' => e = .returned (.int .i64 ((t - f) / n)) ∧ w = w' := by
  have hs : IntKind.i64.wrap (t - f) = t - f := by rw [IntKind.wrap_i64]; omega
  have hz : (n == 0) = false := by simp; omega
  have hd : (t - f).tdiv n = (t - f) / n := Int.tdiv_eq_ediv_of_nonneg (by omega)
  have b0 : 0 ≤ (t - f) / n := Int.ediv_nonneg (by omega) (by omega)
  have b1 : (t - f) / n ≤ t - f := Int.ediv_le_self _ (by omega)
  have hr : IntKind.i64.wrap ((t - f) / n) = (t - f) / n := by rw [IntKind.wrap_i64]; omega
  go_enter Tryz.func75, Tryz.ntmps75
  go_wp2_with fail
  go_ret
  exact ⟨rfl, rfl⟩

set_option maxRecDepth 100000 in
set_option maxHeartbeats 400000 in
theorem RCurrent_has (r : RgR) (w : World) (hg : GoodR r.rg) :
    Calls Tryz.prog 29 #[encR r] w fun e w' => e = .returned (.int .i64 (curT r.rg)) ∧ Upd [] w w' := by
  obtain ⟨fr, wd, cu, bl, ba, bc⟩ := r
  have h1 := hg.prod hg.cu0 hg.cu1
  have h2 := hg.fr0; have h3 := hg.fr1; have h4 := hg.wd1
  simp only [RgR.rg] at h1 h2 h3 h4
  have E1 := Lib.hid (RStart_in fr wd cu (by omega) (by omega))
  unfold encR curT
  simp only [RgR.rg]
  generalize bl.length = n
  clear hg h1 h2 h3 h4
  go_enter Tryz.func29, Tryz.ntmps29
  go_upto_region 1 with (fail)
  have hu := (Upd.refl [] w).alloc (.cells #[.int .i64 fr, .int .i64 wd, .int .i64 cu, .slice ba n bc] 53)
  obtain ⟨c0, c1, c2, c3⟩ := cells4 (heap_alloc1 w (.cells #[.int .i64 fr, .int .i64 wd, .int .i64 cu, .slice ba n bc] 53))
  generalize w.alloc (.cells #[.int .i64 fr, .int .i64 wd, .int .i64 cu, .slice ba n bc] 53) = W at *
  generalize w.heap.size = P at *
  go_wp2_with fail
  (with_reducible refine (E1.out _).mono ?_)
  rintro e w' ⟨rfl, rfl⟩
  go_wp2_with fail
  go_ret
  exact ⟨rfl, hu⟩
set_option maxRecDepth 100000 in
set_option maxHeartbeats 400000 in
theorem REnd_has (r : RgR) (w : World) (hg : GoodR r.rg) :
    Calls Tryz.prog 42 #[encR r] w fun e w' => e = .returned (.int .i64 (endT r.rg)) ∧ Upd [] w w' := by
  obtain ⟨fr, wd, cu, bl, ba, bc⟩ := r
  have h2 := hg.fr0; have h3 := hg.fr1; have h4 := hg.wd1; have h5 := hg.wd0
  simp only [RgR.rg] at h2 h3 h4 h5
  have E1 := Lib.hid (RStart_in fr wd 8 (by omega) (by omega))
  unfold encR endT
  simp only [RgR.rg]
  generalize bl.length = n
  clear hg h2 h3 h4
  go_enter Tryz.func42, Tryz.ntmps42
  go_upto_region 1 with (fail)
  have hu := (Upd.refl [] w).alloc (.cells #[.int .i64 fr, .int .i64 wd, .int .i64 cu, .slice ba n bc] 53)
  obtain ⟨c0, c1, c2, c3⟩ := cells4 (heap_alloc1 w (.cells #[.int .i64 fr, .int .i64 wd, .int .i64 cu, .slice ba n bc] 53))
  generalize w.alloc (.cells #[.int .i64 fr, .int .i64 wd, .int .i64 cu, .slice ba n bc] 53) = W at *
  generalize w.heap.size = P at *
  go_wp2_with fail
  (with_reducible refine (E1.out _).mono ?_)
  rintro e w' ⟨rfl, rfl⟩
  go_wp2_with fail
  go_ret
  exact ⟨rfl, hu⟩

set_option maxRecDepth 100000 in
set_option maxHeartbeats 2000000 in
theorem RLen_has (r : RgR) (w : World) (h : HasR w r) (hl : r.bk.l.length ≤ 1000000) (hs : lenL r.rg.bs ≤ 1000000) :
    Calls Tryz.prog 30 #[encR r] w fun e w' => e = .returned (.int .i64 (lenL r.rg.bs : Nat)) ∧ Upd [] w w' := by
  obtain ⟨fr, wd, cu, bl, ba, bc⟩ := r
  have HB := Lib.hid h.bk.row
  have HLT : Hid (∀ k, k ≤ bl.length → lenTo (rowsOf bl) k ≤ 1000000) := fun k _ => Nat.le_trans (lenTo_le _ _) hs
  have HST : Hid (∀ k (h : k < bl.length), lenTo (rowsOf bl) (k + 1) = lenTo (rowsOf bl) k + bl[k].l.length) := fun k hk => by
    rw [lenTo_succ (by rw [rowsOf_length]; exact hk), rowsOf_get hk]
  have HAL : Hid (lenL (rowsOf bl) = lenTo (rowsOf bl) bl.length) := by
    show _ = _
    rw [← lenTo_all, rowsOf_length]
  simp only at hl HB
  unfold encR
  simp only [RgR.rg]
  clear h hs
  obtain ⟨n, hn⟩ : ∃ n, n = bl.length := ⟨_, rfl⟩
  rw [← hn] at hl HLT HAL ⊢
  have HN := Lib.hid hn
  clear hn
  rw [HAL.out]
  have HF0 : Hid (lenTo (rowsOf bl) 0 = 0) := lenTo_zero _
  generalize lenTo (rowsOf bl) = f at *
  clear HAL
  go_enter Tryz.func30, Tryz.ntmps30
  go_upto_region 1 with (fail)
  have hu := (Upd.refl [] w).alloc (.cells #[.int .i64 fr, .int .i64 wd, .int .i64 cu, .slice ba n bc] 53)
  obtain ⟨c0, c1, c2, c3⟩ := cells4 (heap_alloc1 w (.cells #[.int .i64 fr, .int .i64 wd, .int .i64 cu, .slice ba n bc] 53))
  generalize w.alloc (.cells #[.int .i64 fr, .int .i64 wd, .int .i64 cu, .slice ba n bc] 53) = W at *
  generalize w.heap.size = P at *
  have HU := Lib.hid hu
  have HB := Lib.hid (HB.out.stay hu)
  clear hu c0 c1 c2
  go_wp2_with fail
  go_loopg [3, 4] n (fun gk vc vi wr => ∃ k : Nat, vi = .int .i64 k ∧ vc = .int .i64 (f k : Nat) ∧ k + gk = n ∧ W = wr)
  case atStart => exact ⟨0, rfl, by rw [HF0.out]; rfl, by omega, rfl⟩
  case round =>
    obtain ⟨k, rfl, rfl, hkg, rfl⟩ := hrel
    have hle := HLT.out k (by omega)
    by_cases hlt : k < n
    · have hltz : (k : Int) < (n : Int) := by omega
      have hk1 : k < bl.length := by have := HN.out; omega
      have HS := Lib.hid (HST.out k hk1)
      have hle2 := HLT.out (k + 1) (by omega)
      rw [HS.out] at hle2
      obtain ⟨b1, o1, rfl, c1⟩ := HB.out.bucket k hk1
      generalize bl[k].l.length = m at *
      generalize bl[k].ad = am at *
      generalize bl[k].cap = cm at *
      have hw : IntKind.i64.wrap ((f k : Int) + (m : Int)) = (f k : Int) + (m : Int) := by rw [IntKind.wrap_i64]; omega
      generalize f k = fk at *
      go_wp2_with fail
      go_roundg (gk - 1)
      case measure => omega
      case rel => exact ⟨k + 1, by go_num, by rw [HS.out]; go_num, by omega, rfl⟩
    · have hltz : ¬ (k : Int) < (n : Int) := by omega
      obtain rfl : k = n := by omega
      go_wp2_with fail
      go_ret
      exact ⟨rfl, HU.out⟩

set_option maxRecDepth 100000 in
set_option maxHeartbeats 2000000 in
theorem RNew_has (f d : Int) (w : World) :
    Calls Tryz.prog 102 #[.int .i64 f, .int .i64 d] w fun e w' => ∃ r', e = .returned (encR r') ∧ Born w (newR f d) w' r' := by
  have hmk : ∀ w : World, (Instr.makeSlice 51 (.int .i64 8) (.int .i64 8)).run Tryz.prog w = .ok (.slice (some ⟨w.heap.size, 0, none⟩) 8 8) (w.alloc (.cells (List.replicate 8 (Value.slice none 0 0)).toArray 22)) := mkAny 51 22 (.slice none 0 0) 1 24 Tryz.underlying51 infoItems 8 (by decide) (by decide) _ (madeOne _ 8)
  generalize hX : (List.replicate 8 (Value.slice none 0 0)).toArray = X at hmk
  have HX := Lib.hid hX
  clear hX
  go_enter Tryz.func102, Tryz.ntmps102
  go_upto_region 1 with (fail)
  have b0 := heap_alloc1 w (.cells #[.int .i64 0, .int .i64 0, .int .i64 0, .slice none 0 0] 53)
  have hu := (Upd.refl [] w).alloc (.cells #[.int .i64 0, .int .i64 0, .int .i64 0, .slice none 0 0] 53)
  have hs0 : (w.alloc (.cells #[.int .i64 0, .int .i64 0, .int .i64 0, .slice none 0 0] 53)).heap.size = w.heap.size + 1 := by simp
  generalize w.alloc (.cells #[.int .i64 0, .int .i64 0, .int .i64 0, .slice none 0 0] 53) = W at *
  generalize hP : w.heap.size = P at *
  have b1 := heap_alloc1 W (.cells X 22)
  have hu1 := (Upd.refl [] W).alloc (.cells X 22)
  have b2 := hu1.at b0 (by simp)
  obtain ⟨c0, c1, c2, c3⟩ := cells4 b2
  obtain ⟨z0, z1, z2, z3⟩ := free4 b2
  have HB1 := Lib.hid b1; have HU1 := Lib.hid hu1; have HB2 := Lib.hid b2; have HU := Lib.hid hu; have HP := Lib.hid hP; have HS0 := Lib.hid hs0
  clear b0 b1 hu1 b2 hu hP hs0
  go_wp2_with fail
  clear c0 c1 c2 c3 z0 z1 z2 z3
  generalize W.alloc (.cells X 22) = W1 at *
  generalize W.heap.size = g at *
  have p2 := stored4 HB2.out (.int .i64 f) (.int .i64 d) (.int .i64 0) (.slice (some ⟨g, 0, none⟩) 8 8)
  have hU5 := upd_set4 W1 P (.int .i64 f) (.int .i64 d) (.int .i64 0) (.slice (some ⟨g, 0, none⟩) 8 8)
  generalize (((W1.setCell ⟨P, 0, none⟩ (.int .i64 f)).setCell ⟨P, 1, none⟩ (.int .i64 d)).setCell ⟨P, 2, none⟩ (.int .i64 0)).setCell ⟨P, 3, none⟩ (.slice (some ⟨g, 0, none⟩) 8 8) = w4 at p2 hU5 ⊢
  obtain ⟨r0, r1, r2, r3⟩ := cells4 p2
  have hp := HP.out
  have hs := HS0.out
  have b1 := HB1.out
  rw [← HX.out] at b1
  have hh := ((held_made b1).keep hU5 (by simp; omega)).has
  exact bodyPost_ret (v := .agg #[.int .i64 f, .int .i64 d, .int .i64 0, .slice (some ⟨g, 0, none⟩) 8 8]) (by simp [results, Tryz.results102, go_sem, r0, r1, r2, r3]) rfl
    ⟨⟨f, d, 0, ⟨List.replicate 8 nilB, some ⟨g, 0, none⟩, 8⟩⟩, rfl, rfl, ⟨hh, fun s hs => by rw [(List.mem_replicate.1 hs).2]; exact hasS_nil LI _⟩,
      fun b hb => ⟨fun _ a e => by obtain rfl := Option.some.inj e; simp only; omega, fun s hs => by rw [(List.mem_replicate.1 hs).2]; exact avS_nil b _ _⟩, (HU.out.thn HU1.out).new hU5 (by omega)⟩
end Go.Proofs.YtneodiemgemhfaaGreat
namespace Go.Proofs.YtneodiemgemhfaaGreat
open Go.RowKit Go.Lib

set_option maxRecDepth 100000 in
set_option maxHeartbeats 2000000 in
theorem SameItems_has (a b : SlR It) (w : World) (ha : Row LI w a.ad a.l) (hb : Row LI w b.ad b.l) (hl : a.l.length ≤ 1000000) :
    Calls Tryz.prog 28 #[.slice a.ad a.l.length a.cap, .slice b.ad b.l.length b.cap] w fun e w' => e = .returned (.bool (decide (a.l = b.l))) ∧ Upd [] w w' := by
  obtain ⟨l1, a1, c1⟩ := a
  obtain ⟨l2, a2, c2⟩ := b
  obtain ⟨res, hres⟩ : ∃ b, b = decide (l1 = l2) := ⟨_, rfl⟩
  have HRES := Lib.hid hres
  have HA := Lib.hid ha; have HB := Lib.hid hb
  simp only at hl HA HB ⊢
  rw [← hres]
  clear hres ha hb
  generalize hn1 : l1.length = n1 at hl ⊢
  generalize hn2 : l2.length = n2
  have HN1 := Lib.hid hn1; have HN2 := Lib.hid hn2
  clear hn1 hn2
  by_cases hn : n1 = n2
  · subst hn
    have HR0 : Hid (res = decide (l1.drop 0 = l2.drop 0)) := by
      show res = _
      rw [HRES.out, List.drop_zero, List.drop_zero]
    go_enter Tryz.func28, Tryz.ntmps28
    go_wp2_with fail
    go_loopg [5] n1 (fun gk vi wr => ∃ k : Nat, vi = .int .i64 k ∧ k + gk = n1 ∧ Hid (res = decide (l1.drop k = l2.drop k)) ∧ Hid (Upd [] w wr))
    case atStart => exact ⟨0, rfl, by omega, HR0, Lib.hid (Upd.refl _ _)⟩
    case round =>
      obtain ⟨k, rfl, hkg, HK, HUR⟩ := hrel
      by_cases hlt : k < n1
      · have hltz : (k : Int) < (n1 : Int) := by omega
        have hk1 : k < l1.length := by have := HN1.out; omega
        have hk2 : k < l2.length := by have := HN2.out; omega
        obtain ⟨b1, o1, rfl, k0, k1, k2⟩ := (HA.out.stay HUR.out).item k hk1
        obtain ⟨b2, o2, rfl, j0, j1, j2⟩ := (HB.out.stay HUR.out).item k hk2
        have HKK : Hid (res = (decide (l1[k] = l2[k]) && decide (l1.drop (k + 1) = l2.drop (k + 1)))) := by
          show res = _
          rw [HK.out, drop_dec hk1 hk2]
        generalize l1[k] = y1 at *
        generalize l2[k] = y2 at *
        have hgd := guardItem
        have hq := neqItem y1 y2
        generalize decide (y1 = y2) = bq at hq HKK
        go_wp2_with fail
        go_quiet (fail)
        have HU2 : Hid (Upd [] w (wr.drewN nq)) := HUR.out.drewN nq
        generalize wr.drewN nq = w2 at HU2 ⊢
        clear k0 k1 k2 j0 j1 j2
        cases bq with
        | true =>
          go_wp2_with fail
          go_roundg (gk - 1)
          case measure => omega
          case rel => exact ⟨k + 1, by go_num, by omega, by rw [HKK.out]; exact Lib.hid rfl, HU2⟩
        | false =>
          go_wp2_with fail
          go_ret
          exact ⟨ret_bool (by rw [HKK.out]; rfl), HU2.out⟩
      · have hltz : ¬ (k : Int) < (n1 : Int) := by omega
        go_wp2_with fail
        go_ret
        exact ⟨ret_bool (by rw [HK.out, List.drop_eq_nil_of_le (by have := HN1.out; omega), List.drop_eq_nil_of_le (by have := HN2.out; omega)]; simp), HUR.out⟩
  · have hnb : ((n1 : Int) != (n2 : Int)) = true := by simp; omega
    have HNN := Lib.hid hn
    clear hn
    go_enter Tryz.func28, Tryz.ntmps28
    go_wp2_with fail
    go_ret
    exact ⟨ret_bool (by rw [HRES.out, decide_eq_false]; intro e; exact HNN.out (by rw [← HN1.out, ← HN2.out, e])), Upd.refl _ _⟩

set_option maxRecDepth 100000 in
set_option maxHeartbeats 4000000 in
theorem Same_has (r s : RgR) (w : World) (hr : HasR w r) (hs : HasR w s) (hb1 : r.bk.l.length ≤ 1000000) (hb2 : ∀ b ∈ r.bk.l, b.l.length ≤ 1000000) :
    Calls Tryz.prog 43 #[encR r, encR s] w fun e w' => e = .returned (.bool (decide (r.rg = s.rg))) ∧ Upd [] w w' := by
  obtain ⟨res, hres⟩ : ∃ b, b = decide (r.rg = s.rg) := ⟨_, rfl⟩
  have HRES := Lib.hid hres
  rw [← hres]
  clear hres
  obtain ⟨f1, d1, u1, l1, a1, c1⟩ := r
  obtain ⟨f2, d2, u2, l2, a2, c2⟩ := s
  have HR := Lib.hid hr; have HS := Lib.hid hs; have HB2 := Lib.hid hb2
  unfold encR
  simp only at hb1 HB2 ⊢
  clear hr hs hb2
  generalize hn1 : l1.length = n1 at hb1 ⊢
  generalize hn2 : l2.length = n2
  have HN1 := Lib.hid hn1; have HN2 := Lib.hid hn2
  clear hn1 hn2
  have hno : ¬ (f1 = f2 ∧ d1 = d2 ∧ u1 = u2 ∧ n1 = n2) → Hid (res = false) := fun h => by
    show res = false
    rw [HRES.out, decide_eq_false]
    intro e
    simp only [RgR.rg, Rg.mk.injEq] at e
    exact h ⟨e.1, e.2.1, e.2.2.1, by rw [← HN1.out, ← HN2.out, ← rowsOf_length l1, ← rowsOf_length l2, e.2.2.2]⟩
  go_enter Tryz.func43, Tryz.ntmps43
  go_upto_region 1 with (fail)
  generalize hA : (Obj.cells #[.int .i64 f1, .int .i64 d1, .int .i64 u1, .slice a1 n1 c1] 53 : Obj) = A
  generalize hB : (Obj.cells #[.int .i64 f2, .int .i64 d2, .int .i64 u2, .slice a2 n2 c2] 53 : Obj) = B
  obtain ⟨hu, b0, b1, hsz⟩ := two_boxes w A B
  generalize (w.alloc A).alloc B = W at *
  generalize w.heap.size = H at *
  rw [← hA] at b0
  rw [← hB] at b1
  have HU := Lib.hid hu
  obtain ⟨m0, m1, m2, m3⟩ := cells4 b0
  obtain ⟨e0, e1, e2, e3⟩ := cells4 b1
  clear hu hA hB b0 b1 hsz
  by_cases q1 : f1 = f2
  case neg =>
    have h1 : (f1 != f2) = true := by simpa using q1
    have HX := hno (by omega)
    clear q1 hno
    go_wp2_with fail
    go_ret
    exact ⟨ret_bool HX.out.symm, HU.out⟩
  have g1 : (f1 != f2) = false := by simpa using q1
  by_cases q2 : d1 = d2
  case neg =>
    have h1 : (d1 != d2) = true := by simpa using q2
    have HX := hno (by omega)
    clear q1 q2 hno
    go_wp2_with fail
    go_ret
    exact ⟨ret_bool HX.out.symm, HU.out⟩
  have g2 : (d1 != d2) = false := by simpa using q2
  by_cases q3 : u1 = u2
  case neg =>
    have h1 : (u1 != u2) = true := by simpa using q3
    have HX := hno (by omega)
    clear q1 q2 q3 hno
    go_wp2_with fail
    go_ret
    exact ⟨ret_bool HX.out.symm, HU.out⟩
  have g3 : (u1 != u2) = false := by simpa using q3
  by_cases q4 : n1 = n2
  case neg =>
    have h1 : ((n1 : Int) != (n2 : Int)) = true := by simp; omega
    have HX := hno (by omega)
    clear q1 q2 q3 q4 hno
    go_wp2_with fail
    go_ret
    exact ⟨ret_bool HX.out.symm, HU.out⟩
  subst q4
  have HR0 : Hid (res = decide ((rowsOf l1).drop 0 = (rowsOf l2).drop 0)) := by
    show res = _
    rw [HRES.out, List.drop_zero, List.drop_zero]
    exact decide_eq_decide.2 (by simp only [RgR.rg, Rg.mk.injEq]; exact ⟨fun h => h.2.2.2, fun h => ⟨q1, q2, q3, h⟩⟩)
  clear q1 q2 q3 hno
  go_wp2_with fail
  clear m0 m1 m2 e0 e1 e2 g1 g2 g3
  go_loopg [5] n1 (fun gk vi wr => ∃ k : Nat, vi = .int .i64 k ∧ k + gk = n1 ∧ Hid (res = decide ((rowsOf l1).drop k = (rowsOf l2).drop k)) ∧ Hid (Upd [] W wr))
  case atStart => exact ⟨0, rfl, by omega, HR0, Lib.hid (Upd.refl _ _)⟩
  case round =>
    obtain ⟨k, rfl, hkg, HK, HUR⟩ := hrel
    have HUW : Hid (Upd [] w wr) := HU.out.thn HUR.out
    have m3r := HUR.out.cell m3 (by simp)
    have e3r := HUR.out.cell e3 (by simp)
    by_cases hlt : k < n1
    · have hltz : (k : Int) < (n1 : Int) := by omega
      have hk1 : k < l1.length := by have := HN1.out; omega
      have hk2 : k < l2.length := by have := HN2.out; omega
      obtain ⟨b1, o1, hx1, k0⟩ := (HR.out.stay HUW.out).bk.row.bucket k hk1
      obtain ⟨b2, o2, hx2, j0⟩ := (HS.out.stay HUW.out).bk.row.bucket k hk2
      simp only at hx1 hx2 k0 j0
      subst hx1 hx2
      have HI1 := Lib.hid ((HR.out.stay HUW.out).at hk1).row
      have HI2 := Lib.hid ((HS.out.stay HUW.out).at hk2).row
      simp only at HI1 HI2
      have HKK : Hid (res = (decide (l1[k].l = l2[k].l) && decide ((rowsOf l1).drop (k + 1) = (rowsOf l2).drop (k + 1)))) := by
        show res = _
        rw [HK.out, drop_dec (by rw [rowsOf_length]; exact hk1) (by rw [rowsOf_length]; exact hk2), rowsOf_get hk1, rowsOf_get hk2]
      have hbk := HB2.out l1[k] (List.getElem_mem hk1)
      have HC : Hid (∀ W', Upd [] wr W' → Calls Tryz.prog 28 #[.slice l1[k].ad l1[k].l.length l1[k].cap, .slice l2[k].ad l2[k].l.length l2[k].cap] W' fun e w' => e = .returned (.bool (decide (l1[k].l = l2[k].l))) ∧ Upd [] W' w') := fun W' hu => SameItems_has l1[k] l2[k] W' (HI1.out.stay hu) (HI2.out.stay hu) hbk
      clear HI1 HI2 hbk
      generalize decide (l1[k].l = l2[k].l) = bq at HC HKK
      generalize l1[k].l.length = nn1 at *
      generalize l1[k].ad = ad1 at *
      generalize l1[k].cap = cp1 at *
      generalize l2[k].l.length = nn2 at *
      generalize l2[k].ad = ad2 at *
      generalize l2[k].cap = cp2 at *
      go_wp2_with fail
      have m3k := kept_at m3r; have e3k := kept_at e3r; have k0k := kept_at k0; have j0k := kept_at j0
      clear k0 j0 m3r e3r
      refine wp_region_quiet_kept mixed (by kernel_rfl) ?_
      repeat (go_big_quiet_step (first | (go_at_call 28; exact calls_kept (HC.out _ (Kept.up _)))))
      refine wpQuiet_nil ?_
      intro W3 hw'
      obtain ⟨⟨Wx, hu⟩, hw''⟩ := hw'
      simp only at hw''
      subst hw''
      have HU2 : Hid (Upd [] W W3) := HUR.out.thn hu
      clear m3k e3k k0k j0k hu
      cases bq with
      | true =>
        go_wp2_with fail
        go_roundg (gk - 1)
        case measure => omega
        case rel => exact ⟨k + 1, by go_num, by omega, by rw [HKK.out]; exact Lib.hid rfl, HU2⟩
      | false =>
        go_wp2_with fail
        go_ret
        exact ⟨ret_bool (by rw [HKK.out]; rfl), HU.out.thn HU2.out⟩
    · have hltz : ¬ (k : Int) < (n1 : Int) := by omega
      go_wp2_with fail
      go_ret
      exact ⟨ret_bool (by rw [HK.out, List.drop_eq_nil_of_le (by rw [rowsOf_length]; have := HN1.out; omega), List.drop_eq_nil_of_le (by rw [rowsOf_length]; have := HN2.out; omega)]; simp), HU.out.thn HUR.out⟩
end Go.Proofs.YtneodiemgemhfaaGreat
