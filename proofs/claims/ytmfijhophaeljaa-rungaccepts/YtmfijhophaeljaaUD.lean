/- Contracts: the reference's SameItems and Same. -/
import Derived.Test.YtmfijhophaeljaaUC
import Derived.Laws.StructEq
namespace Go.Proofs.Ytmfijhophaeljaa
open Go.RowKit Go.Lib

theorem guardItem : Try.prog.eqGuardType Try.prog.depth 33 = false := by kernel_rfl
theorem eqlItem (x y : It) (w : World) : (binOp .eql 33 (.agg #[.int .i64 x.t, .int .i64 x.q, .int .i64 x.s]) (.agg #[.int .i64 y.t, .int .i64 y.q, .int .i64 y.s])).run Try.prog w = .ok (.bool (decide (x = y))) w := by
  have u3 := Try.underlying3
  have a3 := Try.isAgg3
  have z3 := Try.sizeOf3
  have hS : Try.prog.underlying 33 = some (.struct (Try.prog.fieldsOf 33)) := by kernel_rfl
  have hp : Try.prog.stoodInHeld 33 = false := by kernel_rfl
  obtain ⟨t, q, s⟩ := x
  obtain ⟨t', q', s'⟩ := y
  rw [run_eql_struct, show (10000 : Nat) = 9999 + 1 from rfl, run_equalIn_agg w 9999 33 _ _ hS hp]
  simp only [Program.fieldsOf, Try.underlying33]
  go_simp
  by_cases h2 : s = s' <;> by_cases h3 : t = t' <;> by_cases h4 : q = q' <;> simp [h2, h3, h4]
theorem neqItem (x y : It) (w : World) : (binOp .neq 33 (.agg #[.int .i64 x.t, .int .i64 x.q, .int .i64 x.s]) (.agg #[.int .i64 y.t, .int .i64 y.q, .int .i64 y.s])).run Try.prog w = .ok (.bool (!decide (x = y))) w := by
  have h := eqlItem x y w
  rw [run_eql_struct] at h
  rw [run_neq_struct]
  generalize (Op.equalIn 10000 33 (.agg #[.int .i64 x.t, .int .i64 x.q, .int .i64 x.s]) (.agg #[.int .i64 y.t, .int .i64 y.q, .int .i64 y.s])).run Try.prog w = r at h ⊢
  cases r with
  | ok b w' => simp only [Result.andThen_ok, Result.ok.injEq, Value.bool.injEq] at h ⊢; obtain ⟨rfl, rfl⟩ := h; simp
  | halt e w' => simp [Result.andThen] at h

set_option maxHeartbeats 2000000 in
theorem SameItems_has (a b : SlR It) (w : World) (ha : Row LI w a.ad a.l) (hb : Row LI w b.ad b.l) (hl : a.l.length ≤ 1000000) :
    Calls Try.prog 23 #[.slice a.ad a.l.length a.cap, .slice b.ad b.l.length b.cap] w fun e w' => e = .returned (.bool (decide (a.l = b.l))) ∧ Upd [] w w' := by
  obtain ⟨l1, a1, c1⟩ := a
  obtain ⟨l2, a2, c2⟩ := b
  obtain ⟨res, hres⟩ : ∃ b, b = decide (l1 = l2) := ⟨_, rfl⟩
  have HRES := Lib.hid hres
  have HA := Lib.hid ha; have HB := Lib.hid hb
  simp only at hl HA HB ⊢
  rw [← hres]
  clear hres ha hb
  generalize hn1 : l1.length = n1 at hl ⊢
  generalize hn2 : l2.length = n2
  have HN1 := Lib.hid hn1; have HN2 := Lib.hid hn2
  clear hn1 hn2
  by_cases hn : n1 = n2
  · subst hn
    have HR0 : Hid (res = decide (l1.drop 0 = l2.drop 0)) := by
      show res = _
      rw [HRES.out, List.drop_zero, List.drop_zero]
    go_enter Try.func23, Try.ntmps23
    go_wp2_with fail
    go_loopg [5] n1 (fun gk vi wr => ∃ k : Nat, vi = .int .i64 k ∧ k + gk = n1 ∧ Hid (res = decide (l1.drop k = l2.drop k)) ∧ Hid (Upd [] w wr))
    case atStart => exact ⟨0, rfl, by omega, HR0, Lib.hid (Upd.refl _ _)⟩
    case round =>
      obtain ⟨k, rfl, hkg, HK, HUR⟩ := hrel
      by_cases hlt : k < n1
      · have hltz : (k : Int) < (n1 : Int) := by omega
        have hk1 : k < l1.length := by have := HN1.out; omega
        have hk2 : k < l2.length := by have := HN2.out; omega
        obtain ⟨b1, o1, rfl, k0, k1, k2⟩ := (HA.out.stay HUR.out).item k hk1
        obtain ⟨b2, o2, rfl, j0, j1, j2⟩ := (HB.out.stay HUR.out).item k hk2
        have HKK : Hid (res = (decide (l1[k] = l2[k]) && decide (l1.drop (k + 1) = l2.drop (k + 1)))) := by
          show res = _
          rw [HK.out, drop_dec hk1 hk2]
        generalize l1[k] = y1 at *
        generalize l2[k] = y2 at *
        have hgd := guardItem
        have hq := neqItem y1 y2
        generalize decide (y1 = y2) = bq at hq HKK
        go_wp2_with fail
        go_quiet (fail)
        have HU2 : Hid (Upd [] w (wr.drewN nq)) := HUR.out.drewN nq
        generalize wr.drewN nq = w2 at HU2 ⊢
        clear k0 k1 k2 j0 j1 j2
        cases bq with
        | true =>
          go_wp2_with fail
          go_roundg (gk - 1)
          case measure => omega
          case rel => exact ⟨k + 1, by go_num, by omega, by rw [HKK.out]; exact Lib.hid rfl, HU2⟩
        | false =>
          go_wp2_with fail
          go_ret
          exact ⟨ret_bool (by rw [HKK.out]; rfl), HU2.out⟩
      · have hltz : ¬ (k : Int) < (n1 : Int) := by omega
        go_wp2_with fail
        go_ret
        exact ⟨ret_bool (by rw [HK.out, List.drop_eq_nil_of_le (by have := HN1.out; omega), List.drop_eq_nil_of_le (by have := HN2.out; omega)]; simp), HUR.out⟩
  · have hnb : ((n1 : Int) != (n2 : Int)) = true := by simp; omega
    have HNN := Lib.hid hn
    clear hn
    go_enter Try.func23, Try.ntmps23
    go_wp2_with fail
    go_ret
    exact ⟨ret_bool (by rw [HRES.out, decide_eq_false]; intro e; exact HNN.out (by rw [← HN1.out, ← HN2.out, e])), Upd.refl _ _⟩

set_option maxHeartbeats 4000000 in
theorem Same_has (r s : RgR) (w : World) (hr : HasR w r) (hs : HasR w s) (hb1 : r.bk.l.length ≤ 1000000) (hb2 : ∀ b ∈ r.bk.l, b.l.length ≤ 1000000) :
    Calls Try.prog 21 #[encR r, encR s] w fun e w' => e = .returned (.bool (decide (r.rg = s.rg))) ∧ Upd [] w w' := by
  obtain ⟨res, hres⟩ : ∃ b, b = decide (r.rg = s.rg) := ⟨_, rfl⟩
  have HRES := Lib.hid hres
  rw [← hres]
  clear hres
  obtain ⟨f1, d1, u1, l1, a1, c1⟩ := r
  obtain ⟨f2, d2, u2, l2, a2, c2⟩ := s
  have HR := Lib.hid hr; have HS := Lib.hid hs; have HB2 := Lib.hid hb2
  unfold encR
  simp only at hb1 HB2 ⊢
  clear hr hs hb2
  generalize hn1 : l1.length = n1 at hb1 ⊢
  generalize hn2 : l2.length = n2
  have HN1 := Lib.hid hn1; have HN2 := Lib.hid hn2
  clear hn1 hn2
  have hno : ¬ (f1 = f2 ∧ d1 = d2 ∧ u1 = u2 ∧ n1 = n2) → Hid (res = false) := fun h => by
    show res = false
    rw [HRES.out, decide_eq_false]
    intro e
    simp only [RgR.rg, Rg.mk.injEq] at e
    exact h ⟨e.1, e.2.1, e.2.2.1, by rw [← HN1.out, ← HN2.out, ← rowsOf_length l1, ← rowsOf_length l2, e.2.2.2]⟩
  go_enter Try.func21, Try.ntmps21
  go_upto_region 1 with (fail)
  generalize hA : (Obj.cells #[.int .i64 f1, .int .i64 d1, .int .i64 u1, .slice a1 n1 c1] 24 : Obj) = A
  generalize hB : (Obj.cells #[.int .i64 f2, .int .i64 d2, .int .i64 u2, .slice a2 n2 c2] 24 : Obj) = B
  obtain ⟨hu, b0, b1, hsz⟩ := two_boxes w A B
  generalize (w.alloc A).alloc B = W at *
  generalize w.heap.size = H at *
  rw [← hA] at b0
  rw [← hB] at b1
  have HU := Lib.hid hu
  obtain ⟨m0, m1, m2, m3⟩ := cells4 b0
  obtain ⟨e0, e1, e2, e3⟩ := cells4 b1
  clear hu hA hB b0 b1 hsz
  by_cases q1 : f1 = f2
  case neg =>
    have h1 : (f1 != f2) = true := by simpa using q1
    have HX := hno (by omega)
    clear q1 hno
    go_wp2_with fail
    go_ret
    exact ⟨ret_bool HX.out.symm, HU.out⟩
  have g1 : (f1 != f2) = false := by simpa using q1
  by_cases q2 : d1 = d2
  case neg =>
    have h1 : (d1 != d2) = true := by simpa using q2
    have HX := hno (by omega)
    clear q1 q2 hno
    go_wp2_with fail
    go_ret
    exact ⟨ret_bool HX.out.symm, HU.out⟩
  have g2 : (d1 != d2) = false := by simpa using q2
  by_cases q3 : u1 = u2
  case neg =>
    have h1 : (u1 != u2) = true := by simpa using q3
    have HX := hno (by omega)
    clear q1 q2 q3 hno
    go_wp2_with fail
    go_ret
    exact ⟨ret_bool HX.out.symm, HU.out⟩
  have g3 : (u1 != u2) = false := by simpa using q3
  by_cases q4 : n1 = n2
  case neg =>
    have h1 : ((n1 : Int) != (n2 : Int)) = true := by simp; omega
    have HX := hno (by omega)
    clear q1 q2 q3 q4 hno
    go_wp2_with fail
    go_ret
    exact ⟨ret_bool HX.out.symm, HU.out⟩
  subst q4
  have HR0 : Hid (res = decide ((rowsOf l1).drop 0 = (rowsOf l2).drop 0)) := by
    show res = _
    rw [HRES.out, List.drop_zero, List.drop_zero]
    exact decide_eq_decide.2 (by simp only [RgR.rg, Rg.mk.injEq]; exact ⟨fun h => h.2.2.2, fun h => ⟨q1, q2, q3, h⟩⟩)
  clear q1 q2 q3 hno
  go_wp2_with fail
  clear m0 m1 m2 e0 e1 e2 g1 g2 g3
  go_loopg [5] n1 (fun gk vi wr => ∃ k : Nat, vi = .int .i64 k ∧ k + gk = n1 ∧ Hid (res = decide ((rowsOf l1).drop k = (rowsOf l2).drop k)) ∧ Hid (Upd [] W wr))
  case atStart => exact ⟨0, rfl, by omega, HR0, Lib.hid (Upd.refl _ _)⟩
  case round =>
    obtain ⟨k, rfl, hkg, HK, HUR⟩ := hrel
    have HUW : Hid (Upd [] w wr) := HU.out.thn HUR.out
    have m3r := HUR.out.cell m3 (by simp)
    have e3r := HUR.out.cell e3 (by simp)
    by_cases hlt : k < n1
    · have hltz : (k : Int) < (n1 : Int) := by omega
      have hk1 : k < l1.length := by have := HN1.out; omega
      have hk2 : k < l2.length := by have := HN2.out; omega
      obtain ⟨b1, o1, hx1, k0⟩ := (HR.out.stay HUW.out).bk.row.bucket k hk1
      obtain ⟨b2, o2, hx2, j0⟩ := (HS.out.stay HUW.out).bk.row.bucket k hk2
      simp only at hx1 hx2 k0 j0
      subst hx1 hx2
      have HI1 := Lib.hid ((HR.out.stay HUW.out).at hk1).row
      have HI2 := Lib.hid ((HS.out.stay HUW.out).at hk2).row
      simp only at HI1 HI2
      have HKK : Hid (res = (decide (l1[k].l = l2[k].l) && decide ((rowsOf l1).drop (k + 1) = (rowsOf l2).drop (k + 1)))) := by
        show res = _
        rw [HK.out, drop_dec (by rw [rowsOf_length]; exact hk1) (by rw [rowsOf_length]; exact hk2), rowsOf_get hk1, rowsOf_get hk2]
      have hbk := HB2.out l1[k] (List.getElem_mem hk1)
      have HC : Hid (∀ W', Upd [] wr W' → Calls Try.prog 23 #[.slice l1[k].ad l1[k].l.length l1[k].cap, .slice l2[k].ad l2[k].l.length l2[k].cap] W' fun e w' => e = .returned (.bool (decide (l1[k].l = l2[k].l))) ∧ Upd [] W' w') := fun W' hu => SameItems_has l1[k] l2[k] W' (HI1.out.stay hu) (HI2.out.stay hu) hbk
      clear HI1 HI2 hbk
      generalize decide (l1[k].l = l2[k].l) = bq at HC HKK
      generalize l1[k].l.length = nn1 at *
      generalize l1[k].ad = ad1 at *
      generalize l1[k].cap = cp1 at *
      generalize l2[k].l.length = nn2 at *
      generalize l2[k].ad = ad2 at *
      generalize l2[k].cap = cp2 at *
      go_wp2_with fail
      have m3k := kept_at m3r; have e3k := kept_at e3r; have k0k := kept_at k0; have j0k := kept_at j0
      clear k0 j0 m3r e3r
      refine wp_region_quiet_kept mixed (by kernel_rfl) ?_
      repeat (go_big_quiet_step (first | (go_at_call 23; exact calls_kept (HC.out _ (Kept.up _)))))
      refine wpQuiet_nil ?_
      intro W3 hw'
      obtain ⟨⟨Wx, hu⟩, hw''⟩ := hw'
      simp only at hw''
      subst hw''
      have HU2 : Hid (Upd [] W W3) := HUR.out.thn hu
      clear m3k e3k k0k j0k hu
      cases bq with
      | true =>
        go_wp2_with fail
        go_roundg (gk - 1)
        case measure => omega
        case rel => exact ⟨k + 1, by go_num, by omega, by rw [HKK.out]; exact Lib.hid rfl, HU2⟩
      | false =>
        go_wp2_with fail
        go_ret
        exact ⟨ret_bool (by rw [HKK.out]; rfl), HU.out.thn HU2.out⟩
    · have hltz : ¬ (k : Int) < (n1 : Int) := by omega
      go_wp2_with fail
      go_ret
      exact ⟨ret_bool (by rw [HK.out, List.drop_eq_nil_of_le (by rw [rowsOf_length]; have := HN1.out; omega), List.drop_eq_nil_of_le (by rw [rowsOf_length]; have := HN2.out; omega)]; simp), HU.out.thn HUR.out⟩
end Go.Proofs.Ytmfijhophaeljaa
