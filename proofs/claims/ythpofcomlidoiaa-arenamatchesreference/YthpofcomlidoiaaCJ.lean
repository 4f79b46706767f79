/- Contract: the reference's Same. -/
import Derived.Test.YthpofcomlidoiaaCI
import Derived.Laws.StructEq
namespace Go.Proofs.Ythpofcomlidoiaa
open Go.RowKit Go.Lib

theorem drop_eq {α : Type} {xs ys : List α} {k : Nat} (h : k < xs.length) (h' : k < ys.length) : (xs.drop k = ys.drop k) = (xs[k] = ys[k] ∧ xs.drop (k + 1) = ys.drop (k + 1)) := by
  rw [List.drop_eq_getElem_cons h, List.drop_eq_getElem_cons h', List.cons.injEq]

theorem drop_dec {α : Type} [DecidableEq α] {xs ys : List α} {k : Nat} (h : k < xs.length) (h' : k < ys.length) : decide (xs.drop k = ys.drop k) = (decide (xs[k] = ys[k]) && decide (xs.drop (k + 1) = ys.drop (k + 1))) := by
  rw [← Bool.decide_and]
  have := drop_eq h h'
  exact decide_eq_decide.2 (by rw [this])
theorem guardSlot : Try.prog.eqGuardType Try.prog.depth 44 = false := by kernel_rfl
theorem eqlSlot (x y : Sl) (w : World) : (binOp .eql 44 (.agg #[.int .i64 x.g, .int .i64 x.s, .int .i64 x.t, .int .i64 x.q]) (.agg #[.int .i64 y.g, .int .i64 y.s, .int .i64 y.t, .int .i64 y.q])).run Try.prog w = .ok (.bool (decide (x = y))) w := by
  have u3 := Try.underlying3
  have a3 := Try.isAgg3
  have z3 := Try.sizeOf3
  have hS : Try.prog.underlying 44 = some (.struct (Try.prog.fieldsOf 44)) := by kernel_rfl
  have hp : Try.prog.stoodInHeld 44 = false := by kernel_rfl
  obtain ⟨g, s, t, q⟩ := x
  obtain ⟨g', s', t', q'⟩ := y
  rw [run_eql_struct, show (10000 : Nat) = 9999 + 1 from rfl, run_equalIn_agg w 9999 44 _ _ hS hp]
  simp only [Program.fieldsOf, Try.underlying44]
  go_simp
  by_cases h1 : g = g' <;> by_cases h2 : s = s' <;> by_cases h3 : t = t' <;> by_cases h4 : q = q' <;> simp [h1, h2, h3, h4]
theorem neqSlot (x y : Sl) (w : World) : (binOp .neq 44 (.agg #[.int .i64 x.g, .int .i64 x.s, .int .i64 x.t, .int .i64 x.q]) (.agg #[.int .i64 y.g, .int .i64 y.s, .int .i64 y.t, .int .i64 y.q])).run Try.prog w = .ok (.bool (!decide (x = y))) w := by
  have h := eqlSlot x y w
  rw [run_eql_struct] at h
  rw [run_neq_struct]
  generalize (Op.equalIn 10000 44 (.agg #[.int .i64 x.g, .int .i64 x.s, .int .i64 x.t, .int .i64 x.q]) (.agg #[.int .i64 y.g, .int .i64 y.s, .int .i64 y.t, .int .i64 y.q])).run Try.prog w = r at h ⊢
  cases r with
  | ok b w' => simp only [Result.andThen_ok, Result.ok.injEq, Value.bool.injEq] at h ⊢; obtain ⟨rfl, rfl⟩ := h; simp
  | halt e w' => simp [Result.andThen] at h

set_option maxHeartbeats 4000000 in
theorem Same_has (r s : ArR) (w : World) (hr : HasA w r) (hs : HasA w s) (hb1 : r.ar.sl.length ≤ 1000000) (hb2 : r.ar.id.length ≤ 1000000) :
    Calls Try.prog 12 #[encA r, encA s] w fun e w' => e = .returned (.bool (decide (r.ar = s.ar))) ∧ Upd [] w w' := by
  obtain ⟨⟨l1, i1, x1⟩, sa1, sc1, ia1, ic1⟩ := r
  obtain ⟨⟨l2, i2, x2⟩, sa2, sc2, ia2, ic2⟩ := s
  obtain ⟨res, hres⟩ : ∃ b, b = decide ((⟨l1, i1, x1⟩ : Ar) = ⟨l2, i2, x2⟩) := ⟨_, rfl⟩
  have HRES := Lib.hid hres
  have HR := Lib.hid hr; have HS := Lib.hid hs
  unfold encA
  simp only at hb1 hb2 ⊢
  rw [← hres]
  clear hres hr hs
  generalize hn1 : l1.length = n1 at hb1 ⊢
  generalize hn2 : l2.length = n2
  generalize hm1 : i1.length = m1 at hb2 ⊢
  generalize hm2 : i2.length = m2
  have HN1 := Lib.hid hn1; have HN2 := Lib.hid hn2; have HM1 := Lib.hid hm1; have HM2 := Lib.hid hm2
  clear hn1 hn2 hm1 hm2
  go_enter Try.func12, Try.ntmps12
  go_upto_region 1 with (fail)
  generalize hA : (Obj.cells #[.slice sa1 n1 sc1, .slice ia1 m1 ic1, .int .i64 x1] 25 : Obj) = A
  generalize hB : (Obj.cells #[.slice sa2 n2 sc2, .slice ia2 m2 ic2, .int .i64 x2] 25 : Obj) = B
  obtain ⟨hu, b0, b1, hsz⟩ := two_boxes w A B
  generalize (w.alloc A).alloc B = W at *
  generalize hH : w.heap.size = H at *
  rw [← hA] at b0
  rw [← hB] at b1
  have HU := Lib.hid hu; have HH := Lib.hid hH
  obtain ⟨c0, c1, c2⟩ := cells3 b0
  obtain ⟨e0, e1, e2⟩ := cells3 b1
  clear hu hA hB b0 b1 hH hsz
  by_cases hx : x1 = x2
  · have hxb : (x1 != x2) = false := by simpa using hx
    have HX := Lib.hid hx
    clear hx
    by_cases hn : n1 = n2
    · subst hn
      by_cases hm : m1 = m2
      · subst hm
        have HR0 : Hid (res = (decide (l1.drop 0 = l2.drop 0) && decide (i1 = i2))) := by
          show res = _
          rw [HRES.out, List.drop_zero, List.drop_zero, ← Bool.decide_and]
          exact decide_eq_decide.2 (by rw [Ar.mk.injEq]; exact ⟨fun h => ⟨h.1, h.2.1⟩, fun h => ⟨h.1, h.2, HX.out⟩⟩)
        go_wp2_with fail
        go_loopg [5] n1 (fun gk vi wr => ∃ k : Nat, vi = .int .i64 k ∧ k + gk = n1 ∧ Hid (res = (decide (l1.drop k = l2.drop k) && decide (i1 = i2))) ∧ Hid (Upd [] W wr))
        case atStart => exact ⟨0, rfl, by omega, HR0, Lib.hid (Upd.refl _ _)⟩
        case round =>
          obtain ⟨k, rfl, hkg, HK, HUR⟩ := hrel
          have c0r := HUR.out.cell c0 (by simp)
          have c1r := HUR.out.cell c1 (by simp)
          have e0r := HUR.out.cell e0 (by simp)
          have e1r := HUR.out.cell e1 (by simp)
          by_cases hlt : k < n1
          · have hltz : (k : Int) < (n1 : Int) := by omega
            have hk1 : k < l1.length := by have := HN1.out; omega
            have hk2 : k < l2.length := by have := HN2.out; omega
            obtain ⟨b1, o1, rfl, k0, k1, k2, k3⟩ := (HR.out.stay (HU.out.trans HUR.out (by simp))).sl k hk1
            obtain ⟨b2, o2, rfl, j0, j1, j2, j3⟩ := (HS.out.stay (HU.out.trans HUR.out (by simp))).sl k hk2
            simp only at k0 k1 k2 k3 j0 j1 j2 j3
            have HKK : Hid (res = (decide (l1[k] = l2[k]) && (decide (l1.drop (k + 1) = l2.drop (k + 1)) && decide (i1 = i2)))) := by
              show res = _
              rw [HK.out, drop_dec hk1 hk2, Bool.and_assoc]
            generalize l1[k] = y1 at *
            generalize l2[k] = y2 at *
            have hgd := guardSlot
            have hq := neqSlot y1 y2
            clear c0 c1 c2 e0 e1 e2
            generalize decide (y1 = y2) = bq at hq HKK
            go_wp2_with fail
            go_quiet (fail)
            have HU2 : Hid (Upd [] W (wr.drewN nq)) := HUR.out.drewN nq
            generalize wr.drewN nq = w2 at HU2 ⊢
            clear c0r c1r e0r e1r k0 k1 k2 k3 j0 j1 j2 j3
            cases bq with
            | true =>
              go_wp2_with fail
              go_roundg (gk - 1)
              case measure => omega
              case rel => exact ⟨k + 1, by go_num, by omega, by rw [HKK.out]; exact Lib.hid rfl, HU2⟩
            | false =>
              go_wp2_with fail
              go_ret
              exact ⟨ret_bool (by rw [HKK.out]; rfl), HU.out.trans HU2.out (by simp)⟩
          · have hltz : ¬ (k : Int) < (n1 : Int) := by omega
            have HR1 : Hid (res = decide (i1.drop 0 = i2.drop 0)) := by
              show res = _
              rw [HK.out, List.drop_eq_nil_of_le (by have := HN1.out; omega), List.drop_eq_nil_of_le (by have := HN2.out; omega)]
              simp
            clear HK c0 c1 c2 e0 e1 e2
            go_wp2_with fail
            clear c0r e0r
            generalize wr = w0 at *
            go_loopg [6] m1 (fun gk vi wx => ∃ k : Nat, vi = .int .i64 k ∧ k + gk = m1 ∧ Hid (res = decide (i1.drop k = i2.drop k)) ∧ Hid (Upd [] w0 wx))
            case atStart => exact ⟨0, rfl, by omega, HR1, Lib.hid (Upd.refl _ _)⟩
            case round =>
            obtain ⟨k, rfl, hkg, HK, HUX⟩ := hrel
            have HUW : Hid (Upd [] W wr) := HUR.out.trans HUX.out (by simp)
            have c1s := HUX.out.cell c1r (by simp)
            have e1s := HUX.out.cell e1r (by simp)
            clear c1r e1r
            by_cases hlt : k < m1
            · have hltz : (k : Int) < (m1 : Int) := by omega
              have hk1 : k < i1.length := by have := HM1.out; omega
              have hk2 : k < i2.length := by have := HM2.out; omega
              obtain ⟨b1, o1, rfl, k0⟩ := (HR.out.stay (HU.out.trans HUW.out (by simp))).id k hk1
              obtain ⟨b2, o2, rfl, j0⟩ := (HS.out.stay (HU.out.trans HUW.out (by simp))).id k hk2
              simp only at k0 j0
              have HKK : Hid (res = (decide (i1[k] = i2[k]) && decide (i1.drop (k + 1) = i2.drop (k + 1)))) := by
                show res = _
                rw [HK.out, drop_dec hk1 hk2]
              generalize i1[k] = y1 at *
              generalize i2[k] = y2 at *
              by_cases hq : y1 = y2
              · have hqb : (y1 != y2) = false := by simpa using hq
                have HQ := Lib.hid hq
                clear hq
                go_wp2_with fail
                go_quiet (fail)
                have HU2 : Hid (Upd [] w0 (wr.drewN nq)) := HUX.out.drewN nq
                generalize wr.drewN nq = w2 at HU2 ⊢
                go_wp2_with fail
                go_roundg (gk - 1)
                case measure => omega
                case rel => exact ⟨k + 1, by go_num, by omega, by rw [HKK.out, decide_eq_true HQ.out]; exact Lib.hid rfl, HU2⟩
              · have hqb : (y1 != y2) = true := by simpa using hq
                have HQ := Lib.hid hq
                clear hq
                go_wp2_with fail
                go_quiet (fail)
                go_wp2_with fail
                go_ret
                exact ⟨ret_bool (by rw [HKK.out, decide_eq_false HQ.out]; rfl), HU.out.trans (HUW.out.drewN _) (by simp)⟩
            · have hltz : ¬ (k : Int) < (m1 : Int) := by omega
              go_wp2_with fail
              go_ret
              exact ⟨ret_bool (by rw [HK.out, List.drop_eq_nil_of_le (by have := HM1.out; omega), List.drop_eq_nil_of_le (by have := HM2.out; omega)]; simp), HU.out.trans HUW.out (by simp)⟩
      · have hmb : ((m1 : Int) != (m2 : Int)) = true := by simp; omega
        have HM := Lib.hid hm
        clear hm
        go_wp2_with fail
        go_ret
        exact ⟨ret_bool (by rw [HRES.out, decide_eq_false]; intro e; rw [Ar.mk.injEq] at e; exact HM.out (by rw [← HM1.out, ← HM2.out, e.2.1])), HU.out⟩
    · have hnb : ((n1 : Int) != (n2 : Int)) = true := by simp; omega
      have HNN := Lib.hid hn
      clear hn
      go_wp2_with fail
      go_ret
      exact ⟨ret_bool (by rw [HRES.out, decide_eq_false]; intro e; rw [Ar.mk.injEq] at e; exact HNN.out (by rw [← HN1.out, ← HN2.out, e.1])), HU.out⟩
  · have hxb : (x1 != x2) = true := by simpa using hx
    have HX := Lib.hid hx
    clear hx
    go_wp2_with fail
    go_ret
    exact ⟨ret_bool (by rw [HRES.out, decide_eq_false]; intro e; rw [Ar.mk.injEq] at e; exact HX.out e.2.2), HU.out⟩
end Go.Proofs.Ythpofcomlidoiaa
