
/- Contracts of layer 10: the reference's Equal and Same. -/
import Derived.Test.YtpneljhplbkdkaaAH
import Derived.Laws.StructEq
namespace Go.Proofs.Ytpneljhplbkdkaa
open Go.RowKit Go.Lib

theorem guardEv : Try.prog.eqGuardType Try.prog.depth 51 = false := by kernel_rfl
theorem eqlEv (x y : Ev) (w : World) : (binOp .eql 51 (.agg #[.int .i64 x.t, .int .i64 x.h]) (.agg #[.int .i64 y.t, .int .i64 y.h])).run Try.prog w = .ok (.bool (decide (x = y))) w := by
  have u3 := Try.underlying3
  have a3 := Try.isAgg3
  have z3 := Try.sizeOf3
  have hS : Try.prog.underlying 51 = some (.struct (Try.prog.fieldsOf 51)) := by kernel_rfl
  have hp : Try.prog.stoodInHeld 51 = false := by kernel_rfl
  obtain ⟨t, h⟩ := x
  obtain ⟨t', h'⟩ := y
  rw [run_eql_struct, show (10000 : Nat) = 9999 + 1 from rfl, run_equalIn_agg w 9999 51 _ _ hS hp]
  simp only [Program.fieldsOf, Try.underlying51]
  go_simp
  by_cases h2 : h = h' <;> by_cases h3 : t = t' <;> simp [h2, h3]
theorem neqEv (x y : Ev) (w : World) : (binOp .neq 51 (.agg #[.int .i64 x.t, .int .i64 x.h]) (.agg #[.int .i64 y.t, .int .i64 y.h])).run Try.prog w = .ok (.bool (!decide (x = y))) w := by
  have h := eqlEv x y w
  rw [run_eql_struct] at h
  rw [run_neq_struct]
  generalize (Op.equalIn 10000 51 (.agg #[.int .i64 x.t, .int .i64 x.h]) (.agg #[.int .i64 y.t, .int .i64 y.h])).run Try.prog w = r at h ⊢
  cases r with
  | ok b w' => simp only [Result.andThen_ok, Result.ok.injEq, Value.bool.injEq] at h ⊢; obtain ⟨rfl, rfl⟩ := h; simp
  | halt e w' => simp [Result.andThen] at h
theorem guardEn : Try.prog.eqGuardType Try.prog.depth 49 = false := by kernel_rfl
theorem eqlEn (x y : En) (w : World) : (binOp .eql 49 (.agg #[.int .i64 x.t, .int .i64 x.q, .int .i64 x.h, .bool x.d]) (.agg #[.int .i64 y.t, .int .i64 y.q, .int .i64 y.h, .bool y.d])).run Try.prog w = .ok (.bool (decide (x = y))) w := by
  have u3 := Try.underlying3
  have a3 := Try.isAgg3
  have z3 := Try.sizeOf3
  have u4 := Try.underlying4
  have a4 := Try.isAgg4
  have z4 := Try.sizeOf4
  have hS : Try.prog.underlying 49 = some (.struct (Try.prog.fieldsOf 49)) := by kernel_rfl
  have hp : Try.prog.stoodInHeld 49 = false := by kernel_rfl
  obtain ⟨t, q, h, d⟩ := x
  obtain ⟨t', q', h', d'⟩ := y
  rw [run_eql_struct, show (10000 : Nat) = 9999 + 1 from rfl, run_equalIn_agg w 9999 49 _ _ hS hp]
  simp only [Program.fieldsOf, Try.underlying49]
  go_simp
  by_cases h2 : h = h' <;> by_cases h3 : t = t' <;> by_cases h4 : q = q' <;> by_cases h5 : d = d' <;> simp [h2, h3, h4, h5]
theorem neqEn (x y : En) (w : World) : (binOp .neq 49 (.agg #[.int .i64 x.t, .int .i64 x.q, .int .i64 x.h, .bool x.d]) (.agg #[.int .i64 y.t, .int .i64 y.q, .int .i64 y.h, .bool y.d])).run Try.prog w = .ok (.bool (!decide (x = y))) w := by
  have h := eqlEn x y w
  rw [run_eql_struct] at h
  rw [run_neq_struct]
  generalize (Op.equalIn 10000 49 (.agg #[.int .i64 x.t, .int .i64 x.q, .int .i64 x.h, .bool x.d]) (.agg #[.int .i64 y.t, .int .i64 y.q, .int .i64 y.h, .bool y.d])).run Try.prog w = r at h ⊢
  cases r with
  | ok b w' => simp only [Result.andThen_ok, Result.ok.injEq, Value.bool.injEq] at h ⊢; obtain ⟨rfl, rfl⟩ := h; simp
  | halt e w' => simp [Result.andThen] at h
set_option maxRecDepth 100000 in
set_option maxHeartbeats 8000000 in
theorem REqual_has (a b : RsR) (w : World) (ha : HasS LV w a.ev) (hb : HasS LV w b.ev) (hl : a.ev.l.length ≤ 1000000) :
    Calls Try.prog 21 #[encR a, encR b] w fun e w' => e = .returned (.bool (decide (a.rs = b.rs))) ∧ Upd [] w w' := by
  obtain ⟨e1, h1, c1, ⟨l1, a1, k1⟩⟩ := a
  obtain ⟨e2, h2, c2, ⟨l2, a2, k2⟩⟩ := b
  obtain ⟨res, hres⟩ : ∃ r, r = decide ((⟨e1, h1, c1, l1⟩ : Rs) = ⟨e2, h2, c2, l2⟩) := ⟨_, rfl⟩
  have HRES := Lib.hid hres
  have HA := Lib.hid ha.row; have HB := Lib.hid hb.row
  unfold encR cellsR RsR.rs
  simp only at hl HA HB ⊢
  rw [← hres]
  clear hres ha hb
  generalize hn1 : l1.length = n1 at hl ⊢
  generalize hn2 : l2.length = n2
  have HN1 := Lib.hid hn1; have HN2 := Lib.hid hn2
  clear hn1 hn2
  obtain ⟨hu0, b0, b1, hs0⟩ := two_boxes w (.cells #[.int .i64 e1, .int .i64 h1, .bool c1, .slice a1 n1 k1] 34) (.cells #[.int .i64 e2, .int .i64 h2, .bool c2, .slice a2 n2 k2] 34)
  have HU0 := Lib.hid hu0; have HB0 := Lib.hid b0; have HB1 := Lib.hid b1
  clear hu0 b0 b1 hs0
  by_cases q1 : e1 = e2
  · subst q1
    by_cases q2 : h1 = h2
    · subst q2
      by_cases q3 : c1 = c2
      · subst q3
        by_cases q4 : n1 = n2
        · subst q4
          have HR0 : Hid (res = decide (l1.drop 0 = l2.drop 0)) := Lib.hid (by rw [HRES.out, List.drop_zero, List.drop_zero]; simp)
          go_enter Try.func21, Try.ntmps21
          go_upto_region 1 with (fail)
          generalize (w.alloc (.cells #[.int .i64 e1, .int .i64 h1, .bool c1, .slice a1 n1 k1] 34)).alloc (.cells #[.int .i64 e1, .int .i64 h1, .bool c1, .slice a2 n1 k2] 34) = W0 at *
          generalize w.heap.size = P at *
          obtain ⟨m0, m1, m2, m3⟩ := cells4 HB0.out
          obtain ⟨p0, p1, p2, p3⟩ := cells4 HB1.out
          go_wp2_with fail
          clear m0 m1 m2 m3 p0 p1 p2 p3
          go_loopg [5] n1 (fun gk vi wr => ∃ k : Nat, vi = .int .i64 k ∧ k + gk = n1 ∧ Hid (res = decide (l1.drop k = l2.drop k)) ∧ Hid (Upd [] W0 wr))
          case atStart => exact ⟨0, rfl, by omega, HR0, Upd.refl _ _⟩
          case round =>
            obtain ⟨k, rfl, hkg, HK, HUR⟩ := hrel
            obtain ⟨m0, m1, m2, m3⟩ := cells4 (HUR.out.at HB0.out (by simp))
            obtain ⟨p0, p1, p2, p3⟩ := cells4 (HUR.out.at HB1.out (by simp))
            clear m0 m1 m2 p0 p1 p2
            by_cases hlt : k < n1
            · have hltz : (k : Int) < (n1 : Int) := by omega
              have hk1 : k < l1.length := by have := HN1.out; omega
              have hk2 : k < l2.length := by have := HN2.out; omega
              obtain ⟨b1, o1, rfl, x0, x1⟩ := (HA.out.stay (HU0.out.thn HUR.out)).ev k hk1
              obtain ⟨b2, o2, rfl, y0, y1⟩ := (HB.out.stay (HU0.out.thn HUR.out)).ev k hk2
              have HKK : Hid (res = (decide (l1[k] = l2[k]) && decide (l1.drop (k + 1) = l2.drop (k + 1)))) := Lib.hid (by rw [HK.out, drop_dec hk1 hk2])
              generalize l1[k] = z1 at *
              generalize l2[k] = z2 at *
              have hgd := guardEv
              have hq := neqEv z1 z2
              generalize decide (z1 = z2) = bq at hq HKK
              clear hk1 hk2
              have hwk : IntKind.i64.wrap ((k : Int) + 1) = (k : Int) + 1 := by rw [IntKind.wrap_i64]; omega
              go_upto_region 6 with (fail)
              go_quiet (fail)
              have HU2 : Hid (Upd [] W0 (wr.drewN nq)) := HUR.out.drewN nq
              generalize wr.drewN nq = w2 at HU2 ⊢
              clear x0 x1 y0 y1 hq hgd m3 p3
              cases bq with
              | true =>
                have HK2 : Hid (res = decide (l1.drop (k + 1) = l2.drop (k + 1))) := Lib.hid (by rw [HKK.out]; rfl)
                go_wp2_with fail
                go_roundg (n1 - (k + 1))
                case measure => omega
                case rel => exact ⟨k + 1, by go_num, by omega, HK2, HU2⟩
              | false =>
                have HF : Hid (res = false) := Lib.hid (by rw [HKK.out]; rfl)
                go_wp2_with fail
                go_ret
                exact ⟨ret_bool HF.out.symm, HU0.out.thn HU2.out⟩
            · have hltz : ¬ (k : Int) < (n1 : Int) := by omega
              have HT : Hid (res = true) := Lib.hid (by rw [HK.out, List.drop_eq_nil_of_le (by have := HN1.out; omega), List.drop_eq_nil_of_le (by have := HN2.out; omega)]; simp)
              go_wp2_with fail
              go_ret
              exact ⟨ret_bool HT.out.symm, HU0.out.thn HUR.out⟩
        · have g1 : ((n1 : Int) != (n2 : Int)) = true := by simp; omega
          have HQ4 := Lib.hid q4
          clear q4
          have HF : Hid (res = false) := Lib.hid (by rw [HRES.out]; exact decide_eq_false (fun h => by injection h with _ _ _ h; have h1 := HN1.out; have h2 := HN2.out; have h3 := HQ4.out; rw [h] at h1; omega))
          go_enter Try.func21, Try.ntmps21
          go_upto_region 1 with (fail)
          generalize (w.alloc (.cells #[.int .i64 e1, .int .i64 h1, .bool c1, .slice a1 n1 k1] 34)).alloc (.cells #[.int .i64 e1, .int .i64 h1, .bool c1, .slice a2 n2 k2] 34) = W0 at *
          generalize w.heap.size = P at *
          obtain ⟨m0, m1, m2, m3⟩ := cells4 HB0.out
          obtain ⟨p0, p1, p2, p3⟩ := cells4 HB1.out
          go_wp2_with fail
          go_ret
          exact ⟨ret_bool HF.out.symm, HU0.out⟩
      · have g1 : (c1 != c2) = true := by simpa using q3
        have HQ3 := Lib.hid q3
        clear q3
        have HF : Hid (res = false) := Lib.hid (by rw [HRES.out]; exact decide_eq_false (fun h => by injection h with _ _ h _; exact HQ3.out h))
        go_enter Try.func21, Try.ntmps21
        go_upto_region 1 with (fail)
        generalize (w.alloc (.cells #[.int .i64 e1, .int .i64 h1, .bool c1, .slice a1 n1 k1] 34)).alloc (.cells #[.int .i64 e1, .int .i64 h1, .bool c2, .slice a2 n2 k2] 34) = W0 at *
        generalize w.heap.size = P at *
        obtain ⟨m0, m1, m2, m3⟩ := cells4 HB0.out
        obtain ⟨p0, p1, p2, p3⟩ := cells4 HB1.out
        go_wp2_with fail
        go_ret
        exact ⟨ret_bool HF.out.symm, HU0.out⟩
    · have g1 : (h1 != h2) = true := by simpa using q2
      have HQ2 := Lib.hid q2
      clear q2
      have HF : Hid (res = false) := Lib.hid (by rw [HRES.out]; exact decide_eq_false (fun h => by injection h with _ h _ _; exact HQ2.out h))
      go_enter Try.func21, Try.ntmps21
      go_upto_region 1 with (fail)
      generalize (w.alloc (.cells #[.int .i64 e1, .int .i64 h1, .bool c1, .slice a1 n1 k1] 34)).alloc (.cells #[.int .i64 e1, .int .i64 h2, .bool c2, .slice a2 n2 k2] 34) = W0 at *
      generalize w.heap.size = P at *
      obtain ⟨m0, m1, m2, m3⟩ := cells4 HB0.out
      obtain ⟨p0, p1, p2, p3⟩ := cells4 HB1.out
      go_wp2_with fail
      go_ret
      exact ⟨ret_bool HF.out.symm, HU0.out⟩
  · have g1 : (e1 != e2) = true := by simpa using q1
    have HQ1 := Lib.hid q1
    clear q1
    have HF : Hid (res = false) := Lib.hid (by rw [HRES.out]; exact decide_eq_false (fun h => by injection h with h _ _ _; exact HQ1.out h))
    go_enter Try.func21, Try.ntmps21
    go_upto_region 1 with (fail)
    generalize (w.alloc (.cells #[.int .i64 e1, .int .i64 h1, .bool c1, .slice a1 n1 k1] 34)).alloc (.cells #[.int .i64 e2, .int .i64 h2, .bool c2, .slice a2 n2 k2] 34) = W0 at *
    generalize w.heap.size = P at *
    obtain ⟨m0, m1, m2, m3⟩ := cells4 HB0.out
    obtain ⟨p0, p1, p2, p3⟩ := cells4 HB1.out
    go_wp2_with fail
    go_ret
    exact ⟨ret_bool HF.out.symm, HU0.out⟩
end Go.Proofs.Ytpneljhplbkdkaa
