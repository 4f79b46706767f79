
/- The law's head of layer 9 holds. -/
import Derived.Test.YtpabapjodcafkaaYU
namespace Go.Proofs.Ytpabapjodcafkaa
open Go.RowKit Go.Lib

theorem hG_succ (k : Nat) : hG (k + 1) = hG k ++ [⟨false, 1000 - (k : Int)⟩] := by
  unfold hG
  rw [List.range_succ, List.map_append]
  rfl
theorem flat_nil_w {w : World} (base : Nat) (e : TypeId) : w.ownsRow base e LW.k (.slice none 0 0) 0 (LW.flat []) := ⟨rfl, .inl ⟨rfl, rfl⟩⟩
set_option maxRecDepth 100000 in
set_option maxHeartbeats 8000000 in
theorem head_true (w : World) : Calls Try.prog 7 #[] w fun e w' => e = .returned (.bool true) ∧ Upd [] w w' := by
  have HR1 := Lib.hid run_h1
  have HR2 := Lib.hid run_h2
  have HR3 := Lib.hid sorted_h2
  have HGS := Lib.hid hG_succ
  have HG0 : Hid (hG 0 = []) := rfl
  have HO2 : Hid (hG 20 ++ [⟨true, 0⟩] = hO2) := rfl
  generalize hO2 = O2 at *
  generalize hG = G at *
  go_enter Try.func7, Try.ntmps7
  go_upto_region 2 with (go_at_call 9; (with_reducible refine (HR1.out w).mono ?_); rintro e w1 ⟨oa, oc, rfl, h1, h2⟩; simp only)
  have hal := (Upd.refl [] w1).alloc (.cells #[.int .i64 2, .int .i64 1, .int .i64 4, .int .i64 2, .int .i64 0, .int .i64 2] 27)
  have b1 := heap_alloc1 w1 (.cells #[.int .i64 2, .int .i64 1, .int .i64 4, .int .i64 2, .int .i64 0, .int .i64 2] 27)
  generalize w1.alloc (.cells #[.int .i64 2, .int .i64 1, .int .i64 4, .int .i64 2, .int .i64 0, .int .i64 2] 27) = W1 at *
  generalize w1.heap.size = P1 at *
  have HA := Lib.hid (h1.stay hal); have HU1 := Lib.hid (h2.thn hal); have HB1 := Lib.hid b1
  clear h1 h2 hal b1 HR1
  go_wp2_with fail
  go_loopg [3, 4] 20 (fun gk v3 v4 wr => ∃ (k : Nat) (va : Option Addr) (vc : Nat), v3 = .slice va k vc ∧ v4 = .int .i64 k ∧ k + gk = 20 ∧ Hid (wr.ownsRow W1.heap.size 31 LW.k (.slice va k vc) k (LW.flat (G k))) ∧ Hid (Upd [] W1 wr))
  case atStart => exact ⟨0, none, 0, rfl, rfl, by omega, by rw [HG0.out]; exact flat_nil_w _ _, Upd.refl [] W1⟩
  case round =>
    obtain ⟨k, va, vc, rfl, rfl, hkg, HOW, HUR⟩ := hrel
    by_cases hlt : k < 20
    · have hltz : (k : Int) < 20 := by omega
      have hwk : IntKind.i64.wrap ((k : Int) + 1) = (k : Int) + 1 := by rw [IntKind.wrap_i64]; omega
      have hwt : IntKind.i64.wrap (1000 - (k : Int)) = 1000 - (k : Int) := by rw [IntKind.wrap_i64]; omega
      have HSK := Lib.hid (HGS.out k)
      have hsz := HUR.out.size
      obtain ⟨u, hu⟩ : ∃ u : Int, u = 1000 - (k : Int) := ⟨_, rfl⟩
      rw [← hu] at HSK
      rw [← hu] at hwt
      have hu2 : (1000 : Int) - (k : Int) = u := hu.symm
      have hu5 := (Upd.refl [] wr).alloc (.cells #[.bool false, .int .i64 u] 31)
      have HR2x := Lib.hid (work_cells (x := ⟨false, u⟩) (heap_alloc1 wr (.cells #[.bool false, .int .i64 u] 31)))
      have HO5 := Lib.hid (hu5.row HOW.out (by simp))
      have HU5 := Lib.hid (HUR.out.thn hu5)
      clear hu hu5
      go_upto_region 6 with (fail)
      go_upto_region 5 with (at_builtin; refine app_row tyW rfl _ _ rfl W1.heap.size (.slice va k vc) k (G k) rfl HO5.out (some ⟨wr.heap.size, 0, none⟩) 1 1 [⟨false, u⟩] rfl rfl HR2x.out (fun e => by simp at e) (by omega) (by simp; omega) ?_; intro v2 w2 hown2 hgrow2; obtain ⟨va2, vc2, rfl⟩ := row_shape hown2)
      have HO3 := Lib.hid hown2
      have HU6 : Hid (Upd [] W1 w2) := HU5.out.grown hgrow2 (fun x hx hl => by have := own_ge HOW.out x hx; omega)
      clear hown2 hgrow2
      go_wp2_with fail
      go_roundg (20 - (k + 1))
      case measure => omega
      case rel => exact ⟨k + 1, va2, vc2, rfl, by go_num, by omega, by rw [HSK.out]; exact HO3, HU6⟩
    · have hltz : ¬ (k : Int) < 20 := by omega
      obtain rfl : k = 20 := by omega
      have hsz := HUR.out.size
      have hu5 := (Upd.refl [] wr).alloc (.cells #[.bool true, .int .i64 0] 31)
      have HR2x := Lib.hid (work_cells (x := ⟨true, 0⟩) (heap_alloc1 wr (.cells #[.bool true, .int .i64 0] 31)))
      have HO5 := Lib.hid (hu5.row HOW.out (by simp))
      have HU5 := Lib.hid (HUR.out.thn hu5)
      clear hu5
      go_upto_region 8 with (at_builtin; refine app_row tyW rfl _ _ rfl W1.heap.size (.slice va 20 vc) 20 (G 20) rfl HO5.out (some ⟨wr.heap.size, 0, none⟩) 1 1 [⟨true, 0⟩] rfl rfl HR2x.out (fun e => by simp at e) (by omega) (by simp; omega) ?_; intro v2 w2 hown2 hgrow2; obtain ⟨va2, vc2, rfl⟩ := row_shape hown2)
      have HU6 : Hid (Upd [] W1 w2) := HU5.out.grown hgrow2 (fun x hx hl => by have := own_ge HOW.out x hx; omega)
      rw [HO2.out] at hown2
      obtain ⟨_, ad3, cap3, e3, hS3, _⟩ := hasS_row hown2
      simp only [Value.slice.injEq, true_and] at e3
      obtain ⟨rfl, rfl⟩ := e3
      have HRW := Lib.hid hS3.row
      have HRN := Lib.hid (HR2.out va2 vc2 w2 hS3.row)
      clear hown2 hgrow2 hS3 HR2 HO5 HR2x HOW HU5 HUR hsz hltz hlt hkg
      go_upto_region 9 with (go_at_call 9; (with_reducible refine HRN.out.mono ?_); rintro e w3 ⟨oa2, oc2, ins, pn, mv, cp, rfl, h1, h2⟩; simp only)
      have hal := (Upd.refl [] w3).alloc (.cells #[.int .i64 ins, .int .i64 pn, .int .i64 mv, .int .i64 cp, .int .i64 1, .int .i64 20] 27)
      have b3 := heap_alloc1 w3 (.cells #[.int .i64 ins, .int .i64 pn, .int .i64 mv, .int .i64 cp, .int .i64 1, .int .i64 20] 27)
      generalize w3.alloc (.cells #[.int .i64 ins, .int .i64 pn, .int .i64 mv, .int .i64 cp, .int .i64 1, .int .i64 20] 27) = W3 at *
      generalize w3.heap.size = P3 at *
      have hu13 : Upd [] W1 W3 := HU6.out.thn (h2.thn hal)
      obtain ⟨ba, fa, rfl, x0, x1, x2⟩ := (HA.out.stay hu13).row.item 0 (by simp)
      obtain ⟨bb, fb, rfl, y0, y1, y2⟩ := (h1.stay hal).row.item 0 (by simp)
      simp only [List.getElem_cons_zero, Nat.zero_mul, Nat.add_zero] at x0 x1 x2 y0 y1 y2
      obtain ⟨m0, m1, m2, m3, m4, m5⟩ := cells6 (hu13.at HB1.out (by simp))
      obtain ⟨n0, n1, n2, n3, n4, n5⟩ := cells6 b3
      have HFU := Lib.hid (HU1.out.thn hu13)
      have HSO := Lib.hid (HR3.out va2 vc2 W3 (HRW.out.stay (h2.thn hal)))
      have HMB : Hid (∀ W, Calls Try.prog 10 #[.int .i64 2] W fun e w' => e = .returned (.int .i64 12) ∧ W = w') := fun W => PMoveBound_has 2 W (by decide)
      have HCB : Hid (∀ W, Calls Try.prog 11 #[.int .i64 2] W fun e w' => e = .returned (.int .i64 10) ∧ W = w') := fun W => PCompareBound_has 2 W (by decide)
      clear h1 h2 hal hu13 b3 HA HB1 HU1 HU6 HRN HRW HR3 HGS HG0 HO2 n0 n1 n2 n3
      go_wp2_with (first
        | (go_at_call 10; (with_reducible refine (HMB.out _).mono ?_); rintro e w' ⟨rfl, rfl⟩)
        | (go_at_call 11; (with_reducible refine (HCB.out _).mono ?_); rintro e w' ⟨rfl, rfl⟩)
        | (go_at_call 13; (with_reducible refine HSO.out.mono ?_); rintro e w4 ⟨oa4, oc4, rfl, h4⟩; have HFV := Lib.hid (HFU.out.thn h4); clear h4))
      go_ret
      exact ⟨rfl, HFV.out⟩
end Go.Proofs.Ytpabapjodcafkaa
