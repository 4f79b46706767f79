/- Contracts: MoveBound, CompareBound; the examples of the law's head, of layer 9. -/
/- The law's head of layer 9 holds. -/
import Derived.Test.YtpabapjodcafkaaGreatYT
namespace Go.Proofs.YtpabapjodcafkaaGreat
open Go.RowKit Go.Lib

theorem PMoveBound_has (n : Nat) (w : World) (h : n ≤ 1000000) : Calls Tryz.prog 11 #[.int .i64 (n : Nat)] w fun e w' => e = .returned (.int .i64 (6 * (n : Int))) ∧ w = w' := by
  have hw : IntKind.i64.wrap (6 * (n : Int)) = 6 * (n : Int) := by rw [IntKind.wrap_i64]; omega
  go_enter Tryz.func11, Tryz.ntmps11
  go_wp2_with fail
  go_ret
  exact ⟨rfl, rfl⟩
theorem PCompareBound_has (n : Nat) (w : World) (h : n ≤ 1000000) : Calls Tryz.prog 13 #[.int .i64 (n : Nat)] w fun e w' => e = .returned (.int .i64 (5 * (n : Int))) ∧ w = w' := by
  have hw : IntKind.i64.wrap (5 * (n : Int)) = 5 * (n : Int) := by rw [IntKind.wrap_i64]; omega
  go_enter Tryz.func13, Tryz.ntmps13
  go_wp2_with fail
  go_ret
  exact ⟨rfl, rfl⟩
def hO1 : List Wo := [⟨false, 5⟩, ⟨false, 3⟩, ⟨true, 0⟩]
def hG (k : Nat) : List Wo := (List.range k).map (fun (i : Nat) => ⟨false, 1000 - (i : Int)⟩)
def hO2 : List Wo := hG 20 ++ [⟨true, 0⟩]
theorem hO1_bd : ∀ o ∈ hO1, 0 ≤ o.t ∧ o.t ≤ MaxT := by
  intro o ho
  simp only [hO1, List.mem_cons, List.not_mem_nil, or_false] at ho
  unfold MaxT
  rcases ho with rfl | rfl | rfl <;> decide
theorem hO2_bd : ∀ o ∈ hO2, 0 ≤ o.t ∧ o.t ≤ MaxT := by
  intro o ho
  unfold MaxT
  rcases List.mem_append.1 ho with ho | ho
  · obtain ⟨i, hi, rfl⟩ := List.mem_map.1 ho
    have := List.mem_range.1 hi
    simp only; omega
  · obtain rfl := List.mem_singleton.1 ho
    decide
def hL2 : Ld := ⟨0, [⟨5, 0, 0⟩, ⟨3, 1, 0⟩], [], [], 2, 2⟩
def hL3 : Ld := ⟨6, [], [], [⟨3, 1, 0⟩, ⟨5, 0, 0⟩], 4, 2⟩
theorem h1_two : runW hO1 2 = ⟨hL2, [], 2, 0, 2⟩ := by kernel_rfl
theorem h1_step : stepL hL2 = hL3 := by kernel_rfl
theorem h1_pop : popL hL2 = (⟨6, [], [], [⟨5, 0, 0⟩], 4, 2⟩, ⟨3, 1, 0⟩, true) := by
  have g2 : GoodL hL2 := by have := (okW hO1 hO1_bd 2).reach.good; rw [h1_two] at this; exact this
  have m2 : More hL2 := ⟨rfl, .inr (by simp [hL2])⟩
  have e : refillL hL2 = hL3 := by rw [refill_step g2 m2, h1_step, refill_stop (fun h => by have := h.1; simp [hL3] at this)]
  have hb : (refillL hL2).bot = ⟨3, 1, 0⟩ :: [⟨5, 0, 0⟩] := by rw [e]; rfl
  rw [(peek_yes hb).2, e]
  rfl
theorem h1_run : runW hO1 3 = ⟨⟨6, [], [], [⟨5, 0, 0⟩], 4, 2⟩, [⟨3, 1, 0⟩], 2, 0, 2⟩ := by
  have h : runW hO1 3 = stepW (runW hO1 2) 2 ⟨true, 0⟩ := runW_succ (os := hO1) (k := 2) (by decide)
  rw [h, h1_two]
  simp only [stepW, nxtW, if_true, h1_pop]
  rfl
def hT20 : List It := (List.range 20).map (fun (i : Nat) => ⟨1000 - (i : Int), (i : Int), 0⟩)
def hM0 : Ld := ⟨0, hT20, [], [], 20, 20⟩
def hM1 : Ld := stepL hM0
def hM2 : Ld := stepL hM1
theorem h2_ins : runW hO2 20 = ⟨hM0, [], 20, 0, 20⟩ := by kernel_rfl
theorem h2_b1 : hM1.bot = [] := by kernel_rfl
theorem h2_r1 : hM1.rs.length = 1 := by kernel_rfl
theorem h2_b2 : hM2.bot = ⟨981, 19, 0⟩ :: [⟨982, 18, 0⟩, ⟨983, 17, 0⟩] := by kernel_rfl
theorem h2_r2 : hM2.rs.length = 1 := by kernel_rfl
theorem h2_len : lenD { hM2 with bot := [⟨982, 18, 0⟩, ⟨983, 17, 0⟩] } = 19 := by kernel_rfl
theorem h2_pop : popL hM0 = ({ hM2 with bot := [⟨982, 18, 0⟩, ⟨983, 17, 0⟩] }, ⟨981, 19, 0⟩, true) := by
  have g0 : GoodL hM0 := by have := (okW hO2 hO2_bd 20).reach.good; rw [h2_ins] at this; exact this
  have m0 : More hM0 := ⟨rfl, .inr (by simp [hM0, hT20])⟩
  have g1 : GoodL hM1 := (step_ok g0 m0.1 m0.2).good
  have m1 : More hM1 := ⟨h2_b1, .inl (fun e => by have := h2_r1; rw [e] at this; simp at this)⟩
  have e : refillL hM0 = hM2 := by
    rw [refill_step g0 m0]
    show refillL hM1 = hM2
    rw [refill_step g1 m1]
    show refillL hM2 = hM2
    exact refill_stop (fun h => by have := h.1; rw [h2_b2] at this; simp at this)
  have hb : (refillL hM0).bot = ⟨981, 19, 0⟩ :: [⟨982, 18, 0⟩, ⟨983, 17, 0⟩] := by rw [e]; exact h2_b2
  rw [(peek_yes hb).2, e]
theorem h2_run : (runW hO2 21).out = [⟨981, 19, 0⟩] ∧ (runW hO2 21).dep = 1 ∧ (runW hO2 21).mx = 20 := by
  have h : runW hO2 21 = stepW (runW hO2 20) 20 ⟨true, 0⟩ := runW_succ (os := hO2) (k := 20) (by decide)
  rw [h, h2_ins]
  simp only [stepW, nxtW, if_true, h2_pop, h2_len]
  refine ⟨rfl, ?_, rfl⟩
  show max 0 hM2.rs.length = 1
  rw [h2_r2]
  rfl
theorem row_of_block {w : World} {g : Nat} {c : Array Value} {t : TypeId} {f : Nat × Nat} {l : List Wo} (h : w.heap[g]? = some (.cells c t f)) (hc : c.toList = LW.flat l) : Row LW w (some ⟨g, 0, none⟩) l := fun j hj => ⟨g, 0, rfl, fun t u hu => by
  have h1 := LW.flat_at l j hj t u hu
  rw [← hc] at h1
  rw [cell_block h, Nat.zero_add, ← Array.getElem?_toList]
  exact h1⟩
theorem run_h1 (w : World) : Calls Tryz.prog 6 #[.slice (some ⟨w.heap.size, 0, none⟩) 3 3] (w.alloc (.cells #[.bool false, .int .i64 5, .bool false, .int .i64 3, .bool true, .int .i64 0] 36)) fun e w' => ∃ oa oc, e = .returned (.tuple #[.slice oa 1 oc, .agg #[.int .i64 2, .int .i64 1, .int .i64 4, .int .i64 2, .int .i64 0, .int .i64 2]]) ∧ HasS LI w' ⟨[⟨3, 1, 0⟩], oa, oc⟩ ∧ Upd [] w w' := by
  have hr := PRun_has (some ⟨w.heap.size, 0, none⟩) 3 hO1 _ (row_of_block (heap_alloc1 w (.cells #[.bool false, .int .i64 5, .bool false, .int .i64 3, .bool true, .int .i64 0] 36)) (l := hO1) rfl) (by decide) hO1_bd
  refine Calls.mono hr ?_
  rintro e w' ⟨oa, oc, rfl, h1, _, h3⟩
  have e1 : runW hO1 hO1.length = ⟨⟨6, [], [], [⟨5, 0, 0⟩], 4, 2⟩, [⟨3, 1, 0⟩], 2, 0, 2⟩ := h1_run
  rw [e1] at h1 ⊢
  exact ⟨oa, oc, rfl, h1, ((Upd.refl [] w).alloc _).thn h3⟩
theorem run_h2 (la : Option Addr) (lc : Nat) (w : World) (ho : Row LW w la hO2) : Calls Tryz.prog 6 #[.slice la 21 lc] w fun e w' => ∃ oa oc ins pn mv cp, e = .returned (.tuple #[.slice oa 1 oc, .agg #[.int .i64 ins, .int .i64 pn, .int .i64 mv, .int .i64 cp, .int .i64 1, .int .i64 20]]) ∧ HasS LI w' ⟨[⟨981, 19, 0⟩], oa, oc⟩ ∧ Upd [] w w' := by
  have hr := PRun_has la lc hO2 w ho (by decide) hO2_bd
  refine Calls.mono hr ?_
  rintro e w' ⟨oa, oc, rfl, h1, _, h3⟩
  have e0 : hO2.length = 21 := by decide
  rw [e0] at h1 ⊢
  obtain ⟨e1, e2, e3⟩ := h2_run
  rw [e1] at h1 ⊢
  rw [e2, e3]
  exact ⟨oa, oc, _, _, _, _, rfl, h1, h3⟩
theorem sorted_h2 (la : Option Addr) (lc : Nat) (w : World) (ho : Row LW w la hO2) : Calls Tryz.prog 9 #[.slice la 21 lc] w fun e w' => ∃ oa oc, e = .returned (.slice oa 1 oc) ∧ Upd [] w w' := by
  have hr := PSorted_has la lc hO2 w ho (by decide) hO2_bd
  refine Calls.mono hr ?_
  rintro e w' ⟨oa, oc, rfl, h1, _, h3⟩
  have e0 : hO2.length = 21 := by decide
  rw [e0, h2_run.1]
  exact ⟨oa, oc, rfl, h3⟩
end Go.Proofs.YtpabapjodcafkaaGreat
namespace Go.Proofs.YtpabapjodcafkaaGreat
open Go.RowKit Go.Lib

theorem hG_succ (k : Nat) : hG (k + 1) = hG k ++ [⟨false, 1000 - (k : Int)⟩] := by
  unfold hG
  rw [List.range_succ, List.map_append]
  rfl
theorem flat_nil_w {w : World} (base : Nat) (e : TypeId) : w.ownsRow base e LW.k (.slice none 0 0) 0 (LW.flat []) := ⟨rfl, .inl ⟨rfl, rfl⟩⟩
set_option maxRecDepth 100000 in
set_option maxHeartbeats 8000000 in
theorem head_true (w : World) : Calls Tryz.prog 4 #[] w fun e w' => e = .returned (.bool true) ∧ Upd [] w w' := by
  have HR1 := Lib.hid run_h1
  have HR2 := Lib.hid run_h2
  have HR3 := Lib.hid sorted_h2
  have HGS := Lib.hid hG_succ
  have HG0 : Hid (hG 0 = []) := rfl
  have HO2 : Hid (hG 20 ++ [⟨true, 0⟩] = hO2) := rfl
  generalize hO2 = O2 at *
  generalize hG = G at *
  go_enter Tryz.func4, Tryz.ntmps4
  go_upto_region 2 with (go_at_call 6; (with_reducible refine (HR1.out w).mono ?_); rintro e w1 ⟨oa, oc, rfl, h1, h2⟩; simp only)
  have hal := (Upd.refl [] w1).alloc (.cells #[.int .i64 2, .int .i64 1, .int .i64 4, .int .i64 2, .int .i64 0, .int .i64 2] 28)
  have b1 := heap_alloc1 w1 (.cells #[.int .i64 2, .int .i64 1, .int .i64 4, .int .i64 2, .int .i64 0, .int .i64 2] 28)
  generalize w1.alloc (.cells #[.int .i64 2, .int .i64 1, .int .i64 4, .int .i64 2, .int .i64 0, .int .i64 2] 28) = W1 at *
  generalize w1.heap.size = P1 at *
  have HA := Lib.hid (h1.stay hal); have HU1 := Lib.hid (h2.thn hal); have HB1 := Lib.hid b1
  clear h1 h2 hal b1 HR1
  go_wp2_with fail
  go_loopg [3, 4] 20 (fun gk v3 v4 wr => ∃ (k : Nat) (va : Option Addr) (vc : Nat), v3 = .slice va k vc ∧ v4 = .int .i64 k ∧ k + gk = 20 ∧ Hid (wr.ownsRow W1.heap.size 36 LW.k (.slice va k vc) k (LW.flat (G k))) ∧ Hid (Upd [] W1 wr))
  case atStart => exact ⟨0, none, 0, rfl, rfl, by omega, by rw [HG0.out]; exact flat_nil_w _ _, Upd.refl [] W1⟩
  case round =>
    obtain ⟨k, va, vc, rfl, rfl, hkg, HOW, HUR⟩ := hrel
    by_cases hlt : k < 20
    · have hltz : (k : Int) < 20 := by omega
      have hwk : IntKind.i64.wrap ((k : Int) + 1) = (k : Int) + 1 := by rw [IntKind.wrap_i64]; omega
      have hwt : IntKind.i64.wrap (1000 - (k : Int)) = 1000 - (k : Int) := by rw [IntKind.wrap_i64]; omega
      have HSK := Lib.hid (HGS.out k)
      have hsz := HUR.out.size
      obtain ⟨u, hu⟩ : ∃ u : Int, u = 1000 - (k : Int) := ⟨_, rfl⟩
      rw [← hu] at HSK
      rw [← hu] at hwt
      have hu2 : (1000 : Int) - (k : Int) = u := hu.symm
      have hu5 := (Upd.refl [] wr).alloc (.cells #[.bool false, .int .i64 u] 36)
      have HR2x := Lib.hid (work_cells (x := ⟨false, u⟩) (heap_alloc1 wr (.cells #[.bool false, .int .i64 u] 36)))
      have HO5 := Lib.hid (hu5.row HOW.out (by simp))
      have HU5 := Lib.hid (HUR.out.thn hu5)
      clear hu hu5
      go_upto_region 6 with (fail)
      go_upto_region 5 with (at_builtin; refine app_row tyW rfl _ _ rfl W1.heap.size (.slice va k vc) k (G k) rfl HO5.out (some ⟨wr.heap.size, 0, none⟩) 1 1 [⟨false, u⟩] rfl rfl HR2x.out (fun e => by simp at e) (by omega) (by simp; omega) ?_; intro v2 w2 hown2 hgrow2; obtain ⟨va2, vc2, rfl⟩ := row_shape hown2)
      have HO3 := Lib.hid hown2
      have HU6 : Hid (Upd [] W1 w2) := HU5.out.grown hgrow2 (fun x hx hl => by have := own_ge HOW.out x hx; omega)
      clear hown2 hgrow2
      go_wp2_with fail
      go_roundg (20 - (k + 1))
      case measure => omega
      case rel => exact ⟨k + 1, va2, vc2, rfl, by go_num, by omega, by rw [HSK.out]; exact HO3, HU6⟩
    · have hltz : ¬ (k : Int) < 20 := by omega
      obtain rfl : k = 20 := by omega
      have hsz := HUR.out.size
      have hu5 := (Upd.refl [] wr).alloc (.cells #[.bool true, .int .i64 0] 36)
      have HR2x := Lib.hid (work_cells (x := ⟨true, 0⟩) (heap_alloc1 wr (.cells #[.bool true, .int .i64 0] 36)))
      have HO5 := Lib.hid (hu5.row HOW.out (by simp))
      have HU5 := Lib.hid (HUR.out.thn hu5)
      clear hu5
      go_upto_region 8 with (at_builtin; refine app_row tyW rfl _ _ rfl W1.heap.size (.slice va 20 vc) 20 (G 20) rfl HO5.out (some ⟨wr.heap.size, 0, none⟩) 1 1 [⟨true, 0⟩] rfl rfl HR2x.out (fun e => by simp at e) (by omega) (by simp; omega) ?_; intro v2 w2 hown2 hgrow2; obtain ⟨va2, vc2, rfl⟩ := row_shape hown2)
      have HU6 : Hid (Upd [] W1 w2) := HU5.out.grown hgrow2 (fun x hx hl => by have := own_ge HOW.out x hx; omega)
      rw [HO2.out] at hown2
      obtain ⟨_, ad3, cap3, e3, hS3, _⟩ := hasS_row hown2
      simp only [Value.slice.injEq, true_and] at e3
      obtain ⟨rfl, rfl⟩ := e3
      have HRW := Lib.hid hS3.row
      have HRN := Lib.hid (HR2.out va2 vc2 w2 hS3.row)
      clear hown2 hgrow2 hS3 HR2 HO5 HR2x HOW HU5 HUR hsz hltz hlt hkg
      go_upto_region 9 with (go_at_call 6; (with_reducible refine HRN.out.mono ?_); rintro e w3 ⟨oa2, oc2, ins, pn, mv, cp, rfl, h1, h2⟩; simp only)
      have hal := (Upd.refl [] w3).alloc (.cells #[.int .i64 ins, .int .i64 pn, .int .i64 mv, .int .i64 cp, .int .i64 1, .int .i64 20] 28)
      have b3 := heap_alloc1 w3 (.cells #[.int .i64 ins, .int .i64 pn, .int .i64 mv, .int .i64 cp, .int .i64 1, .int .i64 20] 28)
      generalize w3.alloc (.cells #[.int .i64 ins, .int .i64 pn, .int .i64 mv, .int .i64 cp, .int .i64 1, .int .i64 20] 28) = W3 at *
      generalize w3.heap.size = P3 at *
      have hu13 : Upd [] W1 W3 := HU6.out.thn (h2.thn hal)
      obtain ⟨ba, fa, rfl, x0, x1, x2⟩ := (HA.out.stay hu13).row.item 0 (by simp)
      obtain ⟨bb, fb, rfl, y0, y1, y2⟩ := (h1.stay hal).row.item 0 (by simp)
      simp only [List.getElem_cons_zero, Nat.zero_mul, Nat.add_zero] at x0 x1 x2 y0 y1 y2
      obtain ⟨m0, m1, m2, m3, m4, m5⟩ := cells6 (hu13.at HB1.out (by simp))
      obtain ⟨n0, n1, n2, n3, n4, n5⟩ := cells6 b3
      have HFU := Lib.hid (HU1.out.thn hu13)
      have HSO := Lib.hid (HR3.out va2 vc2 W3 (HRW.out.stay (h2.thn hal)))
      have HMB : Hid (∀ W, Calls Tryz.prog 11 #[.int .i64 2] W fun e w' => e = .returned (.int .i64 12) ∧ W = w') := fun W => PMoveBound_has 2 W (by decide)
      have HCB : Hid (∀ W, Calls Tryz.prog 13 #[.int .i64 2] W fun e w' => e = .returned (.int .i64 10) ∧ W = w') := fun W => PCompareBound_has 2 W (by decide)
      clear h1 h2 hal hu13 b3 HA HB1 HU1 HU6 HRN HRW HR3 HGS HG0 HO2 n0 n1 n2 n3
      go_wp2_with (first
        | (go_at_call 11; (with_reducible refine (HMB.out _).mono ?_); rintro e w' ⟨rfl, rfl⟩)
        | (go_at_call 13; (with_reducible refine (HCB.out _).mono ?_); rintro e w' ⟨rfl, rfl⟩)
        | (go_at_call 9; (with_reducible refine HSO.out.mono ?_); rintro e w4 ⟨oa4, oc4, rfl, h4⟩; have HFV := Lib.hid (HFU.out.thn h4); clear h4))
      go_ret
      exact ⟨rfl, HFV.out⟩
end Go.Proofs.YtpabapjodcafkaaGreat
