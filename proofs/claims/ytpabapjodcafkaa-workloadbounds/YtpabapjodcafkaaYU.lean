
/- Contracts: MoveBound, CompareBound; the examples of the law's head, of layer 9. -/
import Derived.Test.YtpabapjodcafkaaYT
namespace Go.Proofs.Ytpabapjodcafkaa
open Go.RowKit Go.Lib

theorem PMoveBound_has (n : Nat) (w : World) (h : n ≤ 1000000) : Calls Try.prog 10 #[.int .i64 (n : Nat)] w fun e w' => e = .returned (.int .i64 (6 * (n : Int))) ∧ w = w' := by
  have hw : IntKind.i64.wrap (6 * (n : Int)) = 6 * (n : Int) := by rw [IntKind.wrap_i64]; omega
  go_enter Try.func10, Try.ntmps10
  go_wp2_with fail
  go_ret
  exact ⟨rfl, rfl⟩
theorem PCompareBound_has (n : Nat) (w : World) (h : n ≤ 1000000) : Calls Try.prog 11 #[.int .i64 (n : Nat)] w fun e w' => e = .returned (.int .i64 (5 * (n : Int))) ∧ w = w' := by
  have hw : IntKind.i64.wrap (5 * (n : Int)) = 5 * (n : Int) := by rw [IntKind.wrap_i64]; omega
  go_enter Try.func11, Try.ntmps11
  go_wp2_with fail
  go_ret
  exact ⟨rfl, rfl⟩
def hO1 : List Wo := [⟨false, 5⟩, ⟨false, 3⟩, ⟨true, 0⟩]
def hG (k : Nat) : List Wo := (List.range k).map (fun (i : Nat) => ⟨false, 1000 - (i : Int)⟩)
def hO2 : List Wo := hG 20 ++ [⟨true, 0⟩]
theorem hO1_bd : ∀ o ∈ hO1, 0 ≤ o.t ∧ o.t ≤ MaxT := by
  intro o ho
  simp only [hO1, List.mem_cons, List.not_mem_nil, or_false] at ho
  unfold MaxT
  rcases ho with rfl | rfl | rfl <;> decide
theorem hO2_bd : ∀ o ∈ hO2, 0 ≤ o.t ∧ o.t ≤ MaxT := by
  intro o ho
  unfold MaxT
  rcases List.mem_append.1 ho with ho | ho
  · obtain ⟨i, hi, rfl⟩ := List.mem_map.1 ho
    have := List.mem_range.1 hi
    simp only; omega
  · obtain rfl := List.mem_singleton.1 ho
    decide
def hL2 : Ld := ⟨0, [⟨5, 0, 0⟩, ⟨3, 1, 0⟩], [], [], 2, 2⟩
def hL3 : Ld := ⟨6, [], [], [⟨3, 1, 0⟩, ⟨5, 0, 0⟩], 4, 2⟩
theorem h1_two : runW hO1 2 = ⟨hL2, [], 2, 0, 2⟩ := by kernel_rfl
theorem h1_step : stepL hL2 = hL3 := by kernel_rfl
theorem h1_pop : popL hL2 = (⟨6, [], [], [⟨5, 0, 0⟩], 4, 2⟩, ⟨3, 1, 0⟩, true) := by
  have g2 : GoodL hL2 := by have := (okW hO1 hO1_bd 2).reach.good; rw [h1_two] at this; exact this
  have m2 : More hL2 := ⟨rfl, .inr (by simp [hL2])⟩
  have e : refillL hL2 = hL3 := by rw [refill_step g2 m2, h1_step, refill_stop (fun h => by have := h.1; simp [hL3] at this)]
  have hb : (refillL hL2).bot = ⟨3, 1, 0⟩ :: [⟨5, 0, 0⟩] := by rw [e]; rfl
  rw [(peek_yes hb).2, e]
  rfl
theorem h1_run : runW hO1 3 = ⟨⟨6, [], [], [⟨5, 0, 0⟩], 4, 2⟩, [⟨3, 1, 0⟩], 2, 0, 2⟩ := by
  have h : runW hO1 3 = stepW (runW hO1 2) 2 ⟨true, 0⟩ := runW_succ (os := hO1) (k := 2) (by decide)
  rw [h, h1_two]
  simp only [stepW, nxtW, if_true, h1_pop]
  rfl
def hT20 : List It := (List.range 20).map (fun (i : Nat) => ⟨1000 - (i : Int), (i : Int), 0⟩)
def hM0 : Ld := ⟨0, hT20, [], [], 20, 20⟩
def hM1 : Ld := stepL hM0
def hM2 : Ld := stepL hM1
theorem h2_ins : runW hO2 20 = ⟨hM0, [], 20, 0, 20⟩ := by kernel_rfl
theorem h2_b1 : hM1.bot = [] := by kernel_rfl
theorem h2_r1 : hM1.rs.length = 1 := by kernel_rfl
theorem h2_b2 : hM2.bot = ⟨981, 19, 0⟩ :: [⟨982, 18, 0⟩, ⟨983, 17, 0⟩] := by kernel_rfl
theorem h2_r2 : hM2.rs.length = 1 := by kernel_rfl
theorem h2_len : lenD { hM2 with bot := [⟨982, 18, 0⟩, ⟨983, 17, 0⟩] } = 19 := by kernel_rfl
theorem h2_pop : popL hM0 = ({ hM2 with bot := [⟨982, 18, 0⟩, ⟨983, 17, 0⟩] }, ⟨981, 19, 0⟩, true) := by
  have g0 : GoodL hM0 := by have := (okW hO2 hO2_bd 20).reach.good; rw [h2_ins] at this; exact this
  have m0 : More hM0 := ⟨rfl, .inr (by simp [hM0, hT20])⟩
  have g1 : GoodL hM1 := (step_ok g0 m0.1 m0.2).good
  have m1 : More hM1 := ⟨h2_b1, .inl (fun e => by have := h2_r1; rw [e] at this; simp at this)⟩
  have e : refillL hM0 = hM2 := by
    rw [refill_step g0 m0]
    show refillL hM1 = hM2
    rw [refill_step g1 m1]
    show refillL hM2 = hM2
    exact refill_stop (fun h => by have := h.1; rw [h2_b2] at this; simp at this)
  have hb : (refillL hM0).bot = ⟨981, 19, 0⟩ :: [⟨982, 18, 0⟩, ⟨983, 17, 0⟩] := by rw [e]; exact h2_b2
  rw [(peek_yes hb).2, e]
theorem h2_run : (runW hO2 21).out = [⟨981, 19, 0⟩] ∧ (runW hO2 21).dep = 1 ∧ (runW hO2 21).mx = 20 := by
  have h : runW hO2 21 = stepW (runW hO2 20) 20 ⟨true, 0⟩ := runW_succ (os := hO2) (k := 20) (by decide)
  rw [h, h2_ins]
  simp only [stepW, nxtW, if_true, h2_pop, h2_len]
  refine ⟨rfl, ?_, rfl⟩
  show max 0 hM2.rs.length = 1
  rw [h2_r2]
  rfl
theorem row_of_block {w : World} {g : Nat} {c : Array Value} {t : TypeId} {f : Nat × Nat} {l : List Wo} (h : w.heap[g]? = some (.cells c t f)) (hc : c.toList = LW.flat l) : Row LW w (some ⟨g, 0, none⟩) l := fun j hj => ⟨g, 0, rfl, fun t u hu => by
  have h1 := LW.flat_at l j hj t u hu
  rw [← hc] at h1
  rw [cell_block h, Nat.zero_add, ← Array.getElem?_toList]
  exact h1⟩
theorem run_h1 (w : World) : Calls Try.prog 9 #[.slice (some ⟨w.heap.size, 0, none⟩) 3 3] (w.alloc (.cells #[.bool false, .int .i64 5, .bool false, .int .i64 3, .bool true, .int .i64 0] 31)) fun e w' => ∃ oa oc, e = .returned (.tuple #[.slice oa 1 oc, .agg #[.int .i64 2, .int .i64 1, .int .i64 4, .int .i64 2, .int .i64 0, .int .i64 2]]) ∧ HasS LI w' ⟨[⟨3, 1, 0⟩], oa, oc⟩ ∧ Upd [] w w' := by
  have hr := PRun_has (some ⟨w.heap.size, 0, none⟩) 3 hO1 _ (row_of_block (heap_alloc1 w (.cells #[.bool false, .int .i64 5, .bool false, .int .i64 3, .bool true, .int .i64 0] 31)) (l := hO1) rfl) (by decide) hO1_bd
  refine Calls.mono hr ?_
  rintro e w' ⟨oa, oc, rfl, h1, _, h3⟩
  have e1 : runW hO1 hO1.length = ⟨⟨6, [], [], [⟨5, 0, 0⟩], 4, 2⟩, [⟨3, 1, 0⟩], 2, 0, 2⟩ := h1_run
  rw [e1] at h1 ⊢
  exact ⟨oa, oc, rfl, h1, ((Upd.refl [] w).alloc _).thn h3⟩
theorem run_h2 (la : Option Addr) (lc : Nat) (w : World) (ho : Row LW w la hO2) : Calls Try.prog 9 #[.slice la 21 lc] w fun e w' => ∃ oa oc ins pn mv cp, e = .returned (.tuple #[.slice oa 1 oc, .agg #[.int .i64 ins, .int .i64 pn, .int .i64 mv, .int .i64 cp, .int .i64 1, .int .i64 20]]) ∧ HasS LI w' ⟨[⟨981, 19, 0⟩], oa, oc⟩ ∧ Upd [] w w' := by
  have hr := PRun_has la lc hO2 w ho (by decide) hO2_bd
  refine Calls.mono hr ?_
  rintro e w' ⟨oa, oc, rfl, h1, _, h3⟩
  have e0 : hO2.length = 21 := by decide
  rw [e0] at h1 ⊢
  obtain ⟨e1, e2, e3⟩ := h2_run
  rw [e1] at h1 ⊢
  rw [e2, e3]
  exact ⟨oa, oc, _, _, _, _, rfl, h1, h3⟩
theorem sorted_h2 (la : Option Addr) (lc : Nat) (w : World) (ho : Row LW w la hO2) : Calls Try.prog 13 #[.slice la 21 lc] w fun e w' => ∃ oa oc, e = .returned (.slice oa 1 oc) ∧ Upd [] w w' := by
  have hr := PSorted_has la lc hO2 w ho (by decide) hO2_bd
  refine Calls.mono hr ?_
  rintro e w' ⟨oa, oc, rfl, h1, _, h3⟩
  have e0 : hO2.length = 21 := by decide
  rw [e0, h2_run.1]
  exact ⟨oa, oc, rfl, h3⟩
end Go.Proofs.Ytpabapjodcafkaa
