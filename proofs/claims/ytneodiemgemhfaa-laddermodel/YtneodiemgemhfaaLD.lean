/- Contracts: slices.Grow of nil, slices.Concat over rows of items. -/
import Derived.Test.YtneodiemgemhfaaLC
namespace Go.Proofs.Ytneodiemgemhfaa
open Go.RowKit Go.Lib

set_option maxRecDepth 100000 in
set_option maxHeartbeats 4000000 in
theorem Grow_has (n : Nat) (w : World) (hn : n ≤ 100000) :
    Calls Try.prog 59 #[.slice none 0 0, .int .i64 n] w fun e w' => ∃ va vc, e = .returned (.slice va 0 vc) ∧ w'.ownsRow w.heap.size 34 3 (.slice va 0 vc) 0 [] ∧ Upd [] w w' := by
  by_cases h0 : 0 < n
  · obtain ⟨i0, z, b, hi0, hz0, hz1, hz2, hz3, hb⟩ := tyI.info
    have hz1' : i0.size = 3 := hz1
    have hold : (Builtin.firstCells i0.size 0 (.slice none 0 0)).run Try.prog w.drew = .ok ([] : List Value).toArray w.drew := run_firstCells_none w.drew _ 0 0 0
    obtain ⟨G, hG⟩ : ∃ G, G = grownCap w n 0 34 := ⟨_, rfl⟩
    obtain ⟨ROW, hROW⟩ : ∃ ROW : Array Value, ROW = ([] : List Value).toArray ++ Builtin.zeroCells z.cells n ++ Builtin.zeroCells z.cells (G - n) := ⟨_, rfl⟩
    have hrz : ∀ ty, (Builtin.append_ #[24, 3] ty #[.slice none 0 0, .int .i64 (n : Int)]).run Try.prog w = .ok (.slice (some ⟨w.heap.size, 0, none⟩) n G) (w.drew.alloc (.cells ROW 34)) := fun ty => by
      have h := Lib.run_append_grow_zeros (P := Try.prog) w 24 3 ty 34 i0 z .i64 .i64 Try.underlying24 Try.underlying3 hi0 hz0 none 0 0 [] hold n h0 (by omega) (by omega) (by omega) (by rw [hz2]; exact Nat.le_trans (Nat.mul_le_mul hn hb) (by decide)) (by
        rw [Nat.zero_add]
        exact growslice_fits h0 (by rw [hz2]; exact Nat.le_trans (Nat.mul_le_mul hn hb) (by decide)))
      rw [Nat.zero_add, ← hG, ← hROW] at h
      exact h
    have hGn : n ≤ G := by rw [hG]; exact grownCap_ge w _ _ _
    have hGm : G ≤ maxLen := by rw [hG]; exact grownCap_le_maxLen w n 0 34 (by unfold maxLen; omega)
    have hzs : z.cells.size = 3 := hz3
    have hRs : ROW.size = G * 3 := by
      rw [hROW]
      simp only [Array.size_append, zeroCells_size, hzs, List.size_toArray, List.length_nil]
      omega
    have HFN : Hid (∀ W', W' = (w.alloc (.cells ROW 34)).drew → W'.ownsRow w.heap.size 34 3 (.slice (some ⟨w.heap.size, 0, none⟩) 0 G) 0 [] ∧ Upd [] w W') := fun W' hW' => by
      subst hW'
      refine ⟨⟨rfl, .inr ⟨w.heap.size, G, ROW, rfl, Nat.le_refl _, heap_alloc1 w _, Nat.zero_le _, hGm, hRs, by simp⟩⟩, ((Upd.refl [] w).alloc _).drew⟩
    have hw1 : IntKind.i64.wrap (n : Int) = (n : Int) := by rw [IntKind.wrap_i64]; omega
    have hd0 : decide ((n : Int) < 0) = false := decide_eq_false (by omega)
    have hd1 : decide ((0 : Int) < (n : Int)) = true := decide_eq_true (by omega)
    have hd2 : decide (0 < n) = true := by simpa using h0
    have hG63 : G ≤ 9223372036854775807 := hGm
    clear hold hG hROW hGm hRs hz1' hz1 hz2 hz3 hzs hi0 hz0 hb
    go_enter Try.func59, Try.ntmps59
    go_wp2_with (at_builtin; refine Lib.wpList_append_run _ rfl _ _ _ _ rfl _ _ rfl rfl _ _ (hrz _) ?_)
    go_ret
    obtain ⟨h1, h2⟩ := HFN.out _ rfl
    exact ⟨_, _, rfl, h1, h2⟩
  · obtain rfl : n = 0 := by omega
    go_enter Try.func59, Try.ntmps59
    go_wp2_with fail
    go_ret
    exact ⟨_, _, rfl, World.ownsRow_nil _ _ _ _, Upd.refl _ _⟩
end Go.Proofs.Ytneodiemgemhfaa
