/- The reference's New and Same. -/
import Derived.Test.YtbalfkdeemgclaaRE
namespace Go.Proofs.Ytbalfkdeemgclaa
open Go.RowKit

theorem hcells_push (k : Nat) : hcells (List.replicate k ((false, 0) : Bool × Int)) ++ [.int .i64 (-1)] = hcells (List.replicate (k + 1) ((false, 0) : Bool × Int)) := by
  rw [List.replicate_succ']; simp [hcells, hold]
theorem rnew_mid {F : List Nat} {p bw m k : Nat} {w W0 w1 : World} (h : RMem F p bw (zeroSt m k) w) {vm : Value} (hvm : w.cell? ⟨p, 1, none⟩ = some vm) (hU : Upd [] w W0) (hg : W0.grownBy w1 vm.ownBlock) : w1.cell? ⟨p, 1, none⟩ = some vm ∧ w1.frozen? ⟨p, 1, none⟩ = false := by
  obtain ⟨vm', vl, rfl, hne, hp, hw, hm, hl⟩ := h
  have hv : vm' = vm := by simpa [cell_block hp] using hvm
  subst hv
  have hU1 : Upd vm'.ownBlock.toList w w1 := (hU.mono (by simp)).grown hg (fun k hk _ => by simp [hk])
  have hp1 := hU1.at hp (fun hx => ne_own hp hm (by decide) (toList_of hx))
  exact ⟨by simp [cell_block hp1], free_block hp1 _⟩
theorem rnew_end {F : List Nat} {p bw m k : Nat} {w W0 w1 : World} (h : RMem F p bw (zeroSt m k) w) {vm : Value} (hvm : w.cell? ⟨p, 1, none⟩ = some vm) (hU : Upd [] w W0) (hg : W0.grownBy w1 vm.ownBlock) {g cap H : Nat}
    (ho : w1.ownsRow 0 3 1 (.slice (some ⟨g, 0, none⟩) (k + 1) cap) (k + 1) (hcells (List.replicate k ((false, 0) : Bool × Int)) ++ [.int .i64 (-1)])) (hat : vm.ownBlock = some g ∨ g = H) (hH : w.heap.size ≤ H) :
    ∃ F', RMem F' p bw (zeroSt m (k + 1)) (w1.setCell ⟨p, 1, none⟩ (.slice (some ⟨g, 0, none⟩) (k + 1) cap)) ∧ Goes F F' w (w1.setCell ⟨p, 1, none⟩ (.slice (some ⟨g, 0, none⟩) (k + 1) cap)) := by
  obtain ⟨vm', vl, rfl, hne, hp, hw, hm, hl⟩ := h
  have hv : vm' = vm := by simpa [cell_block hp] using hvm
  subst hv
  have hU1 : Upd vm'.ownBlock.toList w w1 := (hU.mono (by simp)).grown hg (fun k hk _ => by simp [hk])
  have hp1 := hU1.at hp (fun hx => ne_own hp hm (by decide) (toList_of hx))
  have hw1 := hU1.at hw (fun hx => hne (toList_of hx))
  have hlo : ∀ x, vl.ownBlock = some x → vm'.ownBlock ≠ some x := by
    intro x hx he
    rcases hl.2 with ⟨rfl, _⟩ | ⟨g2, cap2, cur2, rfl, _, hg2, _⟩
    · simp [Value.ownBlock] at hx
    · simp only [Value.ownBlock, Option.some.injEq] at hx
      exact ne_own hg2 hm (by decide) (by rw [he, ← hx])
  have hl1 := hU1.row hl (fun x hx hx' => hlo x hx (toList_of hx'))
  have hgb : g ≠ bw := by
    rcases hat with hat | hat
    · intro e; exact hne (by rw [hat, e])
    · have := lt_block hw; omega
  have hpo := ne_own hp1 ho (by decide)
  refine ⟨p :: bw :: ((Value.slice (some ⟨g, 0, none⟩) (k + 1) cap).ownBlock.toList ++ vl.ownBlock.toList), ⟨_, vl, rfl, by simpa [Value.ownBlock] using hgb, ?_, ?_, ?_, ?_⟩, ?_, ?_⟩
  · rw [setCell_block hp1]; simp [zeroSt]
  · rw [Below.heap_setCell _ _ _ _ (ne_block hw1 hp1 (by decide)), hw1]; simp [zeroSt]
  · have := row_setCell ho hpo (.slice (some ⟨g, 0, none⟩) (k + 1) cap) (a := ⟨p, 1, none⟩)
    rw [hcells_push] at this
    simpa [zeroSt] using this
  · have := row_setCell hl1 (ne_own hp1 hl1 (by decide)) (.slice (some ⟨g, 0, none⟩) (k + 1) cap) (a := ⟨p, 1, none⟩)
    simpa [zeroSt] using this
  · refine ((hU1.mono ?_).setCell (by simp) _)
    intro x hx
    simp only [List.mem_cons, List.mem_append]
    exact .inr (.inr (.inl hx))
  · intro x hx
    simp only [List.mem_cons, List.mem_append] at hx ⊢
    rcases hx with rfl | rfl | hx | hx
    · simp
    · simp
    · have hg' : x = g := by simpa [Value.ownBlock] using hx
      subst hg'
      rcases hat with hat | hat
      · exact .inl (.inr (.inr (.inl (by simp [hat]))))
      · exact .inr (by omega)
    · exact .inl (.inr (.inr (.inr hx)))
theorem rmem_row {F : List Nat} {p bw m k : Nat} {w : World} (h : RMem F p bw (zeroSt m k) w) : ∃ vm, w.cell? ⟨p, 1, none⟩ = some vm ∧ w.ownsRow 0 3 1 vm k (hcells (List.replicate k ((false, 0) : Bool × Int))) := by
  obtain ⟨vm, vl, rfl, hne, hp, hw, hm, hl⟩ := h
  exact ⟨vm, by simp [cell_block hp], by simpa [zeroSt] using hm⟩

def RnRel (w : World) (p bw m n g : Nat) (i : Value) (wr : World) : Prop :=
  ∃ k F, i = .int .i64 (k : Nat) ∧ k + g = n ∧ RMem F p bw (zeroSt m k) wr ∧ (∀ x ∈ F, w.heap.size ≤ x) ∧ Upd [] w wr

set_option maxRecDepth 100000 in
set_option maxHeartbeats 2000000 in
theorem RNew_yes (m n : Nat) (hm : m ≤ 256) (hn : n ≤ 256) (w : World) :
    Calls Try.prog 11 #[.int .i64 m, .int .i64 n] w fun e w' => ∃ p bw F, e = .returned (.pointer (some ⟨p, 0, none⟩)) ∧ RMem F p bw (zeroSt m n) w' ∧ (∀ x ∈ F, w.heap.size ≤ x) ∧ Upd [] w w' := by
  have m0 : decide ((m : Int) < 0) = false := by simp
  have m1 : decide (256 < (m : Int)) = false := by simp; omega
  have n0 : decide ((n : Int) < 0) = false := by simp
  have n1 : decide (256 < (n : Int)) = false := by simp; omega
  have hmk := mk_any 37 3 (.int .i64 0) 1 8 Try.underlying37 info3 m (by omega) (by omega) ((List.replicate m (0 : Int)).map (Value.int .i64)).toArray (made_ints m)
  generalize hZ : ((List.replicate m (0 : Int)).map (Value.int .i64)).toArray = Z at *
  have HZ := Lib.hid hZ; clear hZ
  go_enter Try.func11, Try.ntmps11
  go_wp2_with fail
  have hrm : RMem [w.heap.size + 1, w.heap.size] (w.heap.size + 1) w.heap.size (zeroSt m 0) ((w.alloc (.cells Z 3)).alloc (.cells #[.slice (some ⟨w.heap.size, 0, none⟩) m m, .slice none 0 0, .slice none 0 0, .int .i64 0] 40)) :=
    ⟨.slice none 0 0, .slice none 0 0, rfl, by simp [Value.ownBlock], by rw [heap_alloc2]; simp [zeroSt], by rw [((Upd.refl [] _).alloc _).at (heap_alloc1 w _) (by simp), ← HZ.out]; rfl, World.ownsRow_nil _ _ _ _, World.ownsRow_nil _ _ _ _⟩
  have HRM := Lib.hid hrm; clear hrm
  go_loopg [6] n (fun g i wr => RnRel w (w.heap.size + 1) w.heap.size m n g i wr)
  case atStart =>
    refine ⟨0, _, rfl, by omega, HRM.out, ?_, ((Upd.refl [] w).alloc _).alloc _⟩
    intro x hx
    simp only [List.mem_cons, List.not_mem_nil, or_false] at hx
    omega
  case round =>
    obtain ⟨k, F, rfl, hkg, hM, hF, hU⟩ := hrel
    by_cases hk : k < n
    · obtain ⟨vm, hvm, hrow⟩ := rmem_row hM
      have lp := hM.lt _ hM.p_mem.1
      have fp := (hM.free 1).1
      have HM := Lib.hid hM; have HF := Lib.hid hF; have HU := Lib.hid hU; have HROW := Lib.hid hrow
      clear hM hF hU hrow
      obtain ⟨i0, hi0, hz0, hz1, hz2⟩ := info_parts info3
      go_wp2_with (at_builtin; refine wpList_append_lies _ rfl _ _ 37 rfl 0 3 i0 _ 1 8 Try.underlying37 hi0 hz0 hz1 hz2 rfl (by decide) vm k _ rfl (by exact HROW.out.alloc _) ⟨wr.heap.size, 0, none⟩ 1 1 [.int .i64 (-1)] rfl rfl (by exact World.news_of_block (cs := #[.int .i64 (-1)]) (heap_alloc1 _ _)) (by simp [Value.oneCell']) (by decide) (by simp [maxLen]; omega) (by omega) (Nat.zero_le _) _ rfl ?_; intro g cap w1 hown hgrow hat hlt; obtain ⟨hp1, hf1⟩ := rnew_mid HM.out hvm ((Upd.refl [] wr).alloc _) hgrow; have Hown := Lib.hid hown; have Hat := Lib.hid hat; have HG := Lib.hid hgrow; clear hown hat hgrow)
      obtain ⟨F', hM', hG'⟩ := rnew_end HM.out hvm ((Upd.refl [] wr).alloc _) HG.out Hown.out Hat.out (by simp)
      go_roundg (gk - 1)
      case measure => omega
      case rel => exact ⟨k + 1, F', by go_num, by omega, hM', fun x hx => (hG'.2 x hx).elim (HF.out x) (fun h => Nat.le_trans HU.out.size h), HU.out.trans hG'.1 (fun x hx hl => absurd (HF.out x hx) (by omega))⟩
    · obtain rfl : k = n := by omega
      go_wp2_with fail
      go_ret
      exact ⟨_, _, F, rfl, hM, hF, hU⟩
set_option maxHeartbeats 2000000 in
theorem RNew_no (m n : Int) (h : ¬ (0 ≤ m ∧ m ≤ 256 ∧ 0 ≤ n ∧ n ≤ 256)) (w : World) :
    Calls Try.prog 11 #[.int .i64 m, .int .i64 n] w fun e w' => e = .returned (.pointer none) ∧ w = w' := by
  have hc : decide (m < 0) = true ∨ (decide (m < 0) = false ∧ decide (256 < m) = true) ∨ (decide (m < 0) = false ∧ decide (256 < m) = false ∧ decide (n < 0) = true) ∨ (decide (m < 0) = false ∧ decide (256 < m) = false ∧ decide (n < 0) = false ∧ decide (256 < n) = true) := by
    simp; omega
  clear h
  rcases hc with a1 | ⟨a1, a2⟩ | ⟨a1, a2, a3⟩ | ⟨a1, a2, a3, a4⟩
  all_goals
    go_enter Try.func11, Try.ntmps11
    go_wp2_with fail
    go_ret
    exact ⟨rfl, rfl⟩
end Go.Proofs.Ytbalfkdeemgclaa
