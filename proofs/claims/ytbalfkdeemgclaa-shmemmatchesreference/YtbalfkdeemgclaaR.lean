/- record. -/
import Derived.Test.YtbalfkdeemgclaaF
import Derived.WalkSpells
import Derived.WalkLawsBesides
import Derived.Deep.RegionLaw
import Derived.OwnWalk
import Derived.Lib.Hide
namespace Go.Proofs.Ytbalfkdeemgclaa
open Go.RowKit

theorem info47 : (Try.prog.info? 47).map (fun i => (i.zero, i.size, i.bytes)) = some (some (.agg #[.int .i64 0, .int .i64 0, .int .i64 0, .int .i64 0, .int .i64 0, .bool false]), 6, 48) := by kernel_rfl

/-- What stands behind the append of record. -/
theorem record_mid {p : Nat} {c : Array Value} {vl : Value} {n : Nat} {xs : List Value} {w W0 w1 : World} (hp : w.heap[p]? = some (.cells c 69 (0, 0))) (ho : w.ownsRow 0 47 6 vl n xs)
    (hU : Upd [] w W0) (hg : W0.grownBy w1 vl.ownBlock) : w1.heap[p]? = some (.cells c 69 (0, 0)) ∧ Upd vl.ownBlock.toList w w1 := by
  have hne := ne_own hp ho (by decide)
  refine ⟨?_, ?_⟩
  · rw [hg.block p (Nat.lt_of_lt_of_le (lt_block hp) hU.size) (fun e => hne e.symm)]
    exact hU.at hp (by simp)
  · exact (hU.mono (by simp)).grown hg (fun k hk _ => by simp [hk])

theorem record_end {p : Nat} {c : Array Value} {vl v' : Value} {m : Nat} {ys : List Value} {w w1 : World} (hp : w1.heap[p]? = some (.cells c 69 (0, 0))) (ho : w1.ownsRow 0 47 6 v' m ys)
    (hu : Upd vl.ownBlock.toList w w1) : (w1.setCell ⟨p, 0, none⟩ v').ownsRow 0 47 6 v' m ys ∧ (w1.setCell ⟨p, 0, none⟩ v').heap[p]? = some (.cells (c.setIfInBounds 0 v') 69 (0, 0)) ∧
      Upd (p :: vl.ownBlock.toList) w (w1.setCell ⟨p, 0, none⟩ v') :=
  ⟨row_setCell ho (ne_own hp ho (by decide)) _, setCell_block hp _, (hu.mono (by intro x hx; exact List.mem_cons_of_mem _ hx)).setCell (by simp) _⟩

set_option maxHeartbeats 1000000 in
theorem record_any (p : Nat) (c : Array Value) (vl : Value) (n : Nat) (xs : List Value) (t k i x y : Int) (ok : Bool) (w : World)
    (hp : w.heap[p]? = some (.cells c 69 (0, 0))) (hc : c[0]? = some vl) (ho : w.ownsRow 0 47 6 vl n xs) (hn : n ≤ 1000000) :
    Calls Try.prog 42 #[.pointer (some ⟨p, 0, none⟩), .agg #[.int .i64 t, .int .i64 k, .int .i64 i, .int .i64 x, .int .i64 y, .bool ok]] w fun e w' => e = .returned (.tuple #[]) ∧ ∃ g cap, w'.ownsRow 0 47 6 (.slice (some ⟨g, 0, none⟩) (n + 1) cap) (n + 1) (xs ++ [.int .i64 t, .int .i64 k, .int .i64 i, .int .i64 x, .int .i64 y, .bool ok]) ∧
        w'.heap[p]? = some (.cells (c.setIfInBounds 0 (.slice (some ⟨g, 0, none⟩) (n + 1) cap)) 69 (0, 0)) ∧ Upd (p :: vl.ownBlock.toList) w w' ∧ (vl.ownBlock = some g ∨ w.heap.size ≤ g) := by
  have lp := lt_block hp
  have cp : w.cell? ⟨p, 0, none⟩ = some vl := by rw [cell_block hp, hc]
  have fp := free_block hp 0
  obtain ⟨i0, hi, hz0, hz1, hz2⟩ := info_parts info47
  have Ho := Lib.hid ho
  have Hp := Lib.hid hp
  have Hc := Lib.hid hc
  clear ho hp hc
  go_enter Try.func42, Try.ntmps42
  go_wp2_with fail
  go_region_law (refine step_append_lies _ rfl (.tmp 8) (.tmp 10) 38 rfl 0 47 i0 _ 6 48 Try.underlying38 hi hz0 hz1 hz2 rfl (by decide) vl n xs (by simp [Act.eval]) (by exact ((Ho.out.alloc _).alloc _).drew) ⟨w.heap.size + 1, 0, none⟩ 1 1 [.int .i64 t, .int .i64 k, .int .i64 i, .int .i64 x, .int .i64 y, .bool ok] (by simp [Act.eval]) rfl (by exact World.news_of_block (cs := #[.int .i64 t, .int .i64 k, .int .i64 i, .int .i64 x, .int .i64 y, .bool ok]) (heap_alloc2 _ _ _)) (by simp [Value.oneCell']) (by decide) (by simp [maxLen]; omega) (by omega) (Nat.zero_le _) _ rfl ?_; intro g cap w1 hown hgrow hat hlt; obtain ⟨hp1, hu1⟩ := record_mid Hp.out Ho.out (((Upd.refl [] w).alloc _).alloc _).drew hgrow; have cp1 : w1.cell? ⟨p, 0, none⟩ = some vl := (cell_block hp1 0).trans Hc.out; have fp1 := free_block hp1 0; have Hown := Lib.hid hown; have Hat := Lib.hid hat; have Hp1 := Lib.hid hp1; clear hown hat hp1 hgrow)
  all_goals
    go_wp2
    go_end0
    obtain ⟨e1, e2, e3⟩ := record_end Hp1.out Hown.out hu1
    exact ⟨rfl, g, cap, e1, e2, e3, Hat.out.imp id fun h => by rw [h]; simp [World.drew]; omega⟩
end Go.Proofs.Ytbalfkdeemgclaa
