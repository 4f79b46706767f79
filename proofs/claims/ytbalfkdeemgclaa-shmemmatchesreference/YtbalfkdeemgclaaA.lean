/- Contracts of the small functions of package shmem. -/
import Derived.Test.YtbalfkdeemgclaaRows
import Derived.WalkKit
import Derived.WalkSpells
import Derived.WalkLawsBesides
import Derived.BigQuiet
import Derived.Deep.QuietTactic
namespace Go.Proofs.Ytbalfkdeemgclaa
open Go.RowKit

set_option maxHeartbeats 400000 in
theorem validSize_any (n : Int) (w : World) :
    Calls Try.prog 27 #[.int .i64 n] w fun e w' => e = .returned (.bool (decide (0 ≤ n) && decide (n ≤ 256))) ∧ w = w' := by
  by_cases h0 : 0 ≤ n
  · go_enter Try.func27, Try.ntmps27
    go_wp2
    go_ret
    exact ⟨by simp [h0], rfl⟩
  · have h0' : decide (0 ≤ n) = false := by simpa using h0
    go_enter Try.func27, Try.ntmps27
    go_wp2
    go_ret
    exact ⟨by simp, rfl⟩

set_option maxHeartbeats 400000 in
theorem heldBy_any (h : Bool) (t n : Int) (w : World) :
    Calls Try.prog 36 #[.agg #[.bool h, .int .i64 t], .int .i64 n] w fun e w' =>
      e = .returned (.bool (h && (t == n))) ∧ w' = w.alloc (.cells #[.bool h, .int .i64 t] 65) := by
  cases h
  all_goals
    go_enter Try.func36, Try.ntmps36
    go_wp2
    go_ret
    exact ⟨by simp, rfl⟩

def b2i (b : Bool) : Int := if b then 1 else 0
set_option maxHeartbeats 400000 in
theorem logged_any (h : Bool) (t : Int) (w : World) :
    Calls Try.prog 43 #[.agg #[.bool h, .int .i64 t]] w fun e w' =>
      e = .returned (.int .i64 (b2i h)) ∧ w' = w.alloc (.cells #[.bool h, .int .i64 t] 65) := by
  cases h
  all_goals
    go_enter Try.func43, Try.ntmps43
    go_wp2
    go_ret
    exact ⟨by simp [b2i], rfl⟩

end Go.Proofs.Ytbalfkdeemgclaa
