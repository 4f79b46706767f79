/- Arguments opened: bounds of integers. -/
import Derived.Test.YtiapdlinpnpcpaaF
import Derived.ProofKit
import Derived.OpenShut
namespace Go.Proofs.Ytiapdlinpnpcpaa
open Go.ChangeShapes Go.WideShapes Go.ChangeAt Go.RowKit

theorem u8_bd {n : Int} (h : (Lit.int .u8 n).wf = true) : 0 ≤ n ∧ n < 256 := by
  have := bounds_u8 h
  omega
theorem u64_bd {n : Int} (h : (Lit.int .u64 n).wf = true) : 0 ≤ n ∧ n < 18446744073709551616 := by
  have := bounds_u64 h
  omega
theorem own_knob : ownKnob Try.prog.godebug = none := by kernel_rfl
end Go.Proofs.Ytiapdlinpnpcpaa
