/-
  No cell of these rows narrows 'for every input' (looked for: loops, veiled, ifaces, maps, wideKeys, modest, calm, conditions, laid).
  DERIVED. THE GIVEN ROWS OF THIS SEAT. 6 by the template 'for every input the law returns true; each argument reads behind the call as it read before'; 0 by the template 'total and deterministic' (their statements: YtpneljhplbkdkaaTotals.lean).
  GIVEN WITH THE SEED: the statements are not yours to turn. If you find one false, say at which input.
  Laid BY PROGRAM, IN A SANDBOX (cutbox-rows.mjs): the forced cells as the released guide's own fill.sh prints them over the translation 5edfc83b51d6813e… (all of the seat's roots in one cut). By AI agents, Wed Nov 11 2026. No macro, syntax, notation, axiom, sorry.
-/
import Derived.Test.YtpneljhplbkdkaaChecked
import GoSem.Claim
import GoSem.ClaimJoined
import GoSem.ClaimMapViews
import Derived.JoinedTies
import Derived.KernelRfl
namespace Go.Proofs.Ytpneljhplbkdkaa
/- THE CELL 'sum', in the pinned program and in every row, IS THE sha256 OF THE DUMP (.gsa) THAT YtpneljhplbkdkaaProg.lean LOADS. Nothing in Lean hashes anything: it is a label: what it is worth is what the hold of that sum in a sandbox is worth. -/
noncomputable def Try.pinned : Pinned := { name := "ytpneljhplbkdkaa", sum := "5edfc83b51d6813e4ea76f41fc6b0d65b477819cc2bb9d857b49c130285f6e64", checked := Try.checked }
namespace Rows
def none {H : Type} : Left H := { results := [], args := [] }

/-- 'ropeladderlaw10.PqmodelMatchesReference': WHATEVER THE INPUT: true; the input reads as it did. -/
def pqmodelMatchesReferenceSpec : ChangeSpec := { name := "pqmodelMatchesReference", fn := fun _ => fun
  | [d1, d2, d3, d4, d5, d6] => { results := [.lit (.bool true)], args := [d1, d2, d3, d4, d5, d6] }
  | _ => none }
def pqmodelMatchesReferenceRow : OpenClaim := { program := "ytpneljhplbkdkaa", sum := "5edfc83b51d6813e4ea76f41fc6b0d65b477819cc2bb9d857b49c130285f6e64", func := "ropeladder/ropeladderlaw10.PqmodelMatchesReference", spec := "pqmodelMatchesReference", inPlace := ["slices.overlaps[ropeladder/api.Entry]"], unfollowed := true, recurses := true, apart := false }
def PqmodelMatchesReferenceSaid : Prop := pqmodelMatchesReferenceRow.holds Try.pinned (OpenSpec.ofChange pqmodelMatchesReferenceSpec)

/-- ITS FALSE NEIGHBOUR: 'it returns false'. Refute it at one input. -/
def pqmodelMatchesReferenceWrong : ChangeSpec := { name := "pqmodelMatchesReference", fn := fun _ => fun
  | [d1, d2, d3, d4, d5, d6] => { results := [.lit (.bool false)], args := [d1, d2, d3, d4, d5, d6] }
  | _ => none }
def PqmodelMatchesReferenceWrongFalsely : Prop := pqmodelMatchesReferenceRow.holds Try.pinned (OpenSpec.ofChange pqmodelMatchesReferenceWrong)

/-- 'ropeladderlaw10.PqmodelInvariant': WHATEVER THE INPUT: true; the input reads as it did. -/
def pqmodelInvariantSpec : ChangeSpec := { name := "pqmodelInvariant", fn := fun _ => fun
  | [d1, d2, d3] => { results := [.lit (.bool true)], args := [d1, d2, d3] }
  | _ => none }
def pqmodelInvariantRow : OpenClaim := { program := "ytpneljhplbkdkaa", sum := "5edfc83b51d6813e4ea76f41fc6b0d65b477819cc2bb9d857b49c130285f6e64", func := "ropeladder/ropeladderlaw10.PqmodelInvariant", spec := "pqmodelInvariant", inPlace := ["slices.overlaps[ropeladder/api.Entry]"], unfollowed := true, recurses := true, apart := false }
def PqmodelInvariantSaid : Prop := pqmodelInvariantRow.holds Try.pinned (OpenSpec.ofChange pqmodelInvariantSpec)

/-- ITS FALSE NEIGHBOUR: 'it returns false'. Refute it at one input. -/
def pqmodelInvariantWrong : ChangeSpec := { name := "pqmodelInvariant", fn := fun _ => fun
  | [d1, d2, d3] => { results := [.lit (.bool false)], args := [d1, d2, d3] }
  | _ => none }
def PqmodelInvariantWrongFalsely : Prop := pqmodelInvariantRow.holds Try.pinned (OpenSpec.ofChange pqmodelInvariantWrong)

/-- 'ropeladderlaw10.PqmodelOrder': WHATEVER THE INPUT: true; the input reads as it did. -/
def pqmodelOrderSpec : ChangeSpec := { name := "pqmodelOrder", fn := fun _ => fun
  | [d1, d2, d3, d4] => { results := [.lit (.bool true)], args := [d1, d2, d3, d4] }
  | _ => none }
def pqmodelOrderRow : OpenClaim := { program := "ytpneljhplbkdkaa", sum := "5edfc83b51d6813e4ea76f41fc6b0d65b477819cc2bb9d857b49c130285f6e64", func := "ropeladder/ropeladderlaw10.PqmodelOrder", spec := "pqmodelOrder", inPlace := ["slices.overlaps[ropeladder/api.Entry]"], unfollowed := true, recurses := true, apart := false }
def PqmodelOrderSaid : Prop := pqmodelOrderRow.holds Try.pinned (OpenSpec.ofChange pqmodelOrderSpec)

/-- ITS FALSE NEIGHBOUR: 'it returns false'. Refute it at one input. -/
def pqmodelOrderWrong : ChangeSpec := { name := "pqmodelOrder", fn := fun _ => fun
  | [d1, d2, d3, d4] => { results := [.lit (.bool false)], args := [d1, d2, d3, d4] }
  | _ => none }
def PqmodelOrderWrongFalsely : Prop := pqmodelOrderRow.holds Try.pinned (OpenSpec.ofChange pqmodelOrderWrong)

/-- 'ropeladderlaw10.PqmodelOnce': WHATEVER THE INPUT: true; the input reads as it did. -/
def pqmodelOnceSpec : ChangeSpec := { name := "pqmodelOnce", fn := fun _ => fun
  | [d1, d2, d3, d4] => { results := [.lit (.bool true)], args := [d1, d2, d3, d4] }
  | _ => none }
def pqmodelOnceRow : OpenClaim := { program := "ytpneljhplbkdkaa", sum := "5edfc83b51d6813e4ea76f41fc6b0d65b477819cc2bb9d857b49c130285f6e64", func := "ropeladder/ropeladderlaw10.PqmodelOnce", spec := "pqmodelOnce", inPlace := ["slices.overlaps[ropeladder/api.Entry]"], unfollowed := true, recurses := true, apart := false }
def PqmodelOnceSaid : Prop := pqmodelOnceRow.holds Try.pinned (OpenSpec.ofChange pqmodelOnceSpec)

/-- ITS FALSE NEIGHBOUR: 'it returns false'. Refute it at one input. -/
def pqmodelOnceWrong : ChangeSpec := { name := "pqmodelOnce", fn := fun _ => fun
  | [d1, d2, d3, d4] => { results := [.lit (.bool false)], args := [d1, d2, d3, d4] }
  | _ => none }
def PqmodelOnceWrongFalsely : Prop := pqmodelOnceRow.holds Try.pinned (OpenSpec.ofChange pqmodelOnceWrong)

/-- 'ropeladderlaw10.PqmodelCapacity': WHATEVER THE INPUT: true; the input reads as it did. -/
def pqmodelCapacitySpec : ChangeSpec := { name := "pqmodelCapacity", fn := fun _ => fun
  | [d1, d2, d3, d4, d5] => { results := [.lit (.bool true)], args := [d1, d2, d3, d4, d5] }
  | _ => none }
def pqmodelCapacityRow : OpenClaim := { program := "ytpneljhplbkdkaa", sum := "5edfc83b51d6813e4ea76f41fc6b0d65b477819cc2bb9d857b49c130285f6e64", func := "ropeladder/ropeladderlaw10.PqmodelCapacity", spec := "pqmodelCapacity", inPlace := ["slices.overlaps[ropeladder/api.Entry]"], unfollowed := true, recurses := true, apart := false }
def PqmodelCapacitySaid : Prop := pqmodelCapacityRow.holds Try.pinned (OpenSpec.ofChange pqmodelCapacitySpec)

/-- ITS FALSE NEIGHBOUR: 'it returns false'. Refute it at one input. -/
def pqmodelCapacityWrong : ChangeSpec := { name := "pqmodelCapacity", fn := fun _ => fun
  | [d1, d2, d3, d4, d5] => { results := [.lit (.bool false)], args := [d1, d2, d3, d4, d5] }
  | _ => none }
def PqmodelCapacityWrongFalsely : Prop := pqmodelCapacityRow.holds Try.pinned (OpenSpec.ofChange pqmodelCapacityWrong)

/-- 'ropeladderlaw10.PqmodelAccepts': WHATEVER THE INPUT: true; the input reads as it did. -/
def pqmodelAcceptsSpec : ChangeSpec := { name := "pqmodelAccepts", fn := fun _ => fun
  | [d1, d2, d3, d4] => { results := [.lit (.bool true)], args := [d1, d2, d3, d4] }
  | _ => none }
def pqmodelAcceptsRow : OpenClaim := { program := "ytpneljhplbkdkaa", sum := "5edfc83b51d6813e4ea76f41fc6b0d65b477819cc2bb9d857b49c130285f6e64", func := "ropeladder/ropeladderlaw10.PqmodelAccepts", spec := "pqmodelAccepts", inPlace := ["slices.overlaps[ropeladder/api.Entry]"], unfollowed := true, recurses := true, apart := false }
def PqmodelAcceptsSaid : Prop := pqmodelAcceptsRow.holds Try.pinned (OpenSpec.ofChange pqmodelAcceptsSpec)

/-- ITS FALSE NEIGHBOUR: 'it returns false'. Refute it at one input. -/
def pqmodelAcceptsWrong : ChangeSpec := { name := "pqmodelAccepts", fn := fun _ => fun
  | [d1, d2, d3, d4] => { results := [.lit (.bool false)], args := [d1, d2, d3, d4] }
  | _ => none }
def PqmodelAcceptsWrongFalsely : Prop := pqmodelAcceptsRow.holds Try.pinned (OpenSpec.ofChange pqmodelAcceptsWrong)

/- THE SECOND FORM. 'bulk': how many values and letters a reading holds, each counted each time it is reached (what is shared counts as often as it is met; a slice's spare places count too). A statement '..UptoSaid' is the law's where the arguments, and the package variables that the reading takes, are together of bulk at most 1048576: NARROWER than '..Said'. Prove '..Said' where nothing that the law and all that it calls make is longer than what came in: it says more and counts as full. Else prove '..UptoSaid'. A law counts once. -/
mutual
def uptoBulk {H : Type} : DataW H → Nat
  | .lit (.string bytes) => bytes.length + 1
  | .lit _ => 1
  | .nil => 1
  | .ptr d => uptoBulk d + 1
  | .slice elems spare => uptoBulkAll elems + uptoBulkAll spare + 1
  | .agg parts => uptoBulkAll parts + 1
  | .iface _ d => uptoBulk d + 1
  | .map entries => uptoBulkEntries entries + 1
  | .held _ => 1
def uptoBulkAll {H : Type} : List (DataW H) → Nat
  | [] => 0
  | d :: r => uptoBulk d + uptoBulkAll r
def uptoBulkEntries {H : Type} : List (Lit × DataW H) → Nat
  | [] => 0
  | x :: r => uptoBulkEntry x + uptoBulkEntries r
def uptoBulkEntry {H : Type} : Lit × DataW H → Nat
  | (.string bytes, d) => bytes.length + uptoBulk d + 1
  | (_, d) => uptoBulk d + 1
 end
def uptoSmall : (H : Type) → List (DataW H) → Bool := fun _ ds => decide (uptoBulkAll ds ≤ 1048576)
def OpenSpec.upto (s : _root_.Go.ChangeSpec) : _root_.Go.OpenSpec := { _root_.Go.OpenSpec.ofChange s with cond := some uptoSmall }

/-- 'ropeladderlaw10.PqmodelMatchesReference', WHERE WHAT IT READS IS OF BULK AT MOST 1048576: true; the input reads as it did. -/
def pqmodelMatchesReferenceUptoRow : OpenClaim := { program := "ytpneljhplbkdkaa", sum := "5edfc83b51d6813e4ea76f41fc6b0d65b477819cc2bb9d857b49c130285f6e64", func := "ropeladder/ropeladderlaw10.PqmodelMatchesReference", spec := "pqmodelMatchesReference", inPlace := ["slices.overlaps[ropeladder/api.Entry]"], unfollowed := true, recurses := true, apart := false, narrowed := true }
def PqmodelMatchesReferenceUptoSaid : Prop := pqmodelMatchesReferenceUptoRow.holds Try.pinned (OpenSpec.upto pqmodelMatchesReferenceSpec)

/-- 'ropeladderlaw10.PqmodelInvariant', WHERE WHAT IT READS IS OF BULK AT MOST 1048576: true; the input reads as it did. -/
def pqmodelInvariantUptoRow : OpenClaim := { program := "ytpneljhplbkdkaa", sum := "5edfc83b51d6813e4ea76f41fc6b0d65b477819cc2bb9d857b49c130285f6e64", func := "ropeladder/ropeladderlaw10.PqmodelInvariant", spec := "pqmodelInvariant", inPlace := ["slices.overlaps[ropeladder/api.Entry]"], unfollowed := true, recurses := true, apart := false, narrowed := true }
def PqmodelInvariantUptoSaid : Prop := pqmodelInvariantUptoRow.holds Try.pinned (OpenSpec.upto pqmodelInvariantSpec)

/-- 'ropeladderlaw10.PqmodelOrder', WHERE WHAT IT READS IS OF BULK AT MOST 1048576: true; the input reads as it did. -/
def pqmodelOrderUptoRow : OpenClaim := { program := "ytpneljhplbkdkaa", sum := "5edfc83b51d6813e4ea76f41fc6b0d65b477819cc2bb9d857b49c130285f6e64", func := "ropeladder/ropeladderlaw10.PqmodelOrder", spec := "pqmodelOrder", inPlace := ["slices.overlaps[ropeladder/api.Entry]"], unfollowed := true, recurses := true, apart := false, narrowed := true }
def PqmodelOrderUptoSaid : Prop := pqmodelOrderUptoRow.holds Try.pinned (OpenSpec.upto pqmodelOrderSpec)

/-- 'ropeladderlaw10.PqmodelOnce', WHERE WHAT IT READS IS OF BULK AT MOST 1048576: true; the input reads as it did. -/
def pqmodelOnceUptoRow : OpenClaim := { program := "ytpneljhplbkdkaa", sum := "5edfc83b51d6813e4ea76f41fc6b0d65b477819cc2bb9d857b49c130285f6e64", func := "ropeladder/ropeladderlaw10.PqmodelOnce", spec := "pqmodelOnce", inPlace := ["slices.overlaps[ropeladder/api.Entry]"], unfollowed := true, recurses := true, apart := false, narrowed := true }
def PqmodelOnceUptoSaid : Prop := pqmodelOnceUptoRow.holds Try.pinned (OpenSpec.upto pqmodelOnceSpec)

/-- 'ropeladderlaw10.PqmodelCapacity', WHERE WHAT IT READS IS OF BULK AT MOST 1048576: true; the input reads as it did. -/
def pqmodelCapacityUptoRow : OpenClaim := { program := "ytpneljhplbkdkaa", sum := "5edfc83b51d6813e4ea76f41fc6b0d65b477819cc2bb9d857b49c130285f6e64", func := "ropeladder/ropeladderlaw10.PqmodelCapacity", spec := "pqmodelCapacity", inPlace := ["slices.overlaps[ropeladder/api.Entry]"], unfollowed := true, recurses := true, apart := false, narrowed := true }
def PqmodelCapacityUptoSaid : Prop := pqmodelCapacityUptoRow.holds Try.pinned (OpenSpec.upto pqmodelCapacitySpec)

/-- 'ropeladderlaw10.PqmodelAccepts', WHERE WHAT IT READS IS OF BULK AT MOST 1048576: true; the input reads as it did. -/
def pqmodelAcceptsUptoRow : OpenClaim := { program := "ytpneljhplbkdkaa", sum := "5edfc83b51d6813e4ea76f41fc6b0d65b477819cc2bb9d857b49c130285f6e64", func := "ropeladder/ropeladderlaw10.PqmodelAccepts", spec := "pqmodelAccepts", inPlace := ["slices.overlaps[ropeladder/api.Entry]"], unfollowed := true, recurses := true, apart := false, narrowed := true }
def PqmodelAcceptsUptoSaid : Prop := pqmodelAcceptsUptoRow.holds Try.pinned (OpenSpec.upto pqmodelAcceptsSpec)

end Rows
end Go.Proofs.Ytpneljhplbkdkaa
