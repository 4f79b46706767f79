/-
  No cell of these rows narrows 'for every input' (looked for: loops, veiled, ifaces, maps, wideKeys, modest, calm, conditions, laid).
  DERIVED. THE GIVEN ROWS OF THIS SEAT. 4 by the template 'for every input the law returns true; each argument reads behind the call as it read before'; 0 by the template 'total and deterministic' (their statements: YtpabapjodcafkaaTotals.lean).
  GIVEN WITH THE SEED: the statements are not yours to turn. If you find one false, say at which input.
  Laid BY PROGRAM, IN A SANDBOX (cutbox-rows.mjs): the forced cells as the released guide's own fill.sh prints them over the translation d8a2ff438c10243b… (all of the seat's roots in one cut). By AI agents, Wed Nov 11 2026. No macro, syntax, notation, axiom, sorry.
-/
import Derived.Test.YtpabapjodcafkaaChecked
import GoSem.Claim
import GoSem.ClaimJoined
import GoSem.ClaimMapViews
import Derived.JoinedTies
import Derived.KernelRfl
namespace Go.Proofs.Ytpabapjodcafkaa
/- THE CELL 'sum', in the pinned program and in every row, IS THE sha256 OF THE DUMP (.gsa) THAT YtpabapjodcafkaaProg.lean LOADS. Nothing in Lean hashes anything: it is a label: what it is worth is what the hold of that sum in a sandbox is worth. -/
noncomputable def Try.pinned : Pinned := { name := "ytpabapjodcafkaa", sum := "d8a2ff438c10243bc277c5c9bad87af8ab59bad2c5add70fe2c9f8dd5772dc7f", checked := Try.checked }
namespace Rows
def none {H : Type} : Left H := { results := [], args := [] }

/-- 'ropeladderlaw09.WorkloadBounds': WHATEVER THE INPUT: true; the input reads as it did. -/
def workloadBoundsSpec : ChangeSpec := { name := "workloadBounds", fn := fun _ => fun
  | [d] => { results := [.lit (.bool true)], args := [d] }
  | _ => none }
def workloadBoundsRow : OpenClaim := { program := "ytpabapjodcafkaa", sum := "d8a2ff438c10243bc277c5c9bad87af8ab59bad2c5add70fe2c9f8dd5772dc7f", func := "ropeladder/ropeladderlaw09.WorkloadBounds", spec := "workloadBounds", inPlace := ["slices.overlaps[ropeladder/api.Item]"], unfollowed := true, recurses := true, apart := false }
def WorkloadBoundsSaid : Prop := workloadBoundsRow.holds Try.pinned (OpenSpec.ofChange workloadBoundsSpec)

/-- ITS FALSE NEIGHBOUR: 'it returns false'. Refute it at one input. -/
def workloadBoundsWrong : ChangeSpec := { name := "workloadBounds", fn := fun _ => fun
  | [d] => { results := [.lit (.bool false)], args := [d] }
  | _ => none }
def WorkloadBoundsWrongFalsely : Prop := workloadBoundsRow.holds Try.pinned (OpenSpec.ofChange workloadBoundsWrong)

/-- 'ropeladderlaw09.WorkloadEquivalent': WHATEVER THE INPUT: true; the input reads as it did. -/
def workloadEquivalentSpec : ChangeSpec := { name := "workloadEquivalent", fn := fun _ => fun
  | [d] => { results := [.lit (.bool true)], args := [d] }
  | _ => none }
def workloadEquivalentRow : OpenClaim := { program := "ytpabapjodcafkaa", sum := "d8a2ff438c10243bc277c5c9bad87af8ab59bad2c5add70fe2c9f8dd5772dc7f", func := "ropeladder/ropeladderlaw09.WorkloadEquivalent", spec := "workloadEquivalent", inPlace := ["slices.overlaps[ropeladder/api.Item]"], unfollowed := true, recurses := true, apart := false }
def WorkloadEquivalentSaid : Prop := workloadEquivalentRow.holds Try.pinned (OpenSpec.ofChange workloadEquivalentSpec)

/-- ITS FALSE NEIGHBOUR: 'it returns false'. Refute it at one input. -/
def workloadEquivalentWrong : ChangeSpec := { name := "workloadEquivalent", fn := fun _ => fun
  | [d] => { results := [.lit (.bool false)], args := [d] }
  | _ => none }
def WorkloadEquivalentWrongFalsely : Prop := workloadEquivalentRow.holds Try.pinned (OpenSpec.ofChange workloadEquivalentWrong)

/-- 'ropeladderlaw09.WorkloadDrains': WHATEVER THE INPUT: true; the input reads as it did. -/
def workloadDrainsSpec : ChangeSpec := { name := "workloadDrains", fn := fun _ => fun
  | [d] => { results := [.lit (.bool true)], args := [d] }
  | _ => none }
def workloadDrainsRow : OpenClaim := { program := "ytpabapjodcafkaa", sum := "d8a2ff438c10243bc277c5c9bad87af8ab59bad2c5add70fe2c9f8dd5772dc7f", func := "ropeladder/ropeladderlaw09.WorkloadDrains", spec := "workloadDrains", inPlace := ["slices.overlaps[ropeladder/api.Item]"], unfollowed := true, recurses := true, apart := false }
def WorkloadDrainsSaid : Prop := workloadDrainsRow.holds Try.pinned (OpenSpec.ofChange workloadDrainsSpec)

/-- ITS FALSE NEIGHBOUR: 'it returns false'. Refute it at one input. -/
def workloadDrainsWrong : ChangeSpec := { name := "workloadDrains", fn := fun _ => fun
  | [d] => { results := [.lit (.bool false)], args := [d] }
  | _ => none }
def WorkloadDrainsWrongFalsely : Prop := workloadDrainsRow.holds Try.pinned (OpenSpec.ofChange workloadDrainsWrong)

/-- 'ropeladderlaw09.WorkloadShifted': WHATEVER THE INPUT: true; the input reads as it did. -/
def workloadShiftedSpec : ChangeSpec := { name := "workloadShifted", fn := fun _ => fun
  | [d1, d2] => { results := [.lit (.bool true)], args := [d1, d2] }
  | _ => none }
def workloadShiftedRow : OpenClaim := { program := "ytpabapjodcafkaa", sum := "d8a2ff438c10243bc277c5c9bad87af8ab59bad2c5add70fe2c9f8dd5772dc7f", func := "ropeladder/ropeladderlaw09.WorkloadShifted", spec := "workloadShifted", inPlace := ["slices.overlaps[ropeladder/api.Item]"], unfollowed := true, recurses := true, apart := false }
def WorkloadShiftedSaid : Prop := workloadShiftedRow.holds Try.pinned (OpenSpec.ofChange workloadShiftedSpec)

/-- ITS FALSE NEIGHBOUR: 'it returns false'. Refute it at one input. -/
def workloadShiftedWrong : ChangeSpec := { name := "workloadShifted", fn := fun _ => fun
  | [d1, d2] => { results := [.lit (.bool false)], args := [d1, d2] }
  | _ => none }
def WorkloadShiftedWrongFalsely : Prop := workloadShiftedRow.holds Try.pinned (OpenSpec.ofChange workloadShiftedWrong)

/- THE SECOND FORM. 'bulk': how many values and letters a reading holds, each counted each time it is reached (what is shared counts as often as it is met; a slice's spare places count too). A statement '..UptoSaid' is the law's where the arguments, and the package variables that the reading takes, are together of bulk at most 1048576: NARROWER than '..Said'. Prove '..Said' where nothing that the law and all that it calls make is longer than what came in: it says more and counts as full. Else prove '..UptoSaid'. A law counts once. -/
mutual
def uptoBulk {H : Type} : DataW H → Nat
  | .lit (.string bytes) => bytes.length + 1
  | .lit _ => 1
  | .nil => 1
  | .ptr d => uptoBulk d + 1
  | .slice elems spare => uptoBulkAll elems + uptoBulkAll spare + 1
  | .agg parts => uptoBulkAll parts + 1
  | .iface _ d => uptoBulk d + 1
  | .map entries => uptoBulkEntries entries + 1
  | .held _ => 1
def uptoBulkAll {H : Type} : List (DataW H) → Nat
  | [] => 0
  | d :: r => uptoBulk d + uptoBulkAll r
def uptoBulkEntries {H : Type} : List (Lit × DataW H) → Nat
  | [] => 0
  | x :: r => uptoBulkEntry x + uptoBulkEntries r
def uptoBulkEntry {H : Type} : Lit × DataW H → Nat
  | (.string bytes, d) => bytes.length + uptoBulk d + 1
  | (_, d) => uptoBulk d + 1
 end
def uptoSmall : (H : Type) → List (DataW H) → Bool := fun _ ds => decide (uptoBulkAll ds ≤ 1048576)
def OpenSpec.upto (s : _root_.Go.ChangeSpec) : _root_.Go.OpenSpec := { _root_.Go.OpenSpec.ofChange s with cond := some uptoSmall }

/-- 'ropeladderlaw09.WorkloadBounds', WHERE WHAT IT READS IS OF BULK AT MOST 1048576: true; the input reads as it did. -/
def workloadBoundsUptoRow : OpenClaim := { program := "ytpabapjodcafkaa", sum := "d8a2ff438c10243bc277c5c9bad87af8ab59bad2c5add70fe2c9f8dd5772dc7f", func := "ropeladder/ropeladderlaw09.WorkloadBounds", spec := "workloadBounds", inPlace := ["slices.overlaps[ropeladder/api.Item]"], unfollowed := true, recurses := true, apart := false, narrowed := true }
def WorkloadBoundsUptoSaid : Prop := workloadBoundsUptoRow.holds Try.pinned (OpenSpec.upto workloadBoundsSpec)

/-- 'ropeladderlaw09.WorkloadEquivalent', WHERE WHAT IT READS IS OF BULK AT MOST 1048576: true; the input reads as it did. -/
def workloadEquivalentUptoRow : OpenClaim := { program := "ytpabapjodcafkaa", sum := "d8a2ff438c10243bc277c5c9bad87af8ab59bad2c5add70fe2c9f8dd5772dc7f", func := "ropeladder/ropeladderlaw09.WorkloadEquivalent", spec := "workloadEquivalent", inPlace := ["slices.overlaps[ropeladder/api.Item]"], unfollowed := true, recurses := true, apart := false, narrowed := true }
def WorkloadEquivalentUptoSaid : Prop := workloadEquivalentUptoRow.holds Try.pinned (OpenSpec.upto workloadEquivalentSpec)

/-- 'ropeladderlaw09.WorkloadDrains', WHERE WHAT IT READS IS OF BULK AT MOST 1048576: true; the input reads as it did. -/
def workloadDrainsUptoRow : OpenClaim := { program := "ytpabapjodcafkaa", sum := "d8a2ff438c10243bc277c5c9bad87af8ab59bad2c5add70fe2c9f8dd5772dc7f", func := "ropeladder/ropeladderlaw09.WorkloadDrains", spec := "workloadDrains", inPlace := ["slices.overlaps[ropeladder/api.Item]"], unfollowed := true, recurses := true, apart := false, narrowed := true }
def WorkloadDrainsUptoSaid : Prop := workloadDrainsUptoRow.holds Try.pinned (OpenSpec.upto workloadDrainsSpec)

/-- 'ropeladderlaw09.WorkloadShifted', WHERE WHAT IT READS IS OF BULK AT MOST 1048576: true; the input reads as it did. -/
def workloadShiftedUptoRow : OpenClaim := { program := "ytpabapjodcafkaa", sum := "d8a2ff438c10243bc277c5c9bad87af8ab59bad2c5add70fe2c9f8dd5772dc7f", func := "ropeladder/ropeladderlaw09.WorkloadShifted", spec := "workloadShifted", inPlace := ["slices.overlaps[ropeladder/api.Item]"], unfollowed := true, recurses := true, apart := false, narrowed := true }
def WorkloadShiftedUptoSaid : Prop := workloadShiftedUptoRow.holds Try.pinned (OpenSpec.upto workloadShiftedSpec)

end Rows
end Go.Proofs.Ytpabapjodcafkaa
