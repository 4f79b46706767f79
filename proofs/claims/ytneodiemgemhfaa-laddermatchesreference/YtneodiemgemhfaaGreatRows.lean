/-
  No cell of these rows narrows 'for every input' (looked for: loops, veiled, ifaces, maps, wideKeys, modest, calm, conditions, laid).
  DERIVED. THE GIVEN ROWS OF THIS SEAT. 5 by the template 'for every input the law returns true; each argument reads behind the call as it read before'; 0 by the template 'total and deterministic' (their statements: YtneodiemgemhfaaGreatTotals.lean).
  GIVEN WITH THE SEED: the statements are not yours to turn. If you find one false, say at which input.
  Laid BY PROGRAM, IN A SANDBOX (cutbox-rows.mjs): the forced cells as the released guide's own fill.sh prints them over the translation 0af65876b7b715f1… (all of the seat's roots in one cut). By AI agents, Wed Nov 11 2026. No macro, syntax, notation, axiom, sorry.
-/
import Derived.Test.YtneodiemgemhfaaGreatChecked
import GoSem.Claim
import GoSem.ClaimJoined
import GoSem.ClaimMapViews
import Derived.JoinedTies
import Derived.KernelRfl
namespace Go.Proofs.YtneodiemgemhfaaGreat
/- THE CELL 'sum', in the pinned program and in every row, IS THE sha256 OF THE DUMP (.gsa) THAT YtneodiemgemhfaaGreatProg.lean LOADS. Nothing in Lean hashes anything: it is a label: what it is worth is what the hold of that sum in a sandbox is worth. -/
noncomputable def Tryz.pinned : Pinned := { name := "ytneodiemgemhfaagreat", sum := "0af65876b7b715f16d6829e2711c97c3511073a38ce171d80b5e9f1fa1d2a1bd", checked := Tryz.checked }
namespace Rows
def none {H : Type} : Left H := { results := [], args := [] }

/-- 'ropeladderlaw08.LadderMatchesReference': WHATEVER THE INPUT: true; the input reads as it did. -/
def ladderMatchesReferenceSpec : ChangeSpec := { name := "ladderMatchesReference", fn := fun _ => fun
  | [d1, d2, d3] => { results := [.lit (.bool true)], args := [d1, d2, d3] }
  | _ => none }
def ladderMatchesReferenceRow : OpenClaim := { program := "ytneodiemgemhfaagreat", sum := "0af65876b7b715f16d6829e2711c97c3511073a38ce171d80b5e9f1fa1d2a1bd", func := "ropeladder/ropeladderlaw08.LadderMatchesReference", spec := "ladderMatchesReference", inPlace := ["slices.overlaps[ropeladder/api.Item]"], unfollowed := true, recurses := true, apart := false }
def LadderMatchesReferenceSaid : Prop := ladderMatchesReferenceRow.holds Tryz.pinned (OpenSpec.ofChange ladderMatchesReferenceSpec)

/-- ITS FALSE NEIGHBOUR: 'it returns false'. Refute it at one input. -/
def ladderMatchesReferenceWrong : ChangeSpec := { name := "ladderMatchesReference", fn := fun _ => fun
  | [d1, d2, d3] => { results := [.lit (.bool false)], args := [d1, d2, d3] }
  | _ => none }
def LadderMatchesReferenceWrongFalsely : Prop := ladderMatchesReferenceRow.holds Tryz.pinned (OpenSpec.ofChange ladderMatchesReferenceWrong)

/-- 'ropeladderlaw08.LadderInvariant': WHATEVER THE INPUT: true; the input reads as it did. -/
def ladderInvariantSpec : ChangeSpec := { name := "ladderInvariant", fn := fun _ => fun
  | [d1, d2] => { results := [.lit (.bool true)], args := [d1, d2] }
  | _ => none }
def ladderInvariantRow : OpenClaim := { program := "ytneodiemgemhfaagreat", sum := "0af65876b7b715f16d6829e2711c97c3511073a38ce171d80b5e9f1fa1d2a1bd", func := "ropeladder/ropeladderlaw08.LadderInvariant", spec := "ladderInvariant", inPlace := ["slices.overlaps[ropeladder/api.Item]"], unfollowed := true, recurses := true, apart := false }
def LadderInvariantSaid : Prop := ladderInvariantRow.holds Tryz.pinned (OpenSpec.ofChange ladderInvariantSpec)

/-- ITS FALSE NEIGHBOUR: 'it returns false'. Refute it at one input. -/
def ladderInvariantWrong : ChangeSpec := { name := "ladderInvariant", fn := fun _ => fun
  | [d1, d2] => { results := [.lit (.bool false)], args := [d1, d2] }
  | _ => none }
def LadderInvariantWrongFalsely : Prop := ladderInvariantRow.holds Tryz.pinned (OpenSpec.ofChange ladderInvariantWrong)

/-- 'ropeladderlaw08.LadderSorts': WHATEVER THE INPUT: true; the input reads as it did. -/
def ladderSortsSpec : ChangeSpec := { name := "ladderSorts", fn := fun _ => fun
  | [d] => { results := [.lit (.bool true)], args := [d] }
  | _ => none }
def ladderSortsRow : OpenClaim := { program := "ytneodiemgemhfaagreat", sum := "0af65876b7b715f16d6829e2711c97c3511073a38ce171d80b5e9f1fa1d2a1bd", func := "ropeladder/ropeladderlaw08.LadderSorts", spec := "ladderSorts", inPlace := ["slices.overlaps[ropeladder/api.Item]"], unfollowed := true, recurses := true, apart := false }
def LadderSortsSaid : Prop := ladderSortsRow.holds Tryz.pinned (OpenSpec.ofChange ladderSortsSpec)

/-- ITS FALSE NEIGHBOUR: 'it returns false'. Refute it at one input. -/
def ladderSortsWrong : ChangeSpec := { name := "ladderSorts", fn := fun _ => fun
  | [d] => { results := [.lit (.bool false)], args := [d] }
  | _ => none }
def LadderSortsWrongFalsely : Prop := ladderSortsRow.holds Tryz.pinned (OpenSpec.ofChange ladderSortsWrong)

/-- 'ropeladderlaw08.LadderPeeks': WHATEVER THE INPUT: true; the input reads as it did. -/
def ladderPeeksSpec : ChangeSpec := { name := "ladderPeeks", fn := fun _ => fun
  | [d1, d2] => { results := [.lit (.bool true)], args := [d1, d2] }
  | _ => none }
def ladderPeeksRow : OpenClaim := { program := "ytneodiemgemhfaagreat", sum := "0af65876b7b715f16d6829e2711c97c3511073a38ce171d80b5e9f1fa1d2a1bd", func := "ropeladder/ropeladderlaw08.LadderPeeks", spec := "ladderPeeks", inPlace := ["slices.overlaps[ropeladder/api.Item]"], unfollowed := true, recurses := true, apart := false }
def LadderPeeksSaid : Prop := ladderPeeksRow.holds Tryz.pinned (OpenSpec.ofChange ladderPeeksSpec)

/-- ITS FALSE NEIGHBOUR: 'it returns false'. Refute it at one input. -/
def ladderPeeksWrong : ChangeSpec := { name := "ladderPeeks", fn := fun _ => fun
  | [d1, d2] => { results := [.lit (.bool false)], args := [d1, d2] }
  | _ => none }
def LadderPeeksWrongFalsely : Prop := ladderPeeksRow.holds Tryz.pinned (OpenSpec.ofChange ladderPeeksWrong)

/-- 'ropeladderlaw08.LadderRoutes': WHATEVER THE INPUT: true; the input reads as it did. -/
def ladderRoutesSpec : ChangeSpec := { name := "ladderRoutes", fn := fun _ => fun
  | [d1, d2] => { results := [.lit (.bool true)], args := [d1, d2] }
  | _ => none }
def ladderRoutesRow : OpenClaim := { program := "ytneodiemgemhfaagreat", sum := "0af65876b7b715f16d6829e2711c97c3511073a38ce171d80b5e9f1fa1d2a1bd", func := "ropeladder/ropeladderlaw08.LadderRoutes", spec := "ladderRoutes", inPlace := ["slices.overlaps[ropeladder/api.Item]"], unfollowed := true, recurses := true, apart := false }
def LadderRoutesSaid : Prop := ladderRoutesRow.holds Tryz.pinned (OpenSpec.ofChange ladderRoutesSpec)

/-- ITS FALSE NEIGHBOUR: 'it returns false'. Refute it at one input. -/
def ladderRoutesWrong : ChangeSpec := { name := "ladderRoutes", fn := fun _ => fun
  | [d1, d2] => { results := [.lit (.bool false)], args := [d1, d2] }
  | _ => none }
def LadderRoutesWrongFalsely : Prop := ladderRoutesRow.holds Tryz.pinned (OpenSpec.ofChange ladderRoutesWrong)

/- THE SECOND FORM. 'bulk': how many values and letters a reading holds, each counted each time it is reached (what is shared counts as often as it is met; a slice's spare places count too). A statement '..UptoSaid' is the law's where the arguments, and the package variables that the reading takes, are together of bulk at most 1048576: NARROWER than '..Said'. Prove '..Said' where nothing that the law and all that it calls make is longer than what came in: it says more and counts as full. Else prove '..UptoSaid'. A law counts once. -/
mutual
def uptoBulk {H : Type} : DataW H → Nat
  | .lit (.string bytes) => bytes.length + 1
  | .lit _ => 1
  | .nil => 1
  | .ptr d => uptoBulk d + 1
  | .slice elems spare => uptoBulkAll elems + uptoBulkAll spare + 1
  | .agg parts => uptoBulkAll parts + 1
  | .iface _ d => uptoBulk d + 1
  | .map entries => uptoBulkEntries entries + 1
  | .held _ => 1
def uptoBulkAll {H : Type} : List (DataW H) → Nat
  | [] => 0
  | d :: r => uptoBulk d + uptoBulkAll r
def uptoBulkEntries {H : Type} : List (Lit × DataW H) → Nat
  | [] => 0
  | x :: r => uptoBulkEntry x + uptoBulkEntries r
def uptoBulkEntry {H : Type} : Lit × DataW H → Nat
  | (.string bytes, d) => bytes.length + uptoBulk d + 1
  | (_, d) => uptoBulk d + 1
 end
def uptoSmall : (H : Type) → List (DataW H) → Bool := fun _ ds => decide (uptoBulkAll ds ≤ 1048576)
def OpenSpec.upto (s : _root_.Go.ChangeSpec) : _root_.Go.OpenSpec := { _root_.Go.OpenSpec.ofChange s with cond := some uptoSmall }

/-- 'ropeladderlaw08.LadderMatchesReference', WHERE WHAT IT READS IS OF BULK AT MOST 1048576: true; the input reads as it did. -/
def ladderMatchesReferenceUptoRow : OpenClaim := { program := "ytneodiemgemhfaagreat", sum := "0af65876b7b715f16d6829e2711c97c3511073a38ce171d80b5e9f1fa1d2a1bd", func := "ropeladder/ropeladderlaw08.LadderMatchesReference", spec := "ladderMatchesReference", inPlace := ["slices.overlaps[ropeladder/api.Item]"], unfollowed := true, recurses := true, apart := false, narrowed := true }
def LadderMatchesReferenceUptoSaid : Prop := ladderMatchesReferenceUptoRow.holds Tryz.pinned (OpenSpec.upto ladderMatchesReferenceSpec)

/-- 'ropeladderlaw08.LadderInvariant', WHERE WHAT IT READS IS OF BULK AT MOST 1048576: true; the input reads as it did. -/
def ladderInvariantUptoRow : OpenClaim := { program := "ytneodiemgemhfaagreat", sum := "0af65876b7b715f16d6829e2711c97c3511073a38ce171d80b5e9f1fa1d2a1bd", func := "ropeladder/ropeladderlaw08.LadderInvariant", spec := "ladderInvariant", inPlace := ["slices.overlaps[ropeladder/api.Item]"], unfollowed := true, recurses := true, apart := false, narrowed := true }
def LadderInvariantUptoSaid : Prop := ladderInvariantUptoRow.holds Tryz.pinned (OpenSpec.upto ladderInvariantSpec)

/-- 'ropeladderlaw08.LadderSorts', WHERE WHAT IT READS IS OF BULK AT MOST 1048576: true; the input reads as it did. -/
def ladderSortsUptoRow : OpenClaim := { program := "ytneodiemgemhfaagreat", sum := "0af65876b7b715f16d6829e2711c97c3511073a38ce171d80b5e9f1fa1d2a1bd", func := "ropeladder/ropeladderlaw08.LadderSorts", spec := "ladderSorts", inPlace := ["slices.overlaps[ropeladder/api.Item]"], unfollowed := true, recurses := true, apart := false, narrowed := true }
def LadderSortsUptoSaid : Prop := ladderSortsUptoRow.holds Tryz.pinned (OpenSpec.upto ladderSortsSpec)

/-- 'ropeladderlaw08.LadderPeeks', WHERE WHAT IT READS IS OF BULK AT MOST 1048576: true; the input reads as it did. -/
def ladderPeeksUptoRow : OpenClaim := { program := "ytneodiemgemhfaagreat", sum := "0af65876b7b715f16d6829e2711c97c3511073a38ce171d80b5e9f1fa1d2a1bd", func := "ropeladder/ropeladderlaw08.LadderPeeks", spec := "ladderPeeks", inPlace := ["slices.overlaps[ropeladder/api.Item]"], unfollowed := true, recurses := true, apart := false, narrowed := true }
def LadderPeeksUptoSaid : Prop := ladderPeeksUptoRow.holds Tryz.pinned (OpenSpec.upto ladderPeeksSpec)

/-- 'ropeladderlaw08.LadderRoutes', WHERE WHAT IT READS IS OF BULK AT MOST 1048576: true; the input reads as it did. -/
def ladderRoutesUptoRow : OpenClaim := { program := "ytneodiemgemhfaagreat", sum := "0af65876b7b715f16d6829e2711c97c3511073a38ce171d80b5e9f1fa1d2a1bd", func := "ropeladder/ropeladderlaw08.LadderRoutes", spec := "ladderRoutes", inPlace := ["slices.overlaps[ropeladder/api.Item]"], unfollowed := true, recurses := true, apart := false, narrowed := true }
def LadderRoutesUptoSaid : Prop := ladderRoutesUptoRow.holds Tryz.pinned (OpenSpec.upto ladderRoutesSpec)

end Rows
end Go.Proofs.YtneodiemgemhfaaGreat
