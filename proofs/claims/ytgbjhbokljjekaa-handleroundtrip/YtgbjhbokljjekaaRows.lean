/-
  No cell of these rows narrows 'for every input' (looked for: loops, veiled, ifaces, maps, wideKeys, modest, calm, conditions, laid).
  DERIVED. THE GIVEN ROWS OF THIS SEAT. 5 by the template 'for every input the law returns true; each argument reads behind the call as it read before'; 0 by the template 'total and deterministic' (their statements: YtgbjhbokljjekaaTotals.lean).
  GIVEN WITH THE SEED: the statements are not yours to turn. If you find one false, say at which input.
  Laid BY PROGRAM, IN A SANDBOX (cutbox-rows.mjs): the forced cells as the released guide's own fill.sh prints them over the translation 2908913cb8317d92… (all of the seat's roots in one cut). By AI agents, Wed Nov 11 2026. No macro, syntax, notation, axiom, sorry.
-/
import Derived.Test.YtgbjhbokljjekaaChecked
import GoSem.Claim
import GoSem.ClaimJoined
import GoSem.ClaimMapViews
import Derived.JoinedTies
import Derived.KernelRfl
namespace Go.Proofs.Ytgbjhbokljjekaa
/- THE CELL 'sum', in the pinned program and in every row, IS THE sha256 OF THE DUMP (.gsa) THAT YtgbjhbokljjekaaProg.lean LOADS. Nothing in Lean hashes anything: it is a label: what it is worth is what the hold of that sum in a sandbox is worth. -/
noncomputable def Try.pinned : Pinned := { name := "ytgbjhbokljjekaa", sum := "2908913cb8317d9236ffd909a223df2a5f17b2b7927e6e6752944f1b1e0759b2", checked := Try.checked }
namespace Rows
def none {H : Type} : Left H := { results := [], args := [] }

/-- 'ropeladderlaw04.HandleMatchesReference': WHATEVER THE INPUT: true; the input reads as it did. -/
def handleMatchesReferenceSpec : ChangeSpec := { name := "handleMatchesReference", fn := fun _ => fun
  | [d1, d2, d3, d4] => { results := [.lit (.bool true)], args := [d1, d2, d3, d4] }
  | _ => none }
def handleMatchesReferenceRow : OpenClaim := { program := "ytgbjhbokljjekaa", sum := "2908913cb8317d9236ffd909a223df2a5f17b2b7927e6e6752944f1b1e0759b2", func := "ropeladder/ropeladderlaw04.HandleMatchesReference", spec := "handleMatchesReference", unfollowed := true, recurses := true, apart := false }
def HandleMatchesReferenceSaid : Prop := handleMatchesReferenceRow.holds Try.pinned (OpenSpec.ofChange handleMatchesReferenceSpec)

/-- ITS FALSE NEIGHBOUR: 'it returns false'. Refute it at one input. -/
def handleMatchesReferenceWrong : ChangeSpec := { name := "handleMatchesReference", fn := fun _ => fun
  | [d1, d2, d3, d4] => { results := [.lit (.bool false)], args := [d1, d2, d3, d4] }
  | _ => none }
def HandleMatchesReferenceWrongFalsely : Prop := handleMatchesReferenceRow.holds Try.pinned (OpenSpec.ofChange handleMatchesReferenceWrong)

/-- 'ropeladderlaw04.HandleRoundTrip': WHATEVER THE INPUT: true; the input reads as it did. -/
def handleRoundTripSpec : ChangeSpec := { name := "handleRoundTrip", fn := fun _ => fun
  | [d1, d2, d3] => { results := [.lit (.bool true)], args := [d1, d2, d3] }
  | _ => none }
def handleRoundTripRow : OpenClaim := { program := "ytgbjhbokljjekaa", sum := "2908913cb8317d9236ffd909a223df2a5f17b2b7927e6e6752944f1b1e0759b2", func := "ropeladder/ropeladderlaw04.HandleRoundTrip", spec := "handleRoundTrip", unfollowed := true, recurses := true, apart := false }
def HandleRoundTripSaid : Prop := handleRoundTripRow.holds Try.pinned (OpenSpec.ofChange handleRoundTripSpec)

/-- ITS FALSE NEIGHBOUR: 'it returns false'. Refute it at one input. -/
def handleRoundTripWrong : ChangeSpec := { name := "handleRoundTrip", fn := fun _ => fun
  | [d1, d2, d3] => { results := [.lit (.bool false)], args := [d1, d2, d3] }
  | _ => none }
def HandleRoundTripWrongFalsely : Prop := handleRoundTripRow.holds Try.pinned (OpenSpec.ofChange handleRoundTripWrong)

/-- 'ropeladderlaw04.HandleUnpack': WHATEVER THE INPUT: true; the input reads as it did. -/
def handleUnpackSpec : ChangeSpec := { name := "handleUnpack", fn := fun _ => fun
  | [d] => { results := [.lit (.bool true)], args := [d] }
  | _ => none }
def handleUnpackRow : OpenClaim := { program := "ytgbjhbokljjekaa", sum := "2908913cb8317d9236ffd909a223df2a5f17b2b7927e6e6752944f1b1e0759b2", func := "ropeladder/ropeladderlaw04.HandleUnpack", spec := "handleUnpack", unfollowed := true, recurses := true, apart := false }
def HandleUnpackSaid : Prop := handleUnpackRow.holds Try.pinned (OpenSpec.ofChange handleUnpackSpec)

/-- ITS FALSE NEIGHBOUR: 'it returns false'. Refute it at one input. -/
def handleUnpackWrong : ChangeSpec := { name := "handleUnpack", fn := fun _ => fun
  | [d] => { results := [.lit (.bool false)], args := [d] }
  | _ => none }
def HandleUnpackWrongFalsely : Prop := handleUnpackRow.holds Try.pinned (OpenSpec.ofChange handleUnpackWrong)

/-- 'ropeladderlaw04.HandleDistinct': WHATEVER THE INPUT: true; the input reads as it did. -/
def handleDistinctSpec : ChangeSpec := { name := "handleDistinct", fn := fun _ => fun
  | [d1, d2, d3, d4] => { results := [.lit (.bool true)], args := [d1, d2, d3, d4] }
  | _ => none }
def handleDistinctRow : OpenClaim := { program := "ytgbjhbokljjekaa", sum := "2908913cb8317d9236ffd909a223df2a5f17b2b7927e6e6752944f1b1e0759b2", func := "ropeladder/ropeladderlaw04.HandleDistinct", spec := "handleDistinct", unfollowed := true, recurses := true, apart := false }
def HandleDistinctSaid : Prop := handleDistinctRow.holds Try.pinned (OpenSpec.ofChange handleDistinctSpec)

/-- ITS FALSE NEIGHBOUR: 'it returns false'. Refute it at one input. -/
def handleDistinctWrong : ChangeSpec := { name := "handleDistinct", fn := fun _ => fun
  | [d1, d2, d3, d4] => { results := [.lit (.bool false)], args := [d1, d2, d3, d4] }
  | _ => none }
def HandleDistinctWrongFalsely : Prop := handleDistinctRow.holds Try.pinned (OpenSpec.ofChange handleDistinctWrong)

/-- 'ropeladderlaw04.HandleOrder': WHATEVER THE INPUT: true; the input reads as it did. -/
def handleOrderSpec : ChangeSpec := { name := "handleOrder", fn := fun _ => fun
  | [d1, d2, d3, d4] => { results := [.lit (.bool true)], args := [d1, d2, d3, d4] }
  | _ => none }
def handleOrderRow : OpenClaim := { program := "ytgbjhbokljjekaa", sum := "2908913cb8317d9236ffd909a223df2a5f17b2b7927e6e6752944f1b1e0759b2", func := "ropeladder/ropeladderlaw04.HandleOrder", spec := "handleOrder", unfollowed := true, recurses := true, apart := false }
def HandleOrderSaid : Prop := handleOrderRow.holds Try.pinned (OpenSpec.ofChange handleOrderSpec)

/-- ITS FALSE NEIGHBOUR: 'it returns false'. Refute it at one input. -/
def handleOrderWrong : ChangeSpec := { name := "handleOrder", fn := fun _ => fun
  | [d1, d2, d3, d4] => { results := [.lit (.bool false)], args := [d1, d2, d3, d4] }
  | _ => none }
def HandleOrderWrongFalsely : Prop := handleOrderRow.holds Try.pinned (OpenSpec.ofChange handleOrderWrong)

/- THE SECOND FORM. 'bulk': how many values and letters a reading holds, each counted each time it is reached (what is shared counts as often as it is met; a slice's spare places count too). A statement '..UptoSaid' is the law's where the arguments, and the package variables that the reading takes, are together of bulk at most 1048576: NARROWER than '..Said'. Prove '..Said' where nothing that the law and all that it calls make is longer than what came in: it says more and counts as full. Else prove '..UptoSaid'. A law counts once. -/
mutual
def uptoBulk {H : Type} : DataW H → Nat
  | .lit (.string bytes) => bytes.length + 1
  | .lit _ => 1
  | .nil => 1
  | .ptr d => uptoBulk d + 1
  | .slice elems spare => uptoBulkAll elems + uptoBulkAll spare + 1
  | .agg parts => uptoBulkAll parts + 1
  | .iface _ d => uptoBulk d + 1
  | .map entries => uptoBulkEntries entries + 1
  | .held _ => 1
def uptoBulkAll {H : Type} : List (DataW H) → Nat
  | [] => 0
  | d :: r => uptoBulk d + uptoBulkAll r
def uptoBulkEntries {H : Type} : List (Lit × DataW H) → Nat
  | [] => 0
  | x :: r => uptoBulkEntry x + uptoBulkEntries r
def uptoBulkEntry {H : Type} : Lit × DataW H → Nat
  | (.string bytes, d) => bytes.length + uptoBulk d + 1
  | (_, d) => uptoBulk d + 1
 end
def uptoSmall : (H : Type) → List (DataW H) → Bool := fun _ ds => decide (uptoBulkAll ds ≤ 1048576)
def OpenSpec.upto (s : _root_.Go.ChangeSpec) : _root_.Go.OpenSpec := { _root_.Go.OpenSpec.ofChange s with cond := some uptoSmall }

/-- 'ropeladderlaw04.HandleMatchesReference', WHERE WHAT IT READS IS OF BULK AT MOST 1048576: true; the input reads as it did. -/
def handleMatchesReferenceUptoRow : OpenClaim := { program := "ytgbjhbokljjekaa", sum := "2908913cb8317d9236ffd909a223df2a5f17b2b7927e6e6752944f1b1e0759b2", func := "ropeladder/ropeladderlaw04.HandleMatchesReference", spec := "handleMatchesReference", unfollowed := true, recurses := true, apart := false, narrowed := true }
def HandleMatchesReferenceUptoSaid : Prop := handleMatchesReferenceUptoRow.holds Try.pinned (OpenSpec.upto handleMatchesReferenceSpec)

/-- 'ropeladderlaw04.HandleRoundTrip', WHERE WHAT IT READS IS OF BULK AT MOST 1048576: true; the input reads as it did. -/
def handleRoundTripUptoRow : OpenClaim := { program := "ytgbjhbokljjekaa", sum := "2908913cb8317d9236ffd909a223df2a5f17b2b7927e6e6752944f1b1e0759b2", func := "ropeladder/ropeladderlaw04.HandleRoundTrip", spec := "handleRoundTrip", unfollowed := true, recurses := true, apart := false, narrowed := true }
def HandleRoundTripUptoSaid : Prop := handleRoundTripUptoRow.holds Try.pinned (OpenSpec.upto handleRoundTripSpec)

/-- 'ropeladderlaw04.HandleUnpack', WHERE WHAT IT READS IS OF BULK AT MOST 1048576: true; the input reads as it did. -/
def handleUnpackUptoRow : OpenClaim := { program := "ytgbjhbokljjekaa", sum := "2908913cb8317d9236ffd909a223df2a5f17b2b7927e6e6752944f1b1e0759b2", func := "ropeladder/ropeladderlaw04.HandleUnpack", spec := "handleUnpack", unfollowed := true, recurses := true, apart := false, narrowed := true }
def HandleUnpackUptoSaid : Prop := handleUnpackUptoRow.holds Try.pinned (OpenSpec.upto handleUnpackSpec)

/-- 'ropeladderlaw04.HandleDistinct', WHERE WHAT IT READS IS OF BULK AT MOST 1048576: true; the input reads as it did. -/
def handleDistinctUptoRow : OpenClaim := { program := "ytgbjhbokljjekaa", sum := "2908913cb8317d9236ffd909a223df2a5f17b2b7927e6e6752944f1b1e0759b2", func := "ropeladder/ropeladderlaw04.HandleDistinct", spec := "handleDistinct", unfollowed := true, recurses := true, apart := false, narrowed := true }
def HandleDistinctUptoSaid : Prop := handleDistinctUptoRow.holds Try.pinned (OpenSpec.upto handleDistinctSpec)

/-- 'ropeladderlaw04.HandleOrder', WHERE WHAT IT READS IS OF BULK AT MOST 1048576: true; the input reads as it did. -/
def handleOrderUptoRow : OpenClaim := { program := "ytgbjhbokljjekaa", sum := "2908913cb8317d9236ffd909a223df2a5f17b2b7927e6e6752944f1b1e0759b2", func := "ropeladder/ropeladderlaw04.HandleOrder", spec := "handleOrder", unfollowed := true, recurses := true, apart := false, narrowed := true }
def HandleOrderUptoSaid : Prop := handleOrderUptoRow.holds Try.pinned (OpenSpec.upto handleOrderSpec)

end Rows
end Go.Proofs.Ytgbjhbokljjekaa
