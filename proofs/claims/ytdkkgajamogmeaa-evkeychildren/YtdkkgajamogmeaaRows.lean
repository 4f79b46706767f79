/-
  No cell of these rows narrows 'for every input' (looked for: loops, veiled, ifaces, maps, wideKeys, modest, calm, conditions, laid).
  DERIVED. THE GIVEN ROWS OF THIS SEAT. 6 by the template 'for every input the law returns true; each argument reads behind the call as it read before'; 0 by the template 'total and deterministic' (their statements: YtdkkgajamogmeaaTotals.lean).
  GIVEN WITH THE SEED: the statements are not yours to turn. If you find one false, say at which input.
  Laid BY PROGRAM, IN A SANDBOX (cutbox-rows.mjs): the forced cells as the released guide's own fill.sh prints them over the translation 675cf876780fc6d4… (all of the seat's roots in one cut). By AI agents, Wed Nov 11 2026. No macro, syntax, notation, axiom, sorry.
-/
import Derived.Test.YtdkkgajamogmeaaChecked
import GoSem.Claim
import GoSem.ClaimJoined
import GoSem.ClaimMapViews
import Derived.JoinedTies
import Derived.KernelRfl
namespace Go.Proofs.Ytdkkgajamogmeaa
/- THE CELL 'sum', in the pinned program and in every row, IS THE sha256 OF THE DUMP (.gsa) THAT YtdkkgajamogmeaaProg.lean LOADS. Nothing in Lean hashes anything: it is a label: what it is worth is what the hold of that sum in a sandbox is worth. -/
noncomputable def Try.pinned : Pinned := { name := "ytdkkgajamogmeaa", sum := "675cf876780fc6d40e6975924d3a34e0a2bf8f390fbda22a963a3785ba4ee68e", checked := Try.checked }
namespace Rows
def none {H : Type} : Left H := { results := [], args := [] }

/-- 'ropeladderlaw03.EvkeyMatchesReference': WHATEVER THE INPUT: true; the input reads as it did. -/
def evkeyMatchesReferenceSpec : ChangeSpec := { name := "evkeyMatchesReference", fn := fun _ => fun
  | [d1, d2, d3, d4, d5, d6] => { results := [.lit (.bool true)], args := [d1, d2, d3, d4, d5, d6] }
  | _ => none }
def evkeyMatchesReferenceRow : OpenClaim := { program := "ytdkkgajamogmeaa", sum := "675cf876780fc6d40e6975924d3a34e0a2bf8f390fbda22a963a3785ba4ee68e", func := "ropeladder/ropeladderlaw03.EvkeyMatchesReference", spec := "evkeyMatchesReference", unfollowed := true, recurses := true, apart := false }
def EvkeyMatchesReferenceSaid : Prop := evkeyMatchesReferenceRow.holds Try.pinned (OpenSpec.ofChange evkeyMatchesReferenceSpec)

/-- ITS FALSE NEIGHBOUR: 'it returns false'. Refute it at one input. -/
def evkeyMatchesReferenceWrong : ChangeSpec := { name := "evkeyMatchesReference", fn := fun _ => fun
  | [d1, d2, d3, d4, d5, d6] => { results := [.lit (.bool false)], args := [d1, d2, d3, d4, d5, d6] }
  | _ => none }
def EvkeyMatchesReferenceWrongFalsely : Prop := evkeyMatchesReferenceRow.holds Try.pinned (OpenSpec.ofChange evkeyMatchesReferenceWrong)

/-- 'ropeladderlaw03.EvkeyItems': WHATEVER THE INPUT: true; the input reads as it did. -/
def evkeyItemsSpec : ChangeSpec := { name := "evkeyItems", fn := fun _ => fun
  | [d1, d2, d3] => { results := [.lit (.bool true)], args := [d1, d2, d3] }
  | _ => none }
def evkeyItemsRow : OpenClaim := { program := "ytdkkgajamogmeaa", sum := "675cf876780fc6d40e6975924d3a34e0a2bf8f390fbda22a963a3785ba4ee68e", func := "ropeladder/ropeladderlaw03.EvkeyItems", spec := "evkeyItems", unfollowed := true, recurses := true, apart := false }
def EvkeyItemsSaid : Prop := evkeyItemsRow.holds Try.pinned (OpenSpec.ofChange evkeyItemsSpec)

/-- ITS FALSE NEIGHBOUR: 'it returns false'. Refute it at one input. -/
def evkeyItemsWrong : ChangeSpec := { name := "evkeyItems", fn := fun _ => fun
  | [d1, d2, d3] => { results := [.lit (.bool false)], args := [d1, d2, d3] }
  | _ => none }
def EvkeyItemsWrongFalsely : Prop := evkeyItemsRow.holds Try.pinned (OpenSpec.ofChange evkeyItemsWrong)

/-- 'ropeladderlaw03.EvkeyKeys': WHATEVER THE INPUT: true; the input reads as it did. -/
def evkeyKeysSpec : ChangeSpec := { name := "evkeyKeys", fn := fun _ => fun
  | [d1, d2, d3] => { results := [.lit (.bool true)], args := [d1, d2, d3] }
  | _ => none }
def evkeyKeysRow : OpenClaim := { program := "ytdkkgajamogmeaa", sum := "675cf876780fc6d40e6975924d3a34e0a2bf8f390fbda22a963a3785ba4ee68e", func := "ropeladder/ropeladderlaw03.EvkeyKeys", spec := "evkeyKeys", unfollowed := true, recurses := true, apart := false }
def EvkeyKeysSaid : Prop := evkeyKeysRow.holds Try.pinned (OpenSpec.ofChange evkeyKeysSpec)

/-- ITS FALSE NEIGHBOUR: 'it returns false'. Refute it at one input. -/
def evkeyKeysWrong : ChangeSpec := { name := "evkeyKeys", fn := fun _ => fun
  | [d1, d2, d3] => { results := [.lit (.bool false)], args := [d1, d2, d3] }
  | _ => none }
def EvkeyKeysWrongFalsely : Prop := evkeyKeysRow.holds Try.pinned (OpenSpec.ofChange evkeyKeysWrong)

/-- 'ropeladderlaw03.EvkeyChildren': WHATEVER THE INPUT: true; the input reads as it did. -/
def evkeyChildrenSpec : ChangeSpec := { name := "evkeyChildren", fn := fun _ => fun
  | [d1, d2, d3, d4] => { results := [.lit (.bool true)], args := [d1, d2, d3, d4] }
  | _ => none }
def evkeyChildrenRow : OpenClaim := { program := "ytdkkgajamogmeaa", sum := "675cf876780fc6d40e6975924d3a34e0a2bf8f390fbda22a963a3785ba4ee68e", func := "ropeladder/ropeladderlaw03.EvkeyChildren", spec := "evkeyChildren", unfollowed := true, recurses := true, apart := false }
def EvkeyChildrenSaid : Prop := evkeyChildrenRow.holds Try.pinned (OpenSpec.ofChange evkeyChildrenSpec)

/-- ITS FALSE NEIGHBOUR: 'it returns false'. Refute it at one input. -/
def evkeyChildrenWrong : ChangeSpec := { name := "evkeyChildren", fn := fun _ => fun
  | [d1, d2, d3, d4] => { results := [.lit (.bool false)], args := [d1, d2, d3, d4] }
  | _ => none }
def EvkeyChildrenWrongFalsely : Prop := evkeyChildrenRow.holds Try.pinned (OpenSpec.ofChange evkeyChildrenWrong)

/-- 'ropeladderlaw03.EvkeySorted': WHATEVER THE INPUT: true; the input reads as it did. -/
def evkeySortedSpec : ChangeSpec := { name := "evkeySorted", fn := fun _ => fun
  | [d] => { results := [.lit (.bool true)], args := [d] }
  | _ => none }
def evkeySortedRow : OpenClaim := { program := "ytdkkgajamogmeaa", sum := "675cf876780fc6d40e6975924d3a34e0a2bf8f390fbda22a963a3785ba4ee68e", func := "ropeladder/ropeladderlaw03.EvkeySorted", spec := "evkeySorted", unfollowed := true, recurses := true, apart := false }
def EvkeySortedSaid : Prop := evkeySortedRow.holds Try.pinned (OpenSpec.ofChange evkeySortedSpec)

/-- ITS FALSE NEIGHBOUR: 'it returns false'. Refute it at one input. -/
def evkeySortedWrong : ChangeSpec := { name := "evkeySorted", fn := fun _ => fun
  | [d] => { results := [.lit (.bool false)], args := [d] }
  | _ => none }
def EvkeySortedWrongFalsely : Prop := evkeySortedRow.holds Try.pinned (OpenSpec.ofChange evkeySortedWrong)

/-- 'ropeladderlaw03.EvkeyEvents': WHATEVER THE INPUT: true; the input reads as it did. -/
def evkeyEventsSpec : ChangeSpec := { name := "evkeyEvents", fn := fun _ => fun
  | [d1, d2, d3] => { results := [.lit (.bool true)], args := [d1, d2, d3] }
  | _ => none }
def evkeyEventsRow : OpenClaim := { program := "ytdkkgajamogmeaa", sum := "675cf876780fc6d40e6975924d3a34e0a2bf8f390fbda22a963a3785ba4ee68e", func := "ropeladder/ropeladderlaw03.EvkeyEvents", spec := "evkeyEvents", unfollowed := true, recurses := true, apart := false }
def EvkeyEventsSaid : Prop := evkeyEventsRow.holds Try.pinned (OpenSpec.ofChange evkeyEventsSpec)

/-- ITS FALSE NEIGHBOUR: 'it returns false'. Refute it at one input. -/
def evkeyEventsWrong : ChangeSpec := { name := "evkeyEvents", fn := fun _ => fun
  | [d1, d2, d3] => { results := [.lit (.bool false)], args := [d1, d2, d3] }
  | _ => none }
def EvkeyEventsWrongFalsely : Prop := evkeyEventsRow.holds Try.pinned (OpenSpec.ofChange evkeyEventsWrong)

/- THE SECOND FORM. 'bulk': how many values and letters a reading holds, each counted each time it is reached (what is shared counts as often as it is met; a slice's spare places count too). A statement '..UptoSaid' is the law's where the arguments, and the package variables that the reading takes, are together of bulk at most 1048576: NARROWER than '..Said'. Prove '..Said' where nothing that the law and all that it calls make is longer than what came in: it says more and counts as full. Else prove '..UptoSaid'. A law counts once. -/
mutual
def uptoBulk {H : Type} : DataW H → Nat
  | .lit (.string bytes) => bytes.length + 1
  | .lit _ => 1
  | .nil => 1
  | .ptr d => uptoBulk d + 1
  | .slice elems spare => uptoBulkAll elems + uptoBulkAll spare + 1
  | .agg parts => uptoBulkAll parts + 1
  | .iface _ d => uptoBulk d + 1
  | .map entries => uptoBulkEntries entries + 1
  | .held _ => 1
def uptoBulkAll {H : Type} : List (DataW H) → Nat
  | [] => 0
  | d :: r => uptoBulk d + uptoBulkAll r
def uptoBulkEntries {H : Type} : List (Lit × DataW H) → Nat
  | [] => 0
  | x :: r => uptoBulkEntry x + uptoBulkEntries r
def uptoBulkEntry {H : Type} : Lit × DataW H → Nat
  | (.string bytes, d) => bytes.length + uptoBulk d + 1
  | (_, d) => uptoBulk d + 1
 end
def uptoSmall : (H : Type) → List (DataW H) → Bool := fun _ ds => decide (uptoBulkAll ds ≤ 1048576)
def OpenSpec.upto (s : _root_.Go.ChangeSpec) : _root_.Go.OpenSpec := { _root_.Go.OpenSpec.ofChange s with cond := some uptoSmall }

/-- 'ropeladderlaw03.EvkeyMatchesReference', WHERE WHAT IT READS IS OF BULK AT MOST 1048576: true; the input reads as it did. -/
def evkeyMatchesReferenceUptoRow : OpenClaim := { program := "ytdkkgajamogmeaa", sum := "675cf876780fc6d40e6975924d3a34e0a2bf8f390fbda22a963a3785ba4ee68e", func := "ropeladder/ropeladderlaw03.EvkeyMatchesReference", spec := "evkeyMatchesReference", unfollowed := true, recurses := true, apart := false, narrowed := true }
def EvkeyMatchesReferenceUptoSaid : Prop := evkeyMatchesReferenceUptoRow.holds Try.pinned (OpenSpec.upto evkeyMatchesReferenceSpec)

/-- 'ropeladderlaw03.EvkeyItems', WHERE WHAT IT READS IS OF BULK AT MOST 1048576: true; the input reads as it did. -/
def evkeyItemsUptoRow : OpenClaim := { program := "ytdkkgajamogmeaa", sum := "675cf876780fc6d40e6975924d3a34e0a2bf8f390fbda22a963a3785ba4ee68e", func := "ropeladder/ropeladderlaw03.EvkeyItems", spec := "evkeyItems", unfollowed := true, recurses := true, apart := false, narrowed := true }
def EvkeyItemsUptoSaid : Prop := evkeyItemsUptoRow.holds Try.pinned (OpenSpec.upto evkeyItemsSpec)

/-- 'ropeladderlaw03.EvkeyKeys', WHERE WHAT IT READS IS OF BULK AT MOST 1048576: true; the input reads as it did. -/
def evkeyKeysUptoRow : OpenClaim := { program := "ytdkkgajamogmeaa", sum := "675cf876780fc6d40e6975924d3a34e0a2bf8f390fbda22a963a3785ba4ee68e", func := "ropeladder/ropeladderlaw03.EvkeyKeys", spec := "evkeyKeys", unfollowed := true, recurses := true, apart := false, narrowed := true }
def EvkeyKeysUptoSaid : Prop := evkeyKeysUptoRow.holds Try.pinned (OpenSpec.upto evkeyKeysSpec)

/-- 'ropeladderlaw03.EvkeyChildren', WHERE WHAT IT READS IS OF BULK AT MOST 1048576: true; the input reads as it did. -/
def evkeyChildrenUptoRow : OpenClaim := { program := "ytdkkgajamogmeaa", sum := "675cf876780fc6d40e6975924d3a34e0a2bf8f390fbda22a963a3785ba4ee68e", func := "ropeladder/ropeladderlaw03.EvkeyChildren", spec := "evkeyChildren", unfollowed := true, recurses := true, apart := false, narrowed := true }
def EvkeyChildrenUptoSaid : Prop := evkeyChildrenUptoRow.holds Try.pinned (OpenSpec.upto evkeyChildrenSpec)

/-- 'ropeladderlaw03.EvkeySorted', WHERE WHAT IT READS IS OF BULK AT MOST 1048576: true; the input reads as it did. -/
def evkeySortedUptoRow : OpenClaim := { program := "ytdkkgajamogmeaa", sum := "675cf876780fc6d40e6975924d3a34e0a2bf8f390fbda22a963a3785ba4ee68e", func := "ropeladder/ropeladderlaw03.EvkeySorted", spec := "evkeySorted", unfollowed := true, recurses := true, apart := false, narrowed := true }
def EvkeySortedUptoSaid : Prop := evkeySortedUptoRow.holds Try.pinned (OpenSpec.upto evkeySortedSpec)

/-- 'ropeladderlaw03.EvkeyEvents', WHERE WHAT IT READS IS OF BULK AT MOST 1048576: true; the input reads as it did. -/
def evkeyEventsUptoRow : OpenClaim := { program := "ytdkkgajamogmeaa", sum := "675cf876780fc6d40e6975924d3a34e0a2bf8f390fbda22a963a3785ba4ee68e", func := "ropeladder/ropeladderlaw03.EvkeyEvents", spec := "evkeyEvents", unfollowed := true, recurses := true, apart := false, narrowed := true }
def EvkeyEventsUptoSaid : Prop := evkeyEventsUptoRow.holds Try.pinned (OpenSpec.upto evkeyEventsSpec)

end Rows
end Go.Proofs.Ytdkkgajamogmeaa
