/-
  No cell of these rows narrows 'for every input' (looked for: loops, veiled, ifaces, maps, wideKeys, modest, calm, conditions, laid).
  DERIVED. THE GIVEN ROWS OF THIS SEAT. 4 by the template 'for every input the law returns true; each argument reads behind the call as it read before'; 0 by the template 'total and deterministic' (their statements: YtmfnfinbkdemkaaGreatTotals.lean).
  GIVEN WITH THE SEED: the statements are not yours to turn. If you find one false, say at which input.
  Laid BY PROGRAM, IN A SANDBOX (cutbox-rows.mjs): the forced cells as the released guide's own fill.sh prints them over the translation 321763b3c9a4a0c5… (all of the seat's roots in one cut). By AI agents, Wed Nov 11 2026. No macro, syntax, notation, axiom, sorry.
-/
import Derived.Test.YtmfnfinbkdemkaaGreatChecked
import GoSem.Claim
import GoSem.ClaimJoined
import GoSem.ClaimMapViews
import Derived.JoinedTies
import Derived.KernelRfl
namespace Go.Proofs.YtmfnfinbkdemkaaGreat
/- THE CELL 'sum', in the pinned program and in every row, IS THE sha256 OF THE DUMP (.gsa) THAT YtmfnfinbkdemkaaGreatProg.lean LOADS. Nothing in Lean hashes anything: it is a label: what it is worth is what the hold of that sum in a sandbox is worth. -/
noncomputable def Tryz.pinned : Pinned := { name := "ytmfnfinbkdemkaagreat", sum := "321763b3c9a4a0c50a4b00e218ecfa424cee1fc6e2a7afdecfe09b5eae34295d", checked := Tryz.checked }
namespace Rows
def none {H : Type} : Left H := { results := [], args := [] }

/-- 'ropeladderlaw11.StoreDiscipline': WHATEVER THE INPUT: true; the input reads as it did. -/
def storeDisciplineSpec : ChangeSpec := { name := "storeDiscipline", fn := fun _ => fun
  | [d1, d2, d3] => { results := [.lit (.bool true)], args := [d1, d2, d3] }
  | _ => none }
def storeDisciplineRow : OpenClaim := { program := "ytmfnfinbkdemkaagreat", sum := "321763b3c9a4a0c50a4b00e218ecfa424cee1fc6e2a7afdecfe09b5eae34295d", func := "ropeladder/ropeladderlaw11.StoreDiscipline", spec := "storeDiscipline", inPlace := ["slices.overlaps[ropeladder/api.Item]"], unfollowed := true, recurses := true, apart := false }
def StoreDisciplineSaid : Prop := storeDisciplineRow.holds Tryz.pinned (OpenSpec.ofChange storeDisciplineSpec)

/-- ITS FALSE NEIGHBOUR: 'it returns false'. Refute it at one input. -/
def storeDisciplineWrong : ChangeSpec := { name := "storeDiscipline", fn := fun _ => fun
  | [d1, d2, d3] => { results := [.lit (.bool false)], args := [d1, d2, d3] }
  | _ => none }
def StoreDisciplineWrongFalsely : Prop := storeDisciplineRow.holds Tryz.pinned (OpenSpec.ofChange storeDisciplineWrong)

/-- 'ropeladderlaw11.StoreItems': WHATEVER THE INPUT: true; the input reads as it did. -/
def storeItemsSpec : ChangeSpec := { name := "storeItems", fn := fun _ => fun
  | [d1, d2] => { results := [.lit (.bool true)], args := [d1, d2] }
  | _ => none }
def storeItemsRow : OpenClaim := { program := "ytmfnfinbkdemkaagreat", sum := "321763b3c9a4a0c50a4b00e218ecfa424cee1fc6e2a7afdecfe09b5eae34295d", func := "ropeladder/ropeladderlaw11.StoreItems", spec := "storeItems", inPlace := ["slices.overlaps[ropeladder/api.Item]"], unfollowed := true, recurses := true, apart := false }
def StoreItemsSaid : Prop := storeItemsRow.holds Tryz.pinned (OpenSpec.ofChange storeItemsSpec)

/-- ITS FALSE NEIGHBOUR: 'it returns false'. Refute it at one input. -/
def storeItemsWrong : ChangeSpec := { name := "storeItems", fn := fun _ => fun
  | [d1, d2] => { results := [.lit (.bool false)], args := [d1, d2] }
  | _ => none }
def StoreItemsWrongFalsely : Prop := storeItemsRow.holds Tryz.pinned (OpenSpec.ofChange storeItemsWrong)

/-- 'ropeladderlaw11.StorePeeks': WHATEVER THE INPUT: true; the input reads as it did. -/
def storePeeksSpec : ChangeSpec := { name := "storePeeks", fn := fun _ => fun
  | [d1, d2, d3] => { results := [.lit (.bool true)], args := [d1, d2, d3] }
  | _ => none }
def storePeeksRow : OpenClaim := { program := "ytmfnfinbkdemkaagreat", sum := "321763b3c9a4a0c50a4b00e218ecfa424cee1fc6e2a7afdecfe09b5eae34295d", func := "ropeladder/ropeladderlaw11.StorePeeks", spec := "storePeeks", inPlace := ["slices.overlaps[ropeladder/api.Item]"], unfollowed := true, recurses := true, apart := false }
def StorePeeksSaid : Prop := storePeeksRow.holds Tryz.pinned (OpenSpec.ofChange storePeeksSpec)

/-- ITS FALSE NEIGHBOUR: 'it returns false'. Refute it at one input. -/
def storePeeksWrong : ChangeSpec := { name := "storePeeks", fn := fun _ => fun
  | [d1, d2, d3] => { results := [.lit (.bool false)], args := [d1, d2, d3] }
  | _ => none }
def StorePeeksWrongFalsely : Prop := storePeeksRow.holds Tryz.pinned (OpenSpec.ofChange storePeeksWrong)

/-- 'ropeladderlaw11.StoreHandles': WHATEVER THE INPUT: true; the input reads as it did. -/
def storeHandlesSpec : ChangeSpec := { name := "storeHandles", fn := fun _ => fun
  | [d1, d2] => { results := [.lit (.bool true)], args := [d1, d2] }
  | _ => none }
def storeHandlesRow : OpenClaim := { program := "ytmfnfinbkdemkaagreat", sum := "321763b3c9a4a0c50a4b00e218ecfa424cee1fc6e2a7afdecfe09b5eae34295d", func := "ropeladder/ropeladderlaw11.StoreHandles", spec := "storeHandles", inPlace := ["slices.overlaps[ropeladder/api.Item]"], unfollowed := true, recurses := true, apart := false }
def StoreHandlesSaid : Prop := storeHandlesRow.holds Tryz.pinned (OpenSpec.ofChange storeHandlesSpec)

/-- ITS FALSE NEIGHBOUR: 'it returns false'. Refute it at one input. -/
def storeHandlesWrong : ChangeSpec := { name := "storeHandles", fn := fun _ => fun
  | [d1, d2] => { results := [.lit (.bool false)], args := [d1, d2] }
  | _ => none }
def StoreHandlesWrongFalsely : Prop := storeHandlesRow.holds Tryz.pinned (OpenSpec.ofChange storeHandlesWrong)

/- THE SECOND FORM. 'bulk': how many values and letters a reading holds, each counted each time it is reached (what is shared counts as often as it is met; a slice's spare places count too). A statement '..UptoSaid' is the law's where the arguments, and the package variables that the reading takes, are together of bulk at most 1048576: NARROWER than '..Said'. Prove '..Said' where nothing that the law and all that it calls make is longer than what came in: it says more and counts as full. Else prove '..UptoSaid'. A law counts once. -/
mutual
def uptoBulk {H : Type} : DataW H → Nat
  | .lit (.string bytes) => bytes.length + 1
  | .lit _ => 1
  | .nil => 1
  | .ptr d => uptoBulk d + 1
  | .slice elems spare => uptoBulkAll elems + uptoBulkAll spare + 1
  | .agg parts => uptoBulkAll parts + 1
  | .iface _ d => uptoBulk d + 1
  | .map entries => uptoBulkEntries entries + 1
  | .held _ => 1
def uptoBulkAll {H : Type} : List (DataW H) → Nat
  | [] => 0
  | d :: r => uptoBulk d + uptoBulkAll r
def uptoBulkEntries {H : Type} : List (Lit × DataW H) → Nat
  | [] => 0
  | x :: r => uptoBulkEntry x + uptoBulkEntries r
def uptoBulkEntry {H : Type} : Lit × DataW H → Nat
  | (.string bytes, d) => bytes.length + uptoBulk d + 1
  | (_, d) => uptoBulk d + 1
 end
def uptoSmall : (H : Type) → List (DataW H) → Bool := fun _ ds => decide (uptoBulkAll ds ≤ 1048576)
def OpenSpec.upto (s : _root_.Go.ChangeSpec) : _root_.Go.OpenSpec := { _root_.Go.OpenSpec.ofChange s with cond := some uptoSmall }

/-- 'ropeladderlaw11.StoreDiscipline', WHERE WHAT IT READS IS OF BULK AT MOST 1048576: true; the input reads as it did. -/
def storeDisciplineUptoRow : OpenClaim := { program := "ytmfnfinbkdemkaagreat", sum := "321763b3c9a4a0c50a4b00e218ecfa424cee1fc6e2a7afdecfe09b5eae34295d", func := "ropeladder/ropeladderlaw11.StoreDiscipline", spec := "storeDiscipline", inPlace := ["slices.overlaps[ropeladder/api.Item]"], unfollowed := true, recurses := true, apart := false, narrowed := true }
def StoreDisciplineUptoSaid : Prop := storeDisciplineUptoRow.holds Tryz.pinned (OpenSpec.upto storeDisciplineSpec)

/-- 'ropeladderlaw11.StoreItems', WHERE WHAT IT READS IS OF BULK AT MOST 1048576: true; the input reads as it did. -/
def storeItemsUptoRow : OpenClaim := { program := "ytmfnfinbkdemkaagreat", sum := "321763b3c9a4a0c50a4b00e218ecfa424cee1fc6e2a7afdecfe09b5eae34295d", func := "ropeladder/ropeladderlaw11.StoreItems", spec := "storeItems", inPlace := ["slices.overlaps[ropeladder/api.Item]"], unfollowed := true, recurses := true, apart := false, narrowed := true }
def StoreItemsUptoSaid : Prop := storeItemsUptoRow.holds Tryz.pinned (OpenSpec.upto storeItemsSpec)

/-- 'ropeladderlaw11.StorePeeks', WHERE WHAT IT READS IS OF BULK AT MOST 1048576: true; the input reads as it did. -/
def storePeeksUptoRow : OpenClaim := { program := "ytmfnfinbkdemkaagreat", sum := "321763b3c9a4a0c50a4b00e218ecfa424cee1fc6e2a7afdecfe09b5eae34295d", func := "ropeladder/ropeladderlaw11.StorePeeks", spec := "storePeeks", inPlace := ["slices.overlaps[ropeladder/api.Item]"], unfollowed := true, recurses := true, apart := false, narrowed := true }
def StorePeeksUptoSaid : Prop := storePeeksUptoRow.holds Tryz.pinned (OpenSpec.upto storePeeksSpec)

/-- 'ropeladderlaw11.StoreHandles', WHERE WHAT IT READS IS OF BULK AT MOST 1048576: true; the input reads as it did. -/
def storeHandlesUptoRow : OpenClaim := { program := "ytmfnfinbkdemkaagreat", sum := "321763b3c9a4a0c50a4b00e218ecfa424cee1fc6e2a7afdecfe09b5eae34295d", func := "ropeladder/ropeladderlaw11.StoreHandles", spec := "storeHandles", inPlace := ["slices.overlaps[ropeladder/api.Item]"], unfollowed := true, recurses := true, apart := false, narrowed := true }
def StoreHandlesUptoSaid : Prop := storeHandlesUptoRow.holds Tryz.pinned (OpenSpec.upto storeHandlesSpec)

end Rows
end Go.Proofs.YtmfnfinbkdemkaaGreat
