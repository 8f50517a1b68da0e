/-
  No cell of these rows narrows 'for every input' (looked for: loops, veiled, ifaces, maps, wideKeys, modest, calm, conditions, laid).
  DERIVED. THE GIVEN ROWS OF THIS SEAT. 8 by the template 'for every input the law returns true; each argument reads behind the call as it read before'; 0 by the template 'total and deterministic' (their statements: YtepniobmhplphaaTotals.lean).
  GIVEN WITH THE SEED: the statements are not yours to turn. If you find one false, say at which input.
  Laid BY PROGRAM, IN A SANDBOX (cutbox-rows.mjs): the forced cells as the released guide's own fill.sh prints them over the translation 410012d13bdf0ce9… (all of the seat's roots in one cut). By AI agents, Wed Nov 11 2026. No macro, syntax, notation, axiom, sorry.
-/
import Derived.Test.YtepniobmhplphaaChecked
import GoSem.Claim
import GoSem.ClaimJoined
import GoSem.ClaimMapViews
import Derived.JoinedTies
import Derived.KernelRfl
namespace Go.Proofs.Ytepniobmhplphaa
/- THE CELL 'sum', in the pinned program and in every row, IS THE sha256 OF THE DUMP (.gsa) THAT YtepniobmhplphaaProg.lean LOADS. Nothing in Lean hashes anything: it is a label: what it is worth is what the hold of that sum in a sandbox is worth. -/
noncomputable def Try.pinned : Pinned := { name := "ytepniobmhplphaa", sum := "410012d13bdf0ce9ed2f7b2ea7d76bc855ac9a17ba5206386a9c3d7635ad313f", checked := Try.checked }
namespace Rows
def none {H : Type} : Left H := { results := [], args := [] }

/-- 'subeditorlaw02.EditMakes': WHATEVER THE INPUT: true; the input reads as it did. -/
def editMakesSpec : ChangeSpec := { name := "editMakes", fn := fun _ => fun
  | [d1, d2, d3, d4, d5, d6] => { results := [.lit (.bool true)], args := [d1, d2, d3, d4, d5, d6] }
  | _ => none }
def editMakesRow : OpenClaim := { program := "ytepniobmhplphaa", sum := "410012d13bdf0ce9ed2f7b2ea7d76bc855ac9a17ba5206386a9c3d7635ad313f", func := "subeditor/subeditorlaw02.EditMakes", spec := "editMakes", inPlace := ["internal/abi.NoEscape"], unfollowed := true, recurses := true, apart := false }
def EditMakesSaid : Prop := editMakesRow.holds Try.pinned (OpenSpec.ofChange editMakesSpec)

/-- ITS FALSE NEIGHBOUR: 'it returns false'. Refute it at one input. -/
def editMakesWrong : ChangeSpec := { name := "editMakes", fn := fun _ => fun
  | [d1, d2, d3, d4, d5, d6] => { results := [.lit (.bool false)], args := [d1, d2, d3, d4, d5, d6] }
  | _ => none }
def EditMakesWrongFalsely : Prop := editMakesRow.holds Try.pinned (OpenSpec.ofChange editMakesWrong)

/-- 'subeditorlaw02.EditDiffs': WHATEVER THE INPUT: true; the input reads as it did. -/
def editDiffsSpec : ChangeSpec := { name := "editDiffs", fn := fun _ => fun
  | [d1, d2, d3] => { results := [.lit (.bool true)], args := [d1, d2, d3] }
  | _ => none }
def editDiffsRow : OpenClaim := { program := "ytepniobmhplphaa", sum := "410012d13bdf0ce9ed2f7b2ea7d76bc855ac9a17ba5206386a9c3d7635ad313f", func := "subeditor/subeditorlaw02.EditDiffs", spec := "editDiffs", inPlace := ["internal/abi.NoEscape"], unfollowed := true, recurses := true, apart := false }
def EditDiffsSaid : Prop := editDiffsRow.holds Try.pinned (OpenSpec.ofChange editDiffsSpec)

/-- ITS FALSE NEIGHBOUR: 'it returns false'. Refute it at one input. -/
def editDiffsWrong : ChangeSpec := { name := "editDiffs", fn := fun _ => fun
  | [d1, d2, d3] => { results := [.lit (.bool false)], args := [d1, d2, d3] }
  | _ => none }
def EditDiffsWrongFalsely : Prop := editDiffsRow.holds Try.pinned (OpenSpec.ofChange editDiffsWrong)

/-- 'subeditorlaw02.EditBack': WHATEVER THE INPUT: true; the input reads as it did. -/
def editBackSpec : ChangeSpec := { name := "editBack", fn := fun _ => fun
  | [d1, d2] => { results := [.lit (.bool true)], args := [d1, d2] }
  | _ => none }
def editBackRow : OpenClaim := { program := "ytepniobmhplphaa", sum := "410012d13bdf0ce9ed2f7b2ea7d76bc855ac9a17ba5206386a9c3d7635ad313f", func := "subeditor/subeditorlaw02.EditBack", spec := "editBack", inPlace := ["internal/abi.NoEscape"], unfollowed := true, recurses := true, apart := false }
def EditBackSaid : Prop := editBackRow.holds Try.pinned (OpenSpec.ofChange editBackSpec)

/-- ITS FALSE NEIGHBOUR: 'it returns false'. Refute it at one input. -/
def editBackWrong : ChangeSpec := { name := "editBack", fn := fun _ => fun
  | [d1, d2] => { results := [.lit (.bool false)], args := [d1, d2] }
  | _ => none }
def EditBackWrongFalsely : Prop := editBackRow.holds Try.pinned (OpenSpec.ofChange editBackWrong)

/-- 'subeditorlaw02.EditDiff': WHATEVER THE INPUT: true; the input reads as it did. -/
def editDiffSpec : ChangeSpec := { name := "editDiff", fn := fun _ => fun
  | [d1, d2, d3] => { results := [.lit (.bool true)], args := [d1, d2, d3] }
  | _ => none }
def editDiffRow : OpenClaim := { program := "ytepniobmhplphaa", sum := "410012d13bdf0ce9ed2f7b2ea7d76bc855ac9a17ba5206386a9c3d7635ad313f", func := "subeditor/subeditorlaw02.EditDiff", spec := "editDiff", inPlace := ["internal/abi.NoEscape"], unfollowed := true, recurses := true, apart := false }
def EditDiffSaid : Prop := editDiffRow.holds Try.pinned (OpenSpec.ofChange editDiffSpec)

/-- ITS FALSE NEIGHBOUR: 'it returns false'. Refute it at one input. -/
def editDiffWrong : ChangeSpec := { name := "editDiff", fn := fun _ => fun
  | [d1, d2, d3] => { results := [.lit (.bool false)], args := [d1, d2, d3] }
  | _ => none }
def EditDiffWrongFalsely : Prop := editDiffRow.holds Try.pinned (OpenSpec.ofChange editDiffWrong)

/-- 'subeditorlaw02.EditShift': WHATEVER THE INPUT: true; the input reads as it did. -/
def editShiftSpec : ChangeSpec := { name := "editShift", fn := fun _ => fun
  | [d1, d2, d3] => { results := [.lit (.bool true)], args := [d1, d2, d3] }
  | _ => none }
def editShiftRow : OpenClaim := { program := "ytepniobmhplphaa", sum := "410012d13bdf0ce9ed2f7b2ea7d76bc855ac9a17ba5206386a9c3d7635ad313f", func := "subeditor/subeditorlaw02.EditShift", spec := "editShift", inPlace := ["internal/abi.NoEscape"], unfollowed := true, recurses := true, apart := false }
def EditShiftSaid : Prop := editShiftRow.holds Try.pinned (OpenSpec.ofChange editShiftSpec)

/-- ITS FALSE NEIGHBOUR: 'it returns false'. Refute it at one input. -/
def editShiftWrong : ChangeSpec := { name := "editShift", fn := fun _ => fun
  | [d1, d2, d3] => { results := [.lit (.bool false)], args := [d1, d2, d3] }
  | _ => none }
def EditShiftWrongFalsely : Prop := editShiftRow.holds Try.pinned (OpenSpec.ofChange editShiftWrong)

/-- 'subeditorlaw02.EditRight': WHATEVER THE INPUT: true; the input reads as it did. -/
def editRightSpec : ChangeSpec := { name := "editRight", fn := fun _ => fun
  | [d1, d2] => { results := [.lit (.bool true)], args := [d1, d2] }
  | _ => none }
def editRightRow : OpenClaim := { program := "ytepniobmhplphaa", sum := "410012d13bdf0ce9ed2f7b2ea7d76bc855ac9a17ba5206386a9c3d7635ad313f", func := "subeditor/subeditorlaw02.EditRight", spec := "editRight", inPlace := ["internal/abi.NoEscape"], unfollowed := true, recurses := true, apart := false }
def EditRightSaid : Prop := editRightRow.holds Try.pinned (OpenSpec.ofChange editRightSpec)

/-- ITS FALSE NEIGHBOUR: 'it returns false'. Refute it at one input. -/
def editRightWrong : ChangeSpec := { name := "editRight", fn := fun _ => fun
  | [d1, d2] => { results := [.lit (.bool false)], args := [d1, d2] }
  | _ => none }
def EditRightWrongFalsely : Prop := editRightRow.holds Try.pinned (OpenSpec.ofChange editRightWrong)

/-- 'subeditorlaw02.EditApart': WHATEVER THE INPUT: true; the input reads as it did. -/
def editApartSpec : ChangeSpec := { name := "editApart", fn := fun _ => fun
  | [d1, d2] => { results := [.lit (.bool true)], args := [d1, d2] }
  | _ => none }
def editApartRow : OpenClaim := { program := "ytepniobmhplphaa", sum := "410012d13bdf0ce9ed2f7b2ea7d76bc855ac9a17ba5206386a9c3d7635ad313f", func := "subeditor/subeditorlaw02.EditApart", spec := "editApart", inPlace := ["internal/abi.NoEscape"], unfollowed := true, recurses := true, apart := false }
def EditApartSaid : Prop := editApartRow.holds Try.pinned (OpenSpec.ofChange editApartSpec)

/-- ITS FALSE NEIGHBOUR: 'it returns false'. Refute it at one input. -/
def editApartWrong : ChangeSpec := { name := "editApart", fn := fun _ => fun
  | [d1, d2] => { results := [.lit (.bool false)], args := [d1, d2] }
  | _ => none }
def EditApartWrongFalsely : Prop := editApartRow.holds Try.pinned (OpenSpec.ofChange editApartWrong)

/-- 'subeditorlaw02.EditOne': WHATEVER THE INPUT: true; the input reads as it did. -/
def editOneSpec : ChangeSpec := { name := "editOne", fn := fun _ => fun
  | [d1, d2, d3] => { results := [.lit (.bool true)], args := [d1, d2, d3] }
  | _ => none }
def editOneRow : OpenClaim := { program := "ytepniobmhplphaa", sum := "410012d13bdf0ce9ed2f7b2ea7d76bc855ac9a17ba5206386a9c3d7635ad313f", func := "subeditor/subeditorlaw02.EditOne", spec := "editOne", inPlace := ["internal/abi.NoEscape"], unfollowed := true, recurses := true, apart := false }
def EditOneSaid : Prop := editOneRow.holds Try.pinned (OpenSpec.ofChange editOneSpec)

/-- ITS FALSE NEIGHBOUR: 'it returns false'. Refute it at one input. -/
def editOneWrong : ChangeSpec := { name := "editOne", fn := fun _ => fun
  | [d1, d2, d3] => { results := [.lit (.bool false)], args := [d1, d2, d3] }
  | _ => none }
def EditOneWrongFalsely : Prop := editOneRow.holds Try.pinned (OpenSpec.ofChange editOneWrong)

/- THE SECOND FORM. 'bulk': how many values and letters a reading holds, each counted each time it is reached (what is shared counts as often as it is met; a slice's spare places count too). A statement '..UptoSaid' is the law's where the arguments, and the package variables that the reading takes, are together of bulk at most 1048576: NARROWER than '..Said'. Prove '..Said' where nothing that the law and all that it calls make is longer than what came in: it says more and counts as full. Else prove '..UptoSaid'. A law counts once. -/
mutual
def uptoBulk {H : Type} : DataW H → Nat
  | .lit (.string bytes) => bytes.length + 1
  | .lit _ => 1
  | .nil => 1
  | .ptr d => uptoBulk d + 1
  | .slice elems spare => uptoBulkAll elems + uptoBulkAll spare + 1
  | .agg parts => uptoBulkAll parts + 1
  | .iface _ d => uptoBulk d + 1
  | .map entries => uptoBulkEntries entries + 1
  | .held _ => 1
def uptoBulkAll {H : Type} : List (DataW H) → Nat
  | [] => 0
  | d :: r => uptoBulk d + uptoBulkAll r
def uptoBulkEntries {H : Type} : List (Lit × DataW H) → Nat
  | [] => 0
  | x :: r => uptoBulkEntry x + uptoBulkEntries r
def uptoBulkEntry {H : Type} : Lit × DataW H → Nat
  | (.string bytes, d) => bytes.length + uptoBulk d + 1
  | (_, d) => uptoBulk d + 1
 end
def uptoSmall : (H : Type) → List (DataW H) → Bool := fun _ ds => decide (uptoBulkAll ds ≤ 1048576)
def OpenSpec.upto (s : _root_.Go.ChangeSpec) : _root_.Go.OpenSpec := { _root_.Go.OpenSpec.ofChange s with cond := some uptoSmall }

/-- 'subeditorlaw02.EditMakes', WHERE WHAT IT READS IS OF BULK AT MOST 1048576: true; the input reads as it did. -/
def editMakesUptoRow : OpenClaim := { program := "ytepniobmhplphaa", sum := "410012d13bdf0ce9ed2f7b2ea7d76bc855ac9a17ba5206386a9c3d7635ad313f", func := "subeditor/subeditorlaw02.EditMakes", spec := "editMakes", inPlace := ["internal/abi.NoEscape"], unfollowed := true, recurses := true, apart := false, narrowed := true }
def EditMakesUptoSaid : Prop := editMakesUptoRow.holds Try.pinned (OpenSpec.upto editMakesSpec)

/-- 'subeditorlaw02.EditDiffs', WHERE WHAT IT READS IS OF BULK AT MOST 1048576: true; the input reads as it did. -/
def editDiffsUptoRow : OpenClaim := { program := "ytepniobmhplphaa", sum := "410012d13bdf0ce9ed2f7b2ea7d76bc855ac9a17ba5206386a9c3d7635ad313f", func := "subeditor/subeditorlaw02.EditDiffs", spec := "editDiffs", inPlace := ["internal/abi.NoEscape"], unfollowed := true, recurses := true, apart := false, narrowed := true }
def EditDiffsUptoSaid : Prop := editDiffsUptoRow.holds Try.pinned (OpenSpec.upto editDiffsSpec)

/-- 'subeditorlaw02.EditBack', WHERE WHAT IT READS IS OF BULK AT MOST 1048576: true; the input reads as it did. -/
def editBackUptoRow : OpenClaim := { program := "ytepniobmhplphaa", sum := "410012d13bdf0ce9ed2f7b2ea7d76bc855ac9a17ba5206386a9c3d7635ad313f", func := "subeditor/subeditorlaw02.EditBack", spec := "editBack", inPlace := ["internal/abi.NoEscape"], unfollowed := true, recurses := true, apart := false, narrowed := true }
def EditBackUptoSaid : Prop := editBackUptoRow.holds Try.pinned (OpenSpec.upto editBackSpec)

/-- 'subeditorlaw02.EditDiff', WHERE WHAT IT READS IS OF BULK AT MOST 1048576: true; the input reads as it did. -/
def editDiffUptoRow : OpenClaim := { program := "ytepniobmhplphaa", sum := "410012d13bdf0ce9ed2f7b2ea7d76bc855ac9a17ba5206386a9c3d7635ad313f", func := "subeditor/subeditorlaw02.EditDiff", spec := "editDiff", inPlace := ["internal/abi.NoEscape"], unfollowed := true, recurses := true, apart := false, narrowed := true }
def EditDiffUptoSaid : Prop := editDiffUptoRow.holds Try.pinned (OpenSpec.upto editDiffSpec)

/-- 'subeditorlaw02.EditShift', WHERE WHAT IT READS IS OF BULK AT MOST 1048576: true; the input reads as it did. -/
def editShiftUptoRow : OpenClaim := { program := "ytepniobmhplphaa", sum := "410012d13bdf0ce9ed2f7b2ea7d76bc855ac9a17ba5206386a9c3d7635ad313f", func := "subeditor/subeditorlaw02.EditShift", spec := "editShift", inPlace := ["internal/abi.NoEscape"], unfollowed := true, recurses := true, apart := false, narrowed := true }
def EditShiftUptoSaid : Prop := editShiftUptoRow.holds Try.pinned (OpenSpec.upto editShiftSpec)

/-- 'subeditorlaw02.EditRight', WHERE WHAT IT READS IS OF BULK AT MOST 1048576: true; the input reads as it did. -/
def editRightUptoRow : OpenClaim := { program := "ytepniobmhplphaa", sum := "410012d13bdf0ce9ed2f7b2ea7d76bc855ac9a17ba5206386a9c3d7635ad313f", func := "subeditor/subeditorlaw02.EditRight", spec := "editRight", inPlace := ["internal/abi.NoEscape"], unfollowed := true, recurses := true, apart := false, narrowed := true }
def EditRightUptoSaid : Prop := editRightUptoRow.holds Try.pinned (OpenSpec.upto editRightSpec)

/-- 'subeditorlaw02.EditApart', WHERE WHAT IT READS IS OF BULK AT MOST 1048576: true; the input reads as it did. -/
def editApartUptoRow : OpenClaim := { program := "ytepniobmhplphaa", sum := "410012d13bdf0ce9ed2f7b2ea7d76bc855ac9a17ba5206386a9c3d7635ad313f", func := "subeditor/subeditorlaw02.EditApart", spec := "editApart", inPlace := ["internal/abi.NoEscape"], unfollowed := true, recurses := true, apart := false, narrowed := true }
def EditApartUptoSaid : Prop := editApartUptoRow.holds Try.pinned (OpenSpec.upto editApartSpec)

/-- 'subeditorlaw02.EditOne', WHERE WHAT IT READS IS OF BULK AT MOST 1048576: true; the input reads as it did. -/
def editOneUptoRow : OpenClaim := { program := "ytepniobmhplphaa", sum := "410012d13bdf0ce9ed2f7b2ea7d76bc855ac9a17ba5206386a9c3d7635ad313f", func := "subeditor/subeditorlaw02.EditOne", spec := "editOne", inPlace := ["internal/abi.NoEscape"], unfollowed := true, recurses := true, apart := false, narrowed := true }
def EditOneUptoSaid : Prop := editOneUptoRow.holds Try.pinned (OpenSpec.upto editOneSpec)

end Rows
end Go.Proofs.Ytepniobmhplphaa
