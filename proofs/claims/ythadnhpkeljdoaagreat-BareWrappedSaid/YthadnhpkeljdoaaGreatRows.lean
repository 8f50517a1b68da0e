/-
  NARROWER THAN 'FOR EVERY INPUT', by the rows' own cells (each row's printed sentence says how): BareAsks: loops.
  DERIVED. THE GIVEN ROWS OF THIS SEAT. 3 by the template 'for every input the law returns true; each argument reads behind the call as it read before'; 0 by the template 'total and deterministic' (their statements: YthadnhpkeljdoaaGreatTotals.lean).
  GIVEN WITH THE SEED: the statements are not yours to turn. If you find one false, say at which input.
  Laid BY PROGRAM, IN A SANDBOX (cutbox-rows.mjs): the forced cells as the released guide's own fill.sh prints them over the translation fb9e9817376bd0da… (all of the seat's roots in one cut). By AI agents, Wed Nov 11 2026. No macro, syntax, notation, axiom, sorry.
-/
import Derived.Test.YthadnhpkeljdoaaGreatChecked
import GoSem.Claim
import GoSem.ClaimJoined
import GoSem.ClaimMapViews
import Derived.JoinedTies
import Derived.KernelRfl
namespace Go.Proofs.YthadnhpkeljdoaaGreat
/- THE CELL 'sum', in the pinned program and in every row, IS THE sha256 OF THE DUMP (.gsa) THAT YthadnhpkeljdoaaGreatProg.lean LOADS. Nothing in Lean hashes anything: it is a label: what it is worth is what the hold of that sum in a sandbox is worth. -/
noncomputable def Tryz.pinned : Pinned := { name := "ythadnhpkeljdoaagreat", sum := "fb9e9817376bd0da1bedc6a75a7973c1fa5105aaa4dd28e97931dd48f60aa057", checked := Tryz.checked }
namespace Rows
def none {H : Type} : Left H := { results := [], args := [] }

/-- 'subeditorlaw09.BareOnce': WHATEVER THE INPUT: true; the input reads as it did. -/
def bareOnceSpec : ChangeSpec := { name := "bareOnce", fn := fun _ => fun
  | [d1, d2, d3] => { results := [.lit (.bool true)], args := [d1, d2, d3] }
  | _ => none }
def bareOnceRow : OpenClaim := { program := "ythadnhpkeljdoaagreat", sum := "fb9e9817376bd0da1bedc6a75a7973c1fa5105aaa4dd28e97931dd48f60aa057", func := "subeditor/subeditorlaw09.BareOnce", spec := "bareOnce", unfollowed := true, recurses := true, apart := false }
def BareOnceSaid : Prop := bareOnceRow.holds Tryz.pinned (OpenSpec.ofChange bareOnceSpec)

/-- ITS FALSE NEIGHBOUR: 'it returns false'. Refute it at one input. -/
def bareOnceWrong : ChangeSpec := { name := "bareOnce", fn := fun _ => fun
  | [d1, d2, d3] => { results := [.lit (.bool false)], args := [d1, d2, d3] }
  | _ => none }
def BareOnceWrongFalsely : Prop := bareOnceRow.holds Tryz.pinned (OpenSpec.ofChange bareOnceWrong)

/-- 'subeditorlaw09.BareWrapped': WHATEVER THE INPUT: true; the input reads as it did. -/
def bareWrappedSpec : ChangeSpec := { name := "bareWrapped", fn := fun _ => fun
  | [d1, d2, d3] => { results := [.lit (.bool true)], args := [d1, d2, d3] }
  | _ => none }
def bareWrappedRow : OpenClaim := { program := "ythadnhpkeljdoaagreat", sum := "fb9e9817376bd0da1bedc6a75a7973c1fa5105aaa4dd28e97931dd48f60aa057", func := "subeditor/subeditorlaw09.BareWrapped", spec := "bareWrapped", unfollowed := true, recurses := true, apart := false }
def BareWrappedSaid : Prop := bareWrappedRow.holds Tryz.pinned (OpenSpec.ofChange bareWrappedSpec)

/-- ITS FALSE NEIGHBOUR: 'it returns false'. Refute it at one input. -/
def bareWrappedWrong : ChangeSpec := { name := "bareWrapped", fn := fun _ => fun
  | [d1, d2, d3] => { results := [.lit (.bool false)], args := [d1, d2, d3] }
  | _ => none }
def BareWrappedWrongFalsely : Prop := bareWrappedRow.holds Tryz.pinned (OpenSpec.ofChange bareWrappedWrong)

/-- 'subeditorlaw09.BareAsks': WHATEVER THE INPUT: true; the input reads as it did. -/
def bareAsksSpec : ChangeSpec := { name := "bareAsks", fn := fun _ => fun
  | [d1, d2, d3, d4, d5, d6] => { results := [.lit (.bool true)], args := [d1, d2, d3, d4, d5, d6] }
  | _ => none }
def bareAsksRow : OpenClaim := { program := "ythadnhpkeljdoaagreat", sum := "fb9e9817376bd0da1bedc6a75a7973c1fa5105aaa4dd28e97931dd48f60aa057", func := "subeditor/subeditorlaw09.BareAsks", spec := "bareAsks", unfollowed := true, recurses := true, loops := true, apart := false }
def BareAsksSaid : Prop := bareAsksRow.holds Tryz.pinned (OpenSpec.ofChange bareAsksSpec)

/-- ITS FALSE NEIGHBOUR: 'it returns false'. Refute it at one input. -/
def bareAsksWrong : ChangeSpec := { name := "bareAsks", fn := fun _ => fun
  | [d1, d2, d3, d4, d5, d6] => { results := [.lit (.bool false)], args := [d1, d2, d3, d4, d5, d6] }
  | _ => none }
def BareAsksWrongFalsely : Prop := bareAsksRow.holds Tryz.pinned (OpenSpec.ofChange bareAsksWrong)

/- THE SECOND FORM. 'bulk': how many values and letters a reading holds, each counted each time it is reached (what is shared counts as often as it is met; a slice's spare places count too). A statement '..UptoSaid' is the law's where the arguments, and the package variables that the reading takes, are together of bulk at most 1048576: NARROWER than '..Said'. Prove '..Said' where nothing that the law and all that it calls make is longer than what came in: it says more and counts as full. Else prove '..UptoSaid'. A law counts once. -/
mutual
def uptoBulk {H : Type} : DataW H → Nat
  | .lit (.string bytes) => bytes.length + 1
  | .lit _ => 1
  | .nil => 1
  | .ptr d => uptoBulk d + 1
  | .slice elems spare => uptoBulkAll elems + uptoBulkAll spare + 1
  | .agg parts => uptoBulkAll parts + 1
  | .iface _ d => uptoBulk d + 1
  | .map entries => uptoBulkEntries entries + 1
  | .held _ => 1
def uptoBulkAll {H : Type} : List (DataW H) → Nat
  | [] => 0
  | d :: r => uptoBulk d + uptoBulkAll r
def uptoBulkEntries {H : Type} : List (Lit × DataW H) → Nat
  | [] => 0
  | x :: r => uptoBulkEntry x + uptoBulkEntries r
def uptoBulkEntry {H : Type} : Lit × DataW H → Nat
  | (.string bytes, d) => bytes.length + uptoBulk d + 1
  | (_, d) => uptoBulk d + 1
 end
def uptoSmall : (H : Type) → List (DataW H) → Bool := fun _ ds => decide (uptoBulkAll ds ≤ 1048576)
def OpenSpec.upto (s : _root_.Go.ChangeSpec) : _root_.Go.OpenSpec := { _root_.Go.OpenSpec.ofChange s with cond := some uptoSmall }

/-- 'subeditorlaw09.BareOnce', WHERE WHAT IT READS IS OF BULK AT MOST 1048576: true; the input reads as it did. -/
def bareOnceUptoRow : OpenClaim := { program := "ythadnhpkeljdoaagreat", sum := "fb9e9817376bd0da1bedc6a75a7973c1fa5105aaa4dd28e97931dd48f60aa057", func := "subeditor/subeditorlaw09.BareOnce", spec := "bareOnce", unfollowed := true, recurses := true, apart := false, narrowed := true }
def BareOnceUptoSaid : Prop := bareOnceUptoRow.holds Tryz.pinned (OpenSpec.upto bareOnceSpec)

/-- 'subeditorlaw09.BareWrapped', WHERE WHAT IT READS IS OF BULK AT MOST 1048576: true; the input reads as it did. -/
def bareWrappedUptoRow : OpenClaim := { program := "ythadnhpkeljdoaagreat", sum := "fb9e9817376bd0da1bedc6a75a7973c1fa5105aaa4dd28e97931dd48f60aa057", func := "subeditor/subeditorlaw09.BareWrapped", spec := "bareWrapped", unfollowed := true, recurses := true, apart := false, narrowed := true }
def BareWrappedUptoSaid : Prop := bareWrappedUptoRow.holds Tryz.pinned (OpenSpec.upto bareWrappedSpec)

/-- 'subeditorlaw09.BareAsks', WHERE WHAT IT READS IS OF BULK AT MOST 1048576: true; the input reads as it did. -/
def bareAsksUptoRow : OpenClaim := { program := "ythadnhpkeljdoaagreat", sum := "fb9e9817376bd0da1bedc6a75a7973c1fa5105aaa4dd28e97931dd48f60aa057", func := "subeditor/subeditorlaw09.BareAsks", spec := "bareAsks", unfollowed := true, recurses := true, loops := true, apart := false, narrowed := true }
def BareAsksUptoSaid : Prop := bareAsksUptoRow.holds Tryz.pinned (OpenSpec.upto bareAsksSpec)

end Rows
end Go.Proofs.YthadnhpkeljdoaaGreat
