/-
  NARROWER THAN 'FOR EVERY INPUT', by the rows' own cells (each row's printed sentence says how): PrecAsks: laid · PrecSides: laid · PrecRise: laid · PrecNone: laid · PrecPipe: laid.
  DERIVED. THE GIVEN ROWS OF THIS SEAT. 5 by the template 'for every input the law returns true; each argument reads behind the call as it read before'; 0 by the template 'total and deterministic' (their statements: YtimhhdikdinhjaaDoorTotals.lean).
  GIVEN WITH THE SEED: the statements are not yours to turn. If you find one false, say at which input.
  Laid BY PROGRAM, IN A SANDBOX (cutbox-rows.mjs): the forced cells as the released guide's own fill.sh prints them over the translation 9910d679ad489187… (all of the seat's roots in one cut). By AI agents, Wed Nov 11 2026. No macro, syntax, notation, axiom, sorry.
-/
import Derived.Test.YtimhhdikdinhjaaDoorChecked
import GoSem.Claim
import GoSem.ClaimJoined
import GoSem.ClaimMapViews
import Derived.JoinedTies
import Derived.KernelRfl
namespace Go.Proofs.YtimhhdikdinhjaaDoor
/- THE CELL 'sum', in the pinned program and in every row, IS THE sha256 OF THE DUMP (.gsa) THAT YtimhhdikdinhjaaDoorProg.lean LOADS. Nothing in Lean hashes anything: it is a label: what it is worth is what the hold of that sum in a sandbox is worth. -/
noncomputable def Tryd.pinned : Pinned := { name := "ytimhhdikdinhjaadoor", sum := "9910d679ad489187c832e7100e95aa52394accc55555668472182299feb29400", checked := Tryd.checked }
namespace Rows
def none {H : Type} : Left H := { results := [], args := [] }

/- WHAT THE LISTED PACKAGE-LEVEL VARIABLES READ AS WHEN THE CALL BEGINS. Each datum BY PROGRAM (the guide's laid-datum.mjs) off the statement by which the dump's own 'gosem.cut.vars' lays the variable. In a bare row this is a premise. The card (YtimhhdikdinhjaaDoorCards.lean) ties it to the program's text. -/
def laid_subeditor_prec_levels {H : Type} : DataW H := .agg [.agg [.lit (.int .i64 2), .slice [.lit (.string [124])] []], .agg [.lit (.int .i64 1), .slice [.lit (.string [44])] []], .agg [.lit (.int .i64 2), .slice [.lit (.string [47, 47])] []], .agg [.lit (.int .i64 0), .slice [.lit (.string [61]), .lit (.string [124, 61]), .lit (.string [43, 61]), .lit (.string [45, 61]), .lit (.string [42, 61]), .lit (.string [47, 61]), .lit (.string [37, 61]), .lit (.string [47, 47, 61])] []], .agg [.lit (.int .i64 1), .slice [.lit (.string [111, 114])] []], .agg [.lit (.int .i64 1), .slice [.lit (.string [97, 110, 100])] []], .agg [.lit (.int .i64 0), .slice [.lit (.string [61, 61]), .lit (.string [33, 61]), .lit (.string [60]), .lit (.string [60, 61]), .lit (.string [62]), .lit (.string [62, 61])] []], .agg [.lit (.int .i64 1), .slice [.lit (.string [43]), .lit (.string [45])] []], .agg [.lit (.int .i64 1), .slice [.lit (.string [42]), .lit (.string [47]), .lit (.string [37])] []]]

/-- 'subeditorlaw06.PrecAsks': WHATEVER THE INPUT: true; the input reads as it did. -/
def precAsksSpec : ChangeSpec := { name := "precAsks", fn := fun _ => fun
  | [d1, d2, d3] => { results := [.lit (.bool true)], args := [d1, d2, d3] }
  | _ => none }
def precAsksRow : OpenClaim := { program := "ytimhhdikdinhjaadoor", sum := "9910d679ad489187c832e7100e95aa52394accc55555668472182299feb29400", func := "subeditor/subeditorlaw06.PrecAsks", spec := "precAsks", unfollowed := true, recurses := true, named := ["subeditor/prec.levels"], apart := false, laid := [("subeditor/prec.levels", laid_subeditor_prec_levels)] }
def PrecAsksSaid : Prop := precAsksRow.holds Tryd.pinned (OpenSpec.ofChange precAsksSpec)

/-- ITS FALSE NEIGHBOUR: 'it returns false'. Refute it at one input. -/
def precAsksWrong : ChangeSpec := { name := "precAsks", fn := fun _ => fun
  | [d1, d2, d3] => { results := [.lit (.bool false)], args := [d1, d2, d3] }
  | _ => none }
def PrecAsksWrongFalsely : Prop := precAsksRow.holds Tryd.pinned (OpenSpec.ofChange precAsksWrong)

/-- 'subeditorlaw06.PrecSides': WHATEVER THE INPUT: true; the input reads as it did. -/
def precSidesSpec : ChangeSpec := { name := "precSides", fn := fun _ => fun
  | [d1, d2] => { results := [.lit (.bool true)], args := [d1, d2] }
  | _ => none }
def precSidesRow : OpenClaim := { program := "ytimhhdikdinhjaadoor", sum := "9910d679ad489187c832e7100e95aa52394accc55555668472182299feb29400", func := "subeditor/subeditorlaw06.PrecSides", spec := "precSides", unfollowed := true, recurses := true, named := ["subeditor/prec.levels"], apart := false, laid := [("subeditor/prec.levels", laid_subeditor_prec_levels)] }
def PrecSidesSaid : Prop := precSidesRow.holds Tryd.pinned (OpenSpec.ofChange precSidesSpec)

/-- ITS FALSE NEIGHBOUR: 'it returns false'. Refute it at one input. -/
def precSidesWrong : ChangeSpec := { name := "precSides", fn := fun _ => fun
  | [d1, d2] => { results := [.lit (.bool false)], args := [d1, d2] }
  | _ => none }
def PrecSidesWrongFalsely : Prop := precSidesRow.holds Tryd.pinned (OpenSpec.ofChange precSidesWrong)

/-- 'subeditorlaw06.PrecRise': WHATEVER THE INPUT: true; the input reads as it did. -/
def precRiseSpec : ChangeSpec := { name := "precRise", fn := fun _ => fun
  | [d] => { results := [.lit (.bool true)], args := [d] }
  | _ => none }
def precRiseRow : OpenClaim := { program := "ytimhhdikdinhjaadoor", sum := "9910d679ad489187c832e7100e95aa52394accc55555668472182299feb29400", func := "subeditor/subeditorlaw06.PrecRise", spec := "precRise", unfollowed := true, recurses := true, named := ["subeditor/prec.levels"], apart := false, laid := [("subeditor/prec.levels", laid_subeditor_prec_levels)] }
def PrecRiseSaid : Prop := precRiseRow.holds Tryd.pinned (OpenSpec.ofChange precRiseSpec)

/-- ITS FALSE NEIGHBOUR: 'it returns false'. Refute it at one input. -/
def precRiseWrong : ChangeSpec := { name := "precRise", fn := fun _ => fun
  | [d] => { results := [.lit (.bool false)], args := [d] }
  | _ => none }
def PrecRiseWrongFalsely : Prop := precRiseRow.holds Tryd.pinned (OpenSpec.ofChange precRiseWrong)

/-- 'subeditorlaw06.PrecNone': WHATEVER THE INPUT: true; the input reads as it did. -/
def precNoneSpec : ChangeSpec := { name := "precNone", fn := fun _ => fun
  | [d1, d2] => { results := [.lit (.bool true)], args := [d1, d2] }
  | _ => none }
def precNoneRow : OpenClaim := { program := "ytimhhdikdinhjaadoor", sum := "9910d679ad489187c832e7100e95aa52394accc55555668472182299feb29400", func := "subeditor/subeditorlaw06.PrecNone", spec := "precNone", unfollowed := true, recurses := true, named := ["subeditor/prec.levels"], apart := false, laid := [("subeditor/prec.levels", laid_subeditor_prec_levels)] }
def PrecNoneSaid : Prop := precNoneRow.holds Tryd.pinned (OpenSpec.ofChange precNoneSpec)

/-- ITS FALSE NEIGHBOUR: 'it returns false'. Refute it at one input. -/
def precNoneWrong : ChangeSpec := { name := "precNone", fn := fun _ => fun
  | [d1, d2] => { results := [.lit (.bool false)], args := [d1, d2] }
  | _ => none }
def PrecNoneWrongFalsely : Prop := precNoneRow.holds Tryd.pinned (OpenSpec.ofChange precNoneWrong)

/-- 'subeditorlaw06.PrecPipe': WHATEVER THE INPUT: true; the input reads as it did. -/
def precPipeSpec : ChangeSpec := { name := "precPipe", fn := fun _ => fun
  | [d] => { results := [.lit (.bool true)], args := [d] }
  | _ => none }
def precPipeRow : OpenClaim := { program := "ytimhhdikdinhjaadoor", sum := "9910d679ad489187c832e7100e95aa52394accc55555668472182299feb29400", func := "subeditor/subeditorlaw06.PrecPipe", spec := "precPipe", unfollowed := true, recurses := true, named := ["subeditor/prec.levels"], apart := false, laid := [("subeditor/prec.levels", laid_subeditor_prec_levels)] }
def PrecPipeSaid : Prop := precPipeRow.holds Tryd.pinned (OpenSpec.ofChange precPipeSpec)

/-- ITS FALSE NEIGHBOUR: 'it returns false'. Refute it at one input. -/
def precPipeWrong : ChangeSpec := { name := "precPipe", fn := fun _ => fun
  | [d] => { results := [.lit (.bool false)], args := [d] }
  | _ => none }
def PrecPipeWrongFalsely : Prop := precPipeRow.holds Tryd.pinned (OpenSpec.ofChange precPipeWrong)

/- THE SECOND FORM. 'bulk': how many values and letters a reading holds, each counted each time it is reached (what is shared counts as often as it is met; a slice's spare places count too). A statement '..UptoSaid' is the law's where the arguments, and the package variables that the reading takes, are together of bulk at most 1048576: NARROWER than '..Said'. Prove '..Said' where nothing that the law and all that it calls make is longer than what came in: it says more and counts as full. Else prove '..UptoSaid'. A law counts once. -/
mutual
def uptoBulk {H : Type} : DataW H → Nat
  | .lit (.string bytes) => bytes.length + 1
  | .lit _ => 1
  | .nil => 1
  | .ptr d => uptoBulk d + 1
  | .slice elems spare => uptoBulkAll elems + uptoBulkAll spare + 1
  | .agg parts => uptoBulkAll parts + 1
  | .iface _ d => uptoBulk d + 1
  | .map entries => uptoBulkEntries entries + 1
  | .held _ => 1
def uptoBulkAll {H : Type} : List (DataW H) → Nat
  | [] => 0
  | d :: r => uptoBulk d + uptoBulkAll r
def uptoBulkEntries {H : Type} : List (Lit × DataW H) → Nat
  | [] => 0
  | x :: r => uptoBulkEntry x + uptoBulkEntries r
def uptoBulkEntry {H : Type} : Lit × DataW H → Nat
  | (.string bytes, d) => bytes.length + uptoBulk d + 1
  | (_, d) => uptoBulk d + 1
 end
def uptoSmall : (H : Type) → List (DataW H) → Bool := fun _ ds => decide (uptoBulkAll ds ≤ 1048576)
def OpenSpec.upto (s : _root_.Go.ChangeSpec) : _root_.Go.OpenSpec := { _root_.Go.OpenSpec.ofChange s with cond := some uptoSmall }

/-- 'subeditorlaw06.PrecAsks', WHERE WHAT IT READS IS OF BULK AT MOST 1048576: true; the input reads as it did. -/
def precAsksUptoRow : OpenClaim := { program := "ytimhhdikdinhjaadoor", sum := "9910d679ad489187c832e7100e95aa52394accc55555668472182299feb29400", func := "subeditor/subeditorlaw06.PrecAsks", spec := "precAsks", unfollowed := true, recurses := true, named := ["subeditor/prec.levels"], apart := false, laid := [("subeditor/prec.levels", laid_subeditor_prec_levels)], narrowed := true }
def PrecAsksUptoSaid : Prop := precAsksUptoRow.holds Tryd.pinned (OpenSpec.upto precAsksSpec)

/-- 'subeditorlaw06.PrecSides', WHERE WHAT IT READS IS OF BULK AT MOST 1048576: true; the input reads as it did. -/
def precSidesUptoRow : OpenClaim := { program := "ytimhhdikdinhjaadoor", sum := "9910d679ad489187c832e7100e95aa52394accc55555668472182299feb29400", func := "subeditor/subeditorlaw06.PrecSides", spec := "precSides", unfollowed := true, recurses := true, named := ["subeditor/prec.levels"], apart := false, laid := [("subeditor/prec.levels", laid_subeditor_prec_levels)], narrowed := true }
def PrecSidesUptoSaid : Prop := precSidesUptoRow.holds Tryd.pinned (OpenSpec.upto precSidesSpec)

/-- 'subeditorlaw06.PrecRise', WHERE WHAT IT READS IS OF BULK AT MOST 1048576: true; the input reads as it did. -/
def precRiseUptoRow : OpenClaim := { program := "ytimhhdikdinhjaadoor", sum := "9910d679ad489187c832e7100e95aa52394accc55555668472182299feb29400", func := "subeditor/subeditorlaw06.PrecRise", spec := "precRise", unfollowed := true, recurses := true, named := ["subeditor/prec.levels"], apart := false, laid := [("subeditor/prec.levels", laid_subeditor_prec_levels)], narrowed := true }
def PrecRiseUptoSaid : Prop := precRiseUptoRow.holds Tryd.pinned (OpenSpec.upto precRiseSpec)

/-- 'subeditorlaw06.PrecNone', WHERE WHAT IT READS IS OF BULK AT MOST 1048576: true; the input reads as it did. -/
def precNoneUptoRow : OpenClaim := { program := "ytimhhdikdinhjaadoor", sum := "9910d679ad489187c832e7100e95aa52394accc55555668472182299feb29400", func := "subeditor/subeditorlaw06.PrecNone", spec := "precNone", unfollowed := true, recurses := true, named := ["subeditor/prec.levels"], apart := false, laid := [("subeditor/prec.levels", laid_subeditor_prec_levels)], narrowed := true }
def PrecNoneUptoSaid : Prop := precNoneUptoRow.holds Tryd.pinned (OpenSpec.upto precNoneSpec)

/-- 'subeditorlaw06.PrecPipe', WHERE WHAT IT READS IS OF BULK AT MOST 1048576: true; the input reads as it did. -/
def precPipeUptoRow : OpenClaim := { program := "ytimhhdikdinhjaadoor", sum := "9910d679ad489187c832e7100e95aa52394accc55555668472182299feb29400", func := "subeditor/subeditorlaw06.PrecPipe", spec := "precPipe", unfollowed := true, recurses := true, named := ["subeditor/prec.levels"], apart := false, laid := [("subeditor/prec.levels", laid_subeditor_prec_levels)], narrowed := true }
def PrecPipeUptoSaid : Prop := precPipeUptoRow.holds Tryd.pinned (OpenSpec.upto precPipeSpec)

end Rows
end Go.Proofs.YtimhhdikdinhjaaDoor
