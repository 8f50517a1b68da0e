/-
  NARROWER THAN 'FOR EVERY INPUT', by the rows' own cells (each row's printed sentence says how): SignAsks: laid · SignWhole: laid · SignKeys: laid · SignEscapes: laid · SignBytes: laid · SignOpers: laid · SignNumbers: laid.
  DERIVED. THE GIVEN ROWS OF THIS SEAT. 7 by the template 'for every input the law returns true; each argument reads behind the call as it read before'; 0 by the template 'total and deterministic' (their statements: YtdhmcfhpadabaaaDoorTotals.lean).
  GIVEN WITH THE SEED: the statements are not yours to turn. If you find one false, say at which input.
  Laid BY PROGRAM, IN A SANDBOX (cutbox-rows.mjs): the forced cells as the released guide's own fill.sh prints them over the translation 9f2cb88dbd4f91a2… (all of the seat's roots in one cut). By AI agents, Wed Nov 11 2026. No macro, syntax, notation, axiom, sorry.
-/
import Derived.Test.YtdhmcfhpadabaaaDoorChecked
import GoSem.Claim
import GoSem.ClaimJoined
import GoSem.ClaimMapViews
import Derived.JoinedTies
import Derived.KernelRfl
namespace Go.Proofs.YtdhmcfhpadabaaaDoor
/- THE CELL 'sum', in the pinned program and in every row, IS THE sha256 OF THE DUMP (.gsa) THAT YtdhmcfhpadabaaaDoorProg.lean LOADS. Nothing in Lean hashes anything: it is a label: what it is worth is what the hold of that sum in a sandbox is worth. -/
noncomputable def Tryd.pinned : Pinned := { name := "ytdhmcfhpadabaaadoor", sum := "9f2cb88dbd4f91a2b6ae01a34db20add7f5f01d9cd6bebbddfc3f67f0bdfe18c", checked := Tryd.checked }
namespace Rows
def none {H : Type} : Left H := { results := [], args := [] }

/- WHAT THE LISTED PACKAGE-LEVEL VARIABLES READ AS WHEN THE CALL BEGINS. Each datum BY PROGRAM (the guide's laid-datum.mjs) off the statement by which the dump's own 'gosem.cut.vars' lays the variable. In a bare row this is a premise. The card (YtdhmcfhpadabaaaDoorCards.lean) ties it to the program's text. -/
def laid_subeditor_sign_operators {H : Type} : DataW H := .agg [.lit (.string [63, 47, 47]), .lit (.string [47, 47, 61]), .lit (.string [33, 61]), .lit (.string [61, 61]), .lit (.string [60, 61]), .lit (.string [62, 61]), .lit (.string [124, 61]), .lit (.string [43, 61]), .lit (.string [45, 61]), .lit (.string [42, 61]), .lit (.string [47, 61]), .lit (.string [37, 61]), .lit (.string [47, 47]), .lit (.string [46, 46]), .lit (.string [46]), .lit (.string [91]), .lit (.string [93]), .lit (.string [40]), .lit (.string [41]), .lit (.string [123]), .lit (.string [125]), .lit (.string [44]), .lit (.string [58]), .lit (.string [59]), .lit (.string [61]), .lit (.string [124]), .lit (.string [43]), .lit (.string [45]), .lit (.string [42]), .lit (.string [47]), .lit (.string [37]), .lit (.string [60]), .lit (.string [62]), .lit (.string [63])]

/-- 'subeditorlaw03.SignAsks': WHATEVER THE INPUT: true; the input reads as it did. -/
def signAsksSpec : ChangeSpec := { name := "signAsks", fn := fun _ => fun
  | [d1, d2, d3] => { results := [.lit (.bool true)], args := [d1, d2, d3] }
  | _ => none }
def signAsksRow : OpenClaim := { program := "ytdhmcfhpadabaaadoor", sum := "9f2cb88dbd4f91a2b6ae01a34db20add7f5f01d9cd6bebbddfc3f67f0bdfe18c", func := "subeditor/subeditorlaw03.SignAsks", spec := "signAsks", inPlace := ["internal/bytealg.IndexByteString"], unfollowed := true, recurses := true, named := ["subeditor/sign.operators"], apart := false, laid := [("subeditor/sign.operators", laid_subeditor_sign_operators)] }
def SignAsksSaid : Prop := signAsksRow.holds Tryd.pinned (OpenSpec.ofChange signAsksSpec)

/-- ITS FALSE NEIGHBOUR: 'it returns false'. Refute it at one input. -/
def signAsksWrong : ChangeSpec := { name := "signAsks", fn := fun _ => fun
  | [d1, d2, d3] => { results := [.lit (.bool false)], args := [d1, d2, d3] }
  | _ => none }
def SignAsksWrongFalsely : Prop := signAsksRow.holds Tryd.pinned (OpenSpec.ofChange signAsksWrong)

/-- 'subeditorlaw03.SignWhole': WHATEVER THE INPUT: true; the input reads as it did. -/
def signWholeSpec : ChangeSpec := { name := "signWhole", fn := fun _ => fun
  | [d] => { results := [.lit (.bool true)], args := [d] }
  | _ => none }
def signWholeRow : OpenClaim := { program := "ytdhmcfhpadabaaadoor", sum := "9f2cb88dbd4f91a2b6ae01a34db20add7f5f01d9cd6bebbddfc3f67f0bdfe18c", func := "subeditor/subeditorlaw03.SignWhole", spec := "signWhole", inPlace := ["internal/bytealg.IndexByteString"], unfollowed := true, recurses := true, named := ["subeditor/sign.operators"], apart := false, laid := [("subeditor/sign.operators", laid_subeditor_sign_operators)] }
def SignWholeSaid : Prop := signWholeRow.holds Tryd.pinned (OpenSpec.ofChange signWholeSpec)

/-- ITS FALSE NEIGHBOUR: 'it returns false'. Refute it at one input. -/
def signWholeWrong : ChangeSpec := { name := "signWhole", fn := fun _ => fun
  | [d] => { results := [.lit (.bool false)], args := [d] }
  | _ => none }
def SignWholeWrongFalsely : Prop := signWholeRow.holds Tryd.pinned (OpenSpec.ofChange signWholeWrong)

/-- 'subeditorlaw03.SignKeys': WHATEVER THE INPUT: true; the input reads as it did. -/
def signKeysSpec : ChangeSpec := { name := "signKeys", fn := fun _ => fun
  | [d1, d2] => { results := [.lit (.bool true)], args := [d1, d2] }
  | _ => none }
def signKeysRow : OpenClaim := { program := "ytdhmcfhpadabaaadoor", sum := "9f2cb88dbd4f91a2b6ae01a34db20add7f5f01d9cd6bebbddfc3f67f0bdfe18c", func := "subeditor/subeditorlaw03.SignKeys", spec := "signKeys", inPlace := ["internal/bytealg.IndexByteString"], unfollowed := true, recurses := true, named := ["subeditor/sign.operators"], apart := false, laid := [("subeditor/sign.operators", laid_subeditor_sign_operators)] }
def SignKeysSaid : Prop := signKeysRow.holds Tryd.pinned (OpenSpec.ofChange signKeysSpec)

/-- ITS FALSE NEIGHBOUR: 'it returns false'. Refute it at one input. -/
def signKeysWrong : ChangeSpec := { name := "signKeys", fn := fun _ => fun
  | [d1, d2] => { results := [.lit (.bool false)], args := [d1, d2] }
  | _ => none }
def SignKeysWrongFalsely : Prop := signKeysRow.holds Tryd.pinned (OpenSpec.ofChange signKeysWrong)

/-- 'subeditorlaw03.SignEscapes': WHATEVER THE INPUT: true; the input reads as it did. -/
def signEscapesSpec : ChangeSpec := { name := "signEscapes", fn := fun _ => fun
  | [d1, d2, d3, d4] => { results := [.lit (.bool true)], args := [d1, d2, d3, d4] }
  | _ => none }
def signEscapesRow : OpenClaim := { program := "ytdhmcfhpadabaaadoor", sum := "9f2cb88dbd4f91a2b6ae01a34db20add7f5f01d9cd6bebbddfc3f67f0bdfe18c", func := "subeditor/subeditorlaw03.SignEscapes", spec := "signEscapes", inPlace := ["internal/bytealg.IndexByteString"], unfollowed := true, recurses := true, named := ["subeditor/sign.operators"], apart := false, laid := [("subeditor/sign.operators", laid_subeditor_sign_operators)] }
def SignEscapesSaid : Prop := signEscapesRow.holds Tryd.pinned (OpenSpec.ofChange signEscapesSpec)

/-- ITS FALSE NEIGHBOUR: 'it returns false'. Refute it at one input. -/
def signEscapesWrong : ChangeSpec := { name := "signEscapes", fn := fun _ => fun
  | [d1, d2, d3, d4] => { results := [.lit (.bool false)], args := [d1, d2, d3, d4] }
  | _ => none }
def SignEscapesWrongFalsely : Prop := signEscapesRow.holds Tryd.pinned (OpenSpec.ofChange signEscapesWrong)

/-- 'subeditorlaw03.SignBytes': WHATEVER THE INPUT: true; the input reads as it did. -/
def signBytesSpec : ChangeSpec := { name := "signBytes", fn := fun _ => fun
  | [d1, d2] => { results := [.lit (.bool true)], args := [d1, d2] }
  | _ => none }
def signBytesRow : OpenClaim := { program := "ytdhmcfhpadabaaadoor", sum := "9f2cb88dbd4f91a2b6ae01a34db20add7f5f01d9cd6bebbddfc3f67f0bdfe18c", func := "subeditor/subeditorlaw03.SignBytes", spec := "signBytes", inPlace := ["internal/bytealg.IndexByteString"], unfollowed := true, recurses := true, named := ["subeditor/sign.operators"], apart := false, laid := [("subeditor/sign.operators", laid_subeditor_sign_operators)] }
def SignBytesSaid : Prop := signBytesRow.holds Tryd.pinned (OpenSpec.ofChange signBytesSpec)

/-- ITS FALSE NEIGHBOUR: 'it returns false'. Refute it at one input. -/
def signBytesWrong : ChangeSpec := { name := "signBytes", fn := fun _ => fun
  | [d1, d2] => { results := [.lit (.bool false)], args := [d1, d2] }
  | _ => none }
def SignBytesWrongFalsely : Prop := signBytesRow.holds Tryd.pinned (OpenSpec.ofChange signBytesWrong)

/-- 'subeditorlaw03.SignOpers': WHATEVER THE INPUT: true; the input reads as it did. -/
def signOpersSpec : ChangeSpec := { name := "signOpers", fn := fun _ => fun
  | [d] => { results := [.lit (.bool true)], args := [d] }
  | _ => none }
def signOpersRow : OpenClaim := { program := "ytdhmcfhpadabaaadoor", sum := "9f2cb88dbd4f91a2b6ae01a34db20add7f5f01d9cd6bebbddfc3f67f0bdfe18c", func := "subeditor/subeditorlaw03.SignOpers", spec := "signOpers", inPlace := ["internal/bytealg.IndexByteString"], unfollowed := true, recurses := true, named := ["subeditor/sign.operators"], apart := false, laid := [("subeditor/sign.operators", laid_subeditor_sign_operators)] }
def SignOpersSaid : Prop := signOpersRow.holds Tryd.pinned (OpenSpec.ofChange signOpersSpec)

/-- ITS FALSE NEIGHBOUR: 'it returns false'. Refute it at one input. -/
def signOpersWrong : ChangeSpec := { name := "signOpers", fn := fun _ => fun
  | [d] => { results := [.lit (.bool false)], args := [d] }
  | _ => none }
def SignOpersWrongFalsely : Prop := signOpersRow.holds Tryd.pinned (OpenSpec.ofChange signOpersWrong)

/-- 'subeditorlaw03.SignNumbers': WHATEVER THE INPUT: true; the input reads as it did. -/
def signNumbersSpec : ChangeSpec := { name := "signNumbers", fn := fun _ => fun
  | [d1, d2, d3, d4, d5, d6] => { results := [.lit (.bool true)], args := [d1, d2, d3, d4, d5, d6] }
  | _ => none }
def signNumbersRow : OpenClaim := { program := "ytdhmcfhpadabaaadoor", sum := "9f2cb88dbd4f91a2b6ae01a34db20add7f5f01d9cd6bebbddfc3f67f0bdfe18c", func := "subeditor/subeditorlaw03.SignNumbers", spec := "signNumbers", inPlace := ["internal/bytealg.IndexByteString"], unfollowed := true, recurses := true, named := ["subeditor/sign.operators"], apart := false, laid := [("subeditor/sign.operators", laid_subeditor_sign_operators)] }
def SignNumbersSaid : Prop := signNumbersRow.holds Tryd.pinned (OpenSpec.ofChange signNumbersSpec)

/-- ITS FALSE NEIGHBOUR: 'it returns false'. Refute it at one input. -/
def signNumbersWrong : ChangeSpec := { name := "signNumbers", fn := fun _ => fun
  | [d1, d2, d3, d4, d5, d6] => { results := [.lit (.bool false)], args := [d1, d2, d3, d4, d5, d6] }
  | _ => none }
def SignNumbersWrongFalsely : Prop := signNumbersRow.holds Tryd.pinned (OpenSpec.ofChange signNumbersWrong)

/- THE SECOND FORM. 'bulk': how many values and letters a reading holds, each counted each time it is reached (what is shared counts as often as it is met; a slice's spare places count too). A statement '..UptoSaid' is the law's where the arguments, and the package variables that the reading takes, are together of bulk at most 1048576: NARROWER than '..Said'. Prove '..Said' where nothing that the law and all that it calls make is longer than what came in: it says more and counts as full. Else prove '..UptoSaid'. A law counts once. -/
mutual
def uptoBulk {H : Type} : DataW H → Nat
  | .lit (.string bytes) => bytes.length + 1
  | .lit _ => 1
  | .nil => 1
  | .ptr d => uptoBulk d + 1
  | .slice elems spare => uptoBulkAll elems + uptoBulkAll spare + 1
  | .agg parts => uptoBulkAll parts + 1
  | .iface _ d => uptoBulk d + 1
  | .map entries => uptoBulkEntries entries + 1
  | .held _ => 1
def uptoBulkAll {H : Type} : List (DataW H) → Nat
  | [] => 0
  | d :: r => uptoBulk d + uptoBulkAll r
def uptoBulkEntries {H : Type} : List (Lit × DataW H) → Nat
  | [] => 0
  | x :: r => uptoBulkEntry x + uptoBulkEntries r
def uptoBulkEntry {H : Type} : Lit × DataW H → Nat
  | (.string bytes, d) => bytes.length + uptoBulk d + 1
  | (_, d) => uptoBulk d + 1
 end
def uptoSmall : (H : Type) → List (DataW H) → Bool := fun _ ds => decide (uptoBulkAll ds ≤ 1048576)
def OpenSpec.upto (s : _root_.Go.ChangeSpec) : _root_.Go.OpenSpec := { _root_.Go.OpenSpec.ofChange s with cond := some uptoSmall }

/-- 'subeditorlaw03.SignAsks', WHERE WHAT IT READS IS OF BULK AT MOST 1048576: true; the input reads as it did. -/
def signAsksUptoRow : OpenClaim := { program := "ytdhmcfhpadabaaadoor", sum := "9f2cb88dbd4f91a2b6ae01a34db20add7f5f01d9cd6bebbddfc3f67f0bdfe18c", func := "subeditor/subeditorlaw03.SignAsks", spec := "signAsks", inPlace := ["internal/bytealg.IndexByteString"], unfollowed := true, recurses := true, named := ["subeditor/sign.operators"], apart := false, laid := [("subeditor/sign.operators", laid_subeditor_sign_operators)], narrowed := true }
def SignAsksUptoSaid : Prop := signAsksUptoRow.holds Tryd.pinned (OpenSpec.upto signAsksSpec)

/-- 'subeditorlaw03.SignWhole', WHERE WHAT IT READS IS OF BULK AT MOST 1048576: true; the input reads as it did. -/
def signWholeUptoRow : OpenClaim := { program := "ytdhmcfhpadabaaadoor", sum := "9f2cb88dbd4f91a2b6ae01a34db20add7f5f01d9cd6bebbddfc3f67f0bdfe18c", func := "subeditor/subeditorlaw03.SignWhole", spec := "signWhole", inPlace := ["internal/bytealg.IndexByteString"], unfollowed := true, recurses := true, named := ["subeditor/sign.operators"], apart := false, laid := [("subeditor/sign.operators", laid_subeditor_sign_operators)], narrowed := true }
def SignWholeUptoSaid : Prop := signWholeUptoRow.holds Tryd.pinned (OpenSpec.upto signWholeSpec)

/-- 'subeditorlaw03.SignKeys', WHERE WHAT IT READS IS OF BULK AT MOST 1048576: true; the input reads as it did. -/
def signKeysUptoRow : OpenClaim := { program := "ytdhmcfhpadabaaadoor", sum := "9f2cb88dbd4f91a2b6ae01a34db20add7f5f01d9cd6bebbddfc3f67f0bdfe18c", func := "subeditor/subeditorlaw03.SignKeys", spec := "signKeys", inPlace := ["internal/bytealg.IndexByteString"], unfollowed := true, recurses := true, named := ["subeditor/sign.operators"], apart := false, laid := [("subeditor/sign.operators", laid_subeditor_sign_operators)], narrowed := true }
def SignKeysUptoSaid : Prop := signKeysUptoRow.holds Tryd.pinned (OpenSpec.upto signKeysSpec)

/-- 'subeditorlaw03.SignEscapes', WHERE WHAT IT READS IS OF BULK AT MOST 1048576: true; the input reads as it did. -/
def signEscapesUptoRow : OpenClaim := { program := "ytdhmcfhpadabaaadoor", sum := "9f2cb88dbd4f91a2b6ae01a34db20add7f5f01d9cd6bebbddfc3f67f0bdfe18c", func := "subeditor/subeditorlaw03.SignEscapes", spec := "signEscapes", inPlace := ["internal/bytealg.IndexByteString"], unfollowed := true, recurses := true, named := ["subeditor/sign.operators"], apart := false, laid := [("subeditor/sign.operators", laid_subeditor_sign_operators)], narrowed := true }
def SignEscapesUptoSaid : Prop := signEscapesUptoRow.holds Tryd.pinned (OpenSpec.upto signEscapesSpec)

/-- 'subeditorlaw03.SignBytes', WHERE WHAT IT READS IS OF BULK AT MOST 1048576: true; the input reads as it did. -/
def signBytesUptoRow : OpenClaim := { program := "ytdhmcfhpadabaaadoor", sum := "9f2cb88dbd4f91a2b6ae01a34db20add7f5f01d9cd6bebbddfc3f67f0bdfe18c", func := "subeditor/subeditorlaw03.SignBytes", spec := "signBytes", inPlace := ["internal/bytealg.IndexByteString"], unfollowed := true, recurses := true, named := ["subeditor/sign.operators"], apart := false, laid := [("subeditor/sign.operators", laid_subeditor_sign_operators)], narrowed := true }
def SignBytesUptoSaid : Prop := signBytesUptoRow.holds Tryd.pinned (OpenSpec.upto signBytesSpec)

/-- 'subeditorlaw03.SignOpers', WHERE WHAT IT READS IS OF BULK AT MOST 1048576: true; the input reads as it did. -/
def signOpersUptoRow : OpenClaim := { program := "ytdhmcfhpadabaaadoor", sum := "9f2cb88dbd4f91a2b6ae01a34db20add7f5f01d9cd6bebbddfc3f67f0bdfe18c", func := "subeditor/subeditorlaw03.SignOpers", spec := "signOpers", inPlace := ["internal/bytealg.IndexByteString"], unfollowed := true, recurses := true, named := ["subeditor/sign.operators"], apart := false, laid := [("subeditor/sign.operators", laid_subeditor_sign_operators)], narrowed := true }
def SignOpersUptoSaid : Prop := signOpersUptoRow.holds Tryd.pinned (OpenSpec.upto signOpersSpec)

/-- 'subeditorlaw03.SignNumbers', WHERE WHAT IT READS IS OF BULK AT MOST 1048576: true; the input reads as it did. -/
def signNumbersUptoRow : OpenClaim := { program := "ytdhmcfhpadabaaadoor", sum := "9f2cb88dbd4f91a2b6ae01a34db20add7f5f01d9cd6bebbddfc3f67f0bdfe18c", func := "subeditor/subeditorlaw03.SignNumbers", spec := "signNumbers", inPlace := ["internal/bytealg.IndexByteString"], unfollowed := true, recurses := true, named := ["subeditor/sign.operators"], apart := false, laid := [("subeditor/sign.operators", laid_subeditor_sign_operators)], narrowed := true }
def SignNumbersUptoSaid : Prop := signNumbersUptoRow.holds Tryd.pinned (OpenSpec.upto signNumbersSpec)

end Rows
end Go.Proofs.YtdhmcfhpadabaaaDoor
