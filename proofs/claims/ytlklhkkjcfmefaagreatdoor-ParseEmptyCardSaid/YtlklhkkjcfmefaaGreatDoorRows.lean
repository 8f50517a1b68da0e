/-
  NARROWER THAN 'FOR EVERY INPUT', by the rows' own cells (each row's printed sentence says how): ParseSources: laid · ParsePrograms: laid · ParseFirst: laid · ParseDeep: laid · ParseSpaces: laid · ParseOpers: laid · ParseGreedy: laid · ParseEmpty: laid · ParseKeys: laid.
  DERIVED. THE GIVEN ROWS OF THIS SEAT. 9 by the template 'for every input the law returns true; each argument reads behind the call as it read before'; 0 by the template 'total and deterministic' (their statements: YtlklhkkjcfmefaaGreatDoorTotals.lean).
  GIVEN WITH THE SEED: the statements are not yours to turn. If you find one false, say at which input.
  Laid BY PROGRAM, IN A SANDBOX (cutbox-rows.mjs): the forced cells as the released guide's own fill.sh prints them over the translation e0e2f8aaeebbbfb5… (all of the seat's roots in one cut). By AI agents, Wed Nov 11 2026. No macro, syntax, notation, axiom, sorry.
-/
import Derived.Test.YtlklhkkjcfmefaaGreatDoorChecked
import GoSem.PinnedTables
import GoSem.Claim
import GoSem.ClaimJoined
import GoSem.ClaimMapViews
import Derived.JoinedTies
import Derived.KernelRfl
namespace Go.Proofs.YtlklhkkjcfmefaaGreatDoor
/- THE CELL 'sum', in the pinned program and in every row, IS THE sha256 OF THE DUMP (.gsa) THAT YtlklhkkjcfmefaaGreatDoorProg.lean LOADS. Nothing in Lean hashes anything: it is a label: what it is worth is what the hold of that sum in a sandbox is worth. -/
noncomputable def Tryz.pinned : Pinned := { name := "ytlklhkkjcfmefaagreatdoor", sum := "e0e2f8aaeebbbfb5a29cc75641e3aa662c9efc0d266dcbf2b5aa93bd429932d0", checked := Tryz.checked }
namespace Rows
def none {H : Type} : Left H := { results := [], args := [] }

/- WHAT THE LISTED PACKAGE-LEVEL VARIABLES READ AS WHEN THE CALL BEGINS. Each datum BY PROGRAM (the guide's laid-datum.mjs) off the statement by which the dump's own 'gosem.cut.vars' lays the variable. In a bare row this is a premise. The card (YtlklhkkjcfmefaaGreatDoorCards.lean) ties it to the program's text. -/
def laid_unicode_utf8_acceptRanges {H : Type} : DataW H := .agg [.agg [.lit (.int .u8 128), .lit (.int .u8 191)], .agg [.lit (.int .u8 160), .lit (.int .u8 191)], .agg [.lit (.int .u8 128), .lit (.int .u8 159)], .agg [.lit (.int .u8 144), .lit (.int .u8 191)], .agg [.lit (.int .u8 128), .lit (.int .u8 143)], .agg [.lit (.int .u8 0), .lit (.int .u8 0)], .agg [.lit (.int .u8 0), .lit (.int .u8 0)], .agg [.lit (.int .u8 0), .lit (.int .u8 0)], .agg [.lit (.int .u8 0), .lit (.int .u8 0)], .agg [.lit (.int .u8 0), .lit (.int .u8 0)], .agg [.lit (.int .u8 0), .lit (.int .u8 0)], .agg [.lit (.int .u8 0), .lit (.int .u8 0)], .agg [.lit (.int .u8 0), .lit (.int .u8 0)], .agg [.lit (.int .u8 0), .lit (.int .u8 0)], .agg [.lit (.int .u8 0), .lit (.int .u8 0)], .agg [.lit (.int .u8 0), .lit (.int .u8 0)]]
def laid_subeditor_prec_levels {H : Type} : DataW H := .agg [.agg [.lit (.int .i64 2), .slice [.lit (.string [124])] []], .agg [.lit (.int .i64 1), .slice [.lit (.string [44])] []], .agg [.lit (.int .i64 2), .slice [.lit (.string [47, 47])] []], .agg [.lit (.int .i64 0), .slice [.lit (.string [61]), .lit (.string [124, 61]), .lit (.string [43, 61]), .lit (.string [45, 61]), .lit (.string [42, 61]), .lit (.string [47, 61]), .lit (.string [37, 61]), .lit (.string [47, 47, 61])] []], .agg [.lit (.int .i64 1), .slice [.lit (.string [111, 114])] []], .agg [.lit (.int .i64 1), .slice [.lit (.string [97, 110, 100])] []], .agg [.lit (.int .i64 0), .slice [.lit (.string [61, 61]), .lit (.string [33, 61]), .lit (.string [60]), .lit (.string [60, 61]), .lit (.string [62]), .lit (.string [62, 61])] []], .agg [.lit (.int .i64 1), .slice [.lit (.string [43]), .lit (.string [45])] []], .agg [.lit (.int .i64 1), .slice [.lit (.string [42]), .lit (.string [47]), .lit (.string [37])] []]]
def laid_subeditor_sign_operators {H : Type} : DataW H := .agg [.lit (.string [63, 47, 47]), .lit (.string [47, 47, 61]), .lit (.string [33, 61]), .lit (.string [61, 61]), .lit (.string [60, 61]), .lit (.string [62, 61]), .lit (.string [124, 61]), .lit (.string [43, 61]), .lit (.string [45, 61]), .lit (.string [42, 61]), .lit (.string [47, 61]), .lit (.string [37, 61]), .lit (.string [47, 47]), .lit (.string [46, 46]), .lit (.string [46]), .lit (.string [91]), .lit (.string [93]), .lit (.string [40]), .lit (.string [41]), .lit (.string [123]), .lit (.string [125]), .lit (.string [44]), .lit (.string [58]), .lit (.string [59]), .lit (.string [61]), .lit (.string [124]), .lit (.string [43]), .lit (.string [45]), .lit (.string [42]), .lit (.string [47]), .lit (.string [37]), .lit (.string [60]), .lit (.string [62]), .lit (.string [63])]
/-- One of Go's own tables, pinned by name: the form's constant. -/
def laid_unicode_utf8_first : DataW Unit := Go.Pinned.utf8First

/-- 'subeditorlaw08.ParseSources': WHATEVER THE INPUT: true; the input reads as it did. -/
def parseSourcesSpec : ChangeSpec := { name := "parseSources", fn := fun _ => fun
  | [d1, d2, d3] => { results := [.lit (.bool true)], args := [d1, d2, d3] }
  | _ => none }
def parseSourcesRow : OpenClaim := { program := "ytlklhkkjcfmefaagreatdoor", sum := "e0e2f8aaeebbbfb5a29cc75641e3aa662c9efc0d266dcbf2b5aa93bd429932d0", func := "subeditor/subeditorlaw08.ParseSources", spec := "parseSources", inPlace := ["internal/bytealg.IndexByteString", "internal/bytealg.IndexString"], unfollowed := true, recurses := true, named := ["unicode/utf8.first", "unicode/utf8.acceptRanges", "internal/bytealg.MaxLen", "subeditor/sign.operators", "subeditor/prec.levels"], plainKeys := false, apart := false, laid := [("unicode/utf8.acceptRanges", laid_unicode_utf8_acceptRanges), ("subeditor/prec.levels", laid_subeditor_prec_levels), ("subeditor/sign.operators", laid_subeditor_sign_operators), ("unicode/utf8.first", laid_unicode_utf8_first)] }
def ParseSourcesSaid : Prop := parseSourcesRow.holds Tryz.pinned (OpenSpec.ofChange parseSourcesSpec)

/-- ITS FALSE NEIGHBOUR: 'it returns false'. Refute it at one input. -/
def parseSourcesWrong : ChangeSpec := { name := "parseSources", fn := fun _ => fun
  | [d1, d2, d3] => { results := [.lit (.bool false)], args := [d1, d2, d3] }
  | _ => none }
def ParseSourcesWrongFalsely : Prop := parseSourcesRow.holds Tryz.pinned (OpenSpec.ofChange parseSourcesWrong)

/-- 'subeditorlaw08.ParsePrograms': WHATEVER THE INPUT: true; the input reads as it did. -/
def parseProgramsSpec : ChangeSpec := { name := "parsePrograms", fn := fun _ => fun
  | [d1, d2] => { results := [.lit (.bool true)], args := [d1, d2] }
  | _ => none }
def parseProgramsRow : OpenClaim := { program := "ytlklhkkjcfmefaagreatdoor", sum := "e0e2f8aaeebbbfb5a29cc75641e3aa662c9efc0d266dcbf2b5aa93bd429932d0", func := "subeditor/subeditorlaw08.ParsePrograms", spec := "parsePrograms", inPlace := ["internal/bytealg.IndexByteString", "internal/bytealg.IndexString"], unfollowed := true, recurses := true, named := ["unicode/utf8.first", "unicode/utf8.acceptRanges", "internal/bytealg.MaxLen", "subeditor/sign.operators", "subeditor/prec.levels"], plainKeys := false, apart := false, laid := [("unicode/utf8.acceptRanges", laid_unicode_utf8_acceptRanges), ("subeditor/prec.levels", laid_subeditor_prec_levels), ("subeditor/sign.operators", laid_subeditor_sign_operators), ("unicode/utf8.first", laid_unicode_utf8_first)] }
def ParseProgramsSaid : Prop := parseProgramsRow.holds Tryz.pinned (OpenSpec.ofChange parseProgramsSpec)

/-- ITS FALSE NEIGHBOUR: 'it returns false'. Refute it at one input. -/
def parseProgramsWrong : ChangeSpec := { name := "parsePrograms", fn := fun _ => fun
  | [d1, d2] => { results := [.lit (.bool false)], args := [d1, d2] }
  | _ => none }
def ParseProgramsWrongFalsely : Prop := parseProgramsRow.holds Tryz.pinned (OpenSpec.ofChange parseProgramsWrong)

/-- 'subeditorlaw08.ParseFirst': WHATEVER THE INPUT: true; the input reads as it did. -/
def parseFirstSpec : ChangeSpec := { name := "parseFirst", fn := fun _ => fun
  | [d1, d2, d3] => { results := [.lit (.bool true)], args := [d1, d2, d3] }
  | _ => none }
def parseFirstRow : OpenClaim := { program := "ytlklhkkjcfmefaagreatdoor", sum := "e0e2f8aaeebbbfb5a29cc75641e3aa662c9efc0d266dcbf2b5aa93bd429932d0", func := "subeditor/subeditorlaw08.ParseFirst", spec := "parseFirst", inPlace := ["internal/bytealg.IndexByteString", "internal/bytealg.IndexString"], unfollowed := true, recurses := true, named := ["unicode/utf8.first", "unicode/utf8.acceptRanges", "internal/bytealg.MaxLen", "subeditor/sign.operators", "subeditor/prec.levels"], plainKeys := false, apart := false, laid := [("unicode/utf8.acceptRanges", laid_unicode_utf8_acceptRanges), ("subeditor/prec.levels", laid_subeditor_prec_levels), ("subeditor/sign.operators", laid_subeditor_sign_operators), ("unicode/utf8.first", laid_unicode_utf8_first)] }
def ParseFirstSaid : Prop := parseFirstRow.holds Tryz.pinned (OpenSpec.ofChange parseFirstSpec)

/-- ITS FALSE NEIGHBOUR: 'it returns false'. Refute it at one input. -/
def parseFirstWrong : ChangeSpec := { name := "parseFirst", fn := fun _ => fun
  | [d1, d2, d3] => { results := [.lit (.bool false)], args := [d1, d2, d3] }
  | _ => none }
def ParseFirstWrongFalsely : Prop := parseFirstRow.holds Tryz.pinned (OpenSpec.ofChange parseFirstWrong)

/-- 'subeditorlaw08.ParseDeep': WHATEVER THE INPUT: true; the input reads as it did. -/
def parseDeepSpec : ChangeSpec := { name := "parseDeep", fn := fun _ => fun
  | [d1, d2] => { results := [.lit (.bool true)], args := [d1, d2] }
  | _ => none }
def parseDeepRow : OpenClaim := { program := "ytlklhkkjcfmefaagreatdoor", sum := "e0e2f8aaeebbbfb5a29cc75641e3aa662c9efc0d266dcbf2b5aa93bd429932d0", func := "subeditor/subeditorlaw08.ParseDeep", spec := "parseDeep", inPlace := ["internal/bytealg.IndexByteString", "internal/bytealg.IndexString"], unfollowed := true, recurses := true, named := ["unicode/utf8.first", "unicode/utf8.acceptRanges", "internal/bytealg.MaxLen", "subeditor/sign.operators", "subeditor/prec.levels"], plainKeys := false, apart := false, laid := [("unicode/utf8.acceptRanges", laid_unicode_utf8_acceptRanges), ("subeditor/prec.levels", laid_subeditor_prec_levels), ("subeditor/sign.operators", laid_subeditor_sign_operators), ("unicode/utf8.first", laid_unicode_utf8_first)] }
def ParseDeepSaid : Prop := parseDeepRow.holds Tryz.pinned (OpenSpec.ofChange parseDeepSpec)

/-- ITS FALSE NEIGHBOUR: 'it returns false'. Refute it at one input. -/
def parseDeepWrong : ChangeSpec := { name := "parseDeep", fn := fun _ => fun
  | [d1, d2] => { results := [.lit (.bool false)], args := [d1, d2] }
  | _ => none }
def ParseDeepWrongFalsely : Prop := parseDeepRow.holds Tryz.pinned (OpenSpec.ofChange parseDeepWrong)

/-- 'subeditorlaw08.ParseSpaces': WHATEVER THE INPUT: true; the input reads as it did. -/
def parseSpacesSpec : ChangeSpec := { name := "parseSpaces", fn := fun _ => fun
  | [d1, d2] => { results := [.lit (.bool true)], args := [d1, d2] }
  | _ => none }
def parseSpacesRow : OpenClaim := { program := "ytlklhkkjcfmefaagreatdoor", sum := "e0e2f8aaeebbbfb5a29cc75641e3aa662c9efc0d266dcbf2b5aa93bd429932d0", func := "subeditor/subeditorlaw08.ParseSpaces", spec := "parseSpaces", inPlace := ["internal/bytealg.IndexByteString", "internal/bytealg.IndexString"], unfollowed := true, recurses := true, named := ["unicode/utf8.first", "unicode/utf8.acceptRanges", "internal/bytealg.MaxLen", "subeditor/sign.operators", "subeditor/prec.levels"], plainKeys := false, apart := false, laid := [("unicode/utf8.acceptRanges", laid_unicode_utf8_acceptRanges), ("subeditor/prec.levels", laid_subeditor_prec_levels), ("subeditor/sign.operators", laid_subeditor_sign_operators), ("unicode/utf8.first", laid_unicode_utf8_first)] }
def ParseSpacesSaid : Prop := parseSpacesRow.holds Tryz.pinned (OpenSpec.ofChange parseSpacesSpec)

/-- ITS FALSE NEIGHBOUR: 'it returns false'. Refute it at one input. -/
def parseSpacesWrong : ChangeSpec := { name := "parseSpaces", fn := fun _ => fun
  | [d1, d2] => { results := [.lit (.bool false)], args := [d1, d2] }
  | _ => none }
def ParseSpacesWrongFalsely : Prop := parseSpacesRow.holds Tryz.pinned (OpenSpec.ofChange parseSpacesWrong)

/-- 'subeditorlaw08.ParseOpers': WHATEVER THE INPUT: true; the input reads as it did. -/
def parseOpersSpec : ChangeSpec := { name := "parseOpers", fn := fun _ => fun
  | [d1, d2] => { results := [.lit (.bool true)], args := [d1, d2] }
  | _ => none }
def parseOpersRow : OpenClaim := { program := "ytlklhkkjcfmefaagreatdoor", sum := "e0e2f8aaeebbbfb5a29cc75641e3aa662c9efc0d266dcbf2b5aa93bd429932d0", func := "subeditor/subeditorlaw08.ParseOpers", spec := "parseOpers", inPlace := ["internal/bytealg.IndexByteString", "internal/bytealg.IndexString"], unfollowed := true, recurses := true, named := ["unicode/utf8.first", "unicode/utf8.acceptRanges", "internal/bytealg.MaxLen", "subeditor/sign.operators", "subeditor/prec.levels"], plainKeys := false, apart := false, laid := [("unicode/utf8.acceptRanges", laid_unicode_utf8_acceptRanges), ("subeditor/prec.levels", laid_subeditor_prec_levels), ("subeditor/sign.operators", laid_subeditor_sign_operators), ("unicode/utf8.first", laid_unicode_utf8_first)] }
def ParseOpersSaid : Prop := parseOpersRow.holds Tryz.pinned (OpenSpec.ofChange parseOpersSpec)

/-- ITS FALSE NEIGHBOUR: 'it returns false'. Refute it at one input. -/
def parseOpersWrong : ChangeSpec := { name := "parseOpers", fn := fun _ => fun
  | [d1, d2] => { results := [.lit (.bool false)], args := [d1, d2] }
  | _ => none }
def ParseOpersWrongFalsely : Prop := parseOpersRow.holds Tryz.pinned (OpenSpec.ofChange parseOpersWrong)

/-- 'subeditorlaw08.ParseGreedy': WHATEVER THE INPUT: true; the input reads as it did. -/
def parseGreedySpec : ChangeSpec := { name := "parseGreedy", fn := fun _ => fun
  | [d1, d2] => { results := [.lit (.bool true)], args := [d1, d2] }
  | _ => none }
def parseGreedyRow : OpenClaim := { program := "ytlklhkkjcfmefaagreatdoor", sum := "e0e2f8aaeebbbfb5a29cc75641e3aa662c9efc0d266dcbf2b5aa93bd429932d0", func := "subeditor/subeditorlaw08.ParseGreedy", spec := "parseGreedy", inPlace := ["internal/bytealg.IndexByteString", "internal/bytealg.IndexString"], unfollowed := true, recurses := true, named := ["unicode/utf8.first", "unicode/utf8.acceptRanges", "internal/bytealg.MaxLen", "subeditor/sign.operators", "subeditor/prec.levels"], plainKeys := false, apart := false, laid := [("unicode/utf8.acceptRanges", laid_unicode_utf8_acceptRanges), ("subeditor/prec.levels", laid_subeditor_prec_levels), ("subeditor/sign.operators", laid_subeditor_sign_operators), ("unicode/utf8.first", laid_unicode_utf8_first)] }
def ParseGreedySaid : Prop := parseGreedyRow.holds Tryz.pinned (OpenSpec.ofChange parseGreedySpec)

/-- ITS FALSE NEIGHBOUR: 'it returns false'. Refute it at one input. -/
def parseGreedyWrong : ChangeSpec := { name := "parseGreedy", fn := fun _ => fun
  | [d1, d2] => { results := [.lit (.bool false)], args := [d1, d2] }
  | _ => none }
def ParseGreedyWrongFalsely : Prop := parseGreedyRow.holds Tryz.pinned (OpenSpec.ofChange parseGreedyWrong)

/-- 'subeditorlaw08.ParseEmpty': WHATEVER THE INPUT: true; the input reads as it did. -/
def parseEmptySpec : ChangeSpec := { name := "parseEmpty", fn := fun _ => fun
  | [d] => { results := [.lit (.bool true)], args := [d] }
  | _ => none }
def parseEmptyRow : OpenClaim := { program := "ytlklhkkjcfmefaagreatdoor", sum := "e0e2f8aaeebbbfb5a29cc75641e3aa662c9efc0d266dcbf2b5aa93bd429932d0", func := "subeditor/subeditorlaw08.ParseEmpty", spec := "parseEmpty", inPlace := ["internal/bytealg.IndexByteString", "internal/bytealg.IndexString"], unfollowed := true, recurses := true, named := ["unicode/utf8.first", "unicode/utf8.acceptRanges", "internal/bytealg.MaxLen", "subeditor/sign.operators", "subeditor/prec.levels"], plainKeys := false, apart := false, laid := [("unicode/utf8.acceptRanges", laid_unicode_utf8_acceptRanges), ("subeditor/prec.levels", laid_subeditor_prec_levels), ("subeditor/sign.operators", laid_subeditor_sign_operators), ("unicode/utf8.first", laid_unicode_utf8_first)] }
def ParseEmptySaid : Prop := parseEmptyRow.holds Tryz.pinned (OpenSpec.ofChange parseEmptySpec)

/-- ITS FALSE NEIGHBOUR: 'it returns false'. Refute it at one input. -/
def parseEmptyWrong : ChangeSpec := { name := "parseEmpty", fn := fun _ => fun
  | [d] => { results := [.lit (.bool false)], args := [d] }
  | _ => none }
def ParseEmptyWrongFalsely : Prop := parseEmptyRow.holds Tryz.pinned (OpenSpec.ofChange parseEmptyWrong)

/-- 'subeditorlaw08.ParseKeys': WHATEVER THE INPUT: true; the input reads as it did. -/
def parseKeysSpec : ChangeSpec := { name := "parseKeys", fn := fun _ => fun
  | [d] => { results := [.lit (.bool true)], args := [d] }
  | _ => none }
def parseKeysRow : OpenClaim := { program := "ytlklhkkjcfmefaagreatdoor", sum := "e0e2f8aaeebbbfb5a29cc75641e3aa662c9efc0d266dcbf2b5aa93bd429932d0", func := "subeditor/subeditorlaw08.ParseKeys", spec := "parseKeys", inPlace := ["internal/bytealg.IndexByteString", "internal/bytealg.IndexString"], unfollowed := true, recurses := true, named := ["unicode/utf8.first", "unicode/utf8.acceptRanges", "internal/bytealg.MaxLen", "subeditor/sign.operators", "subeditor/prec.levels"], plainKeys := false, apart := false, laid := [("unicode/utf8.acceptRanges", laid_unicode_utf8_acceptRanges), ("subeditor/prec.levels", laid_subeditor_prec_levels), ("subeditor/sign.operators", laid_subeditor_sign_operators), ("unicode/utf8.first", laid_unicode_utf8_first)] }
def ParseKeysSaid : Prop := parseKeysRow.holds Tryz.pinned (OpenSpec.ofChange parseKeysSpec)

/-- ITS FALSE NEIGHBOUR: 'it returns false'. Refute it at one input. -/
def parseKeysWrong : ChangeSpec := { name := "parseKeys", fn := fun _ => fun
  | [d] => { results := [.lit (.bool false)], args := [d] }
  | _ => none }
def ParseKeysWrongFalsely : Prop := parseKeysRow.holds Tryz.pinned (OpenSpec.ofChange parseKeysWrong)

/- THE SECOND FORM. 'bulk': how many values and letters a reading holds, each counted each time it is reached (what is shared counts as often as it is met; a slice's spare places count too). A statement '..UptoSaid' is the law's where the arguments, and the package variables that the reading takes, are together of bulk at most 1048576: NARROWER than '..Said'. Prove '..Said' where nothing that the law and all that it calls make is longer than what came in: it says more and counts as full. Else prove '..UptoSaid'. A law counts once. -/
mutual
def uptoBulk {H : Type} : DataW H → Nat
  | .lit (.string bytes) => bytes.length + 1
  | .lit _ => 1
  | .nil => 1
  | .ptr d => uptoBulk d + 1
  | .slice elems spare => uptoBulkAll elems + uptoBulkAll spare + 1
  | .agg parts => uptoBulkAll parts + 1
  | .iface _ d => uptoBulk d + 1
  | .map entries => uptoBulkEntries entries + 1
  | .held _ => 1
def uptoBulkAll {H : Type} : List (DataW H) → Nat
  | [] => 0
  | d :: r => uptoBulk d + uptoBulkAll r
def uptoBulkEntries {H : Type} : List (Lit × DataW H) → Nat
  | [] => 0
  | x :: r => uptoBulkEntry x + uptoBulkEntries r
def uptoBulkEntry {H : Type} : Lit × DataW H → Nat
  | (.string bytes, d) => bytes.length + uptoBulk d + 1
  | (_, d) => uptoBulk d + 1
 end
def uptoSmall : (H : Type) → List (DataW H) → Bool := fun _ ds => decide (uptoBulkAll ds ≤ 1048576)
def OpenSpec.upto (s : _root_.Go.ChangeSpec) : _root_.Go.OpenSpec := { _root_.Go.OpenSpec.ofChange s with cond := some uptoSmall }

/-- 'subeditorlaw08.ParseSources', WHERE WHAT IT READS IS OF BULK AT MOST 1048576: true; the input reads as it did. -/
def parseSourcesUptoRow : OpenClaim := { program := "ytlklhkkjcfmefaagreatdoor", sum := "e0e2f8aaeebbbfb5a29cc75641e3aa662c9efc0d266dcbf2b5aa93bd429932d0", func := "subeditor/subeditorlaw08.ParseSources", spec := "parseSources", inPlace := ["internal/bytealg.IndexByteString", "internal/bytealg.IndexString"], unfollowed := true, recurses := true, named := ["unicode/utf8.first", "unicode/utf8.acceptRanges", "internal/bytealg.MaxLen", "subeditor/sign.operators", "subeditor/prec.levels"], plainKeys := false, apart := false, laid := [("unicode/utf8.acceptRanges", laid_unicode_utf8_acceptRanges), ("subeditor/prec.levels", laid_subeditor_prec_levels), ("subeditor/sign.operators", laid_subeditor_sign_operators), ("unicode/utf8.first", laid_unicode_utf8_first)], narrowed := true }
def ParseSourcesUptoSaid : Prop := parseSourcesUptoRow.holds Tryz.pinned (OpenSpec.upto parseSourcesSpec)

/-- 'subeditorlaw08.ParsePrograms', WHERE WHAT IT READS IS OF BULK AT MOST 1048576: true; the input reads as it did. -/
def parseProgramsUptoRow : OpenClaim := { program := "ytlklhkkjcfmefaagreatdoor", sum := "e0e2f8aaeebbbfb5a29cc75641e3aa662c9efc0d266dcbf2b5aa93bd429932d0", func := "subeditor/subeditorlaw08.ParsePrograms", spec := "parsePrograms", inPlace := ["internal/bytealg.IndexByteString", "internal/bytealg.IndexString"], unfollowed := true, recurses := true, named := ["unicode/utf8.first", "unicode/utf8.acceptRanges", "internal/bytealg.MaxLen", "subeditor/sign.operators", "subeditor/prec.levels"], plainKeys := false, apart := false, laid := [("unicode/utf8.acceptRanges", laid_unicode_utf8_acceptRanges), ("subeditor/prec.levels", laid_subeditor_prec_levels), ("subeditor/sign.operators", laid_subeditor_sign_operators), ("unicode/utf8.first", laid_unicode_utf8_first)], narrowed := true }
def ParseProgramsUptoSaid : Prop := parseProgramsUptoRow.holds Tryz.pinned (OpenSpec.upto parseProgramsSpec)

/-- 'subeditorlaw08.ParseFirst', WHERE WHAT IT READS IS OF BULK AT MOST 1048576: true; the input reads as it did. -/
def parseFirstUptoRow : OpenClaim := { program := "ytlklhkkjcfmefaagreatdoor", sum := "e0e2f8aaeebbbfb5a29cc75641e3aa662c9efc0d266dcbf2b5aa93bd429932d0", func := "subeditor/subeditorlaw08.ParseFirst", spec := "parseFirst", inPlace := ["internal/bytealg.IndexByteString", "internal/bytealg.IndexString"], unfollowed := true, recurses := true, named := ["unicode/utf8.first", "unicode/utf8.acceptRanges", "internal/bytealg.MaxLen", "subeditor/sign.operators", "subeditor/prec.levels"], plainKeys := false, apart := false, laid := [("unicode/utf8.acceptRanges", laid_unicode_utf8_acceptRanges), ("subeditor/prec.levels", laid_subeditor_prec_levels), ("subeditor/sign.operators", laid_subeditor_sign_operators), ("unicode/utf8.first", laid_unicode_utf8_first)], narrowed := true }
def ParseFirstUptoSaid : Prop := parseFirstUptoRow.holds Tryz.pinned (OpenSpec.upto parseFirstSpec)

/-- 'subeditorlaw08.ParseDeep', WHERE WHAT IT READS IS OF BULK AT MOST 1048576: true; the input reads as it did. -/
def parseDeepUptoRow : OpenClaim := { program := "ytlklhkkjcfmefaagreatdoor", sum := "e0e2f8aaeebbbfb5a29cc75641e3aa662c9efc0d266dcbf2b5aa93bd429932d0", func := "subeditor/subeditorlaw08.ParseDeep", spec := "parseDeep", inPlace := ["internal/bytealg.IndexByteString", "internal/bytealg.IndexString"], unfollowed := true, recurses := true, named := ["unicode/utf8.first", "unicode/utf8.acceptRanges", "internal/bytealg.MaxLen", "subeditor/sign.operators", "subeditor/prec.levels"], plainKeys := false, apart := false, laid := [("unicode/utf8.acceptRanges", laid_unicode_utf8_acceptRanges), ("subeditor/prec.levels", laid_subeditor_prec_levels), ("subeditor/sign.operators", laid_subeditor_sign_operators), ("unicode/utf8.first", laid_unicode_utf8_first)], narrowed := true }
def ParseDeepUptoSaid : Prop := parseDeepUptoRow.holds Tryz.pinned (OpenSpec.upto parseDeepSpec)

/-- 'subeditorlaw08.ParseSpaces', WHERE WHAT IT READS IS OF BULK AT MOST 1048576: true; the input reads as it did. -/
def parseSpacesUptoRow : OpenClaim := { program := "ytlklhkkjcfmefaagreatdoor", sum := "e0e2f8aaeebbbfb5a29cc75641e3aa662c9efc0d266dcbf2b5aa93bd429932d0", func := "subeditor/subeditorlaw08.ParseSpaces", spec := "parseSpaces", inPlace := ["internal/bytealg.IndexByteString", "internal/bytealg.IndexString"], unfollowed := true, recurses := true, named := ["unicode/utf8.first", "unicode/utf8.acceptRanges", "internal/bytealg.MaxLen", "subeditor/sign.operators", "subeditor/prec.levels"], plainKeys := false, apart := false, laid := [("unicode/utf8.acceptRanges", laid_unicode_utf8_acceptRanges), ("subeditor/prec.levels", laid_subeditor_prec_levels), ("subeditor/sign.operators", laid_subeditor_sign_operators), ("unicode/utf8.first", laid_unicode_utf8_first)], narrowed := true }
def ParseSpacesUptoSaid : Prop := parseSpacesUptoRow.holds Tryz.pinned (OpenSpec.upto parseSpacesSpec)

/-- 'subeditorlaw08.ParseOpers', WHERE WHAT IT READS IS OF BULK AT MOST 1048576: true; the input reads as it did. -/
def parseOpersUptoRow : OpenClaim := { program := "ytlklhkkjcfmefaagreatdoor", sum := "e0e2f8aaeebbbfb5a29cc75641e3aa662c9efc0d266dcbf2b5aa93bd429932d0", func := "subeditor/subeditorlaw08.ParseOpers", spec := "parseOpers", inPlace := ["internal/bytealg.IndexByteString", "internal/bytealg.IndexString"], unfollowed := true, recurses := true, named := ["unicode/utf8.first", "unicode/utf8.acceptRanges", "internal/bytealg.MaxLen", "subeditor/sign.operators", "subeditor/prec.levels"], plainKeys := false, apart := false, laid := [("unicode/utf8.acceptRanges", laid_unicode_utf8_acceptRanges), ("subeditor/prec.levels", laid_subeditor_prec_levels), ("subeditor/sign.operators", laid_subeditor_sign_operators), ("unicode/utf8.first", laid_unicode_utf8_first)], narrowed := true }
def ParseOpersUptoSaid : Prop := parseOpersUptoRow.holds Tryz.pinned (OpenSpec.upto parseOpersSpec)

/-- 'subeditorlaw08.ParseGreedy', WHERE WHAT IT READS IS OF BULK AT MOST 1048576: true; the input reads as it did. -/
def parseGreedyUptoRow : OpenClaim := { program := "ytlklhkkjcfmefaagreatdoor", sum := "e0e2f8aaeebbbfb5a29cc75641e3aa662c9efc0d266dcbf2b5aa93bd429932d0", func := "subeditor/subeditorlaw08.ParseGreedy", spec := "parseGreedy", inPlace := ["internal/bytealg.IndexByteString", "internal/bytealg.IndexString"], unfollowed := true, recurses := true, named := ["unicode/utf8.first", "unicode/utf8.acceptRanges", "internal/bytealg.MaxLen", "subeditor/sign.operators", "subeditor/prec.levels"], plainKeys := false, apart := false, laid := [("unicode/utf8.acceptRanges", laid_unicode_utf8_acceptRanges), ("subeditor/prec.levels", laid_subeditor_prec_levels), ("subeditor/sign.operators", laid_subeditor_sign_operators), ("unicode/utf8.first", laid_unicode_utf8_first)], narrowed := true }
def ParseGreedyUptoSaid : Prop := parseGreedyUptoRow.holds Tryz.pinned (OpenSpec.upto parseGreedySpec)

/-- 'subeditorlaw08.ParseEmpty', WHERE WHAT IT READS IS OF BULK AT MOST 1048576: true; the input reads as it did. -/
def parseEmptyUptoRow : OpenClaim := { program := "ytlklhkkjcfmefaagreatdoor", sum := "e0e2f8aaeebbbfb5a29cc75641e3aa662c9efc0d266dcbf2b5aa93bd429932d0", func := "subeditor/subeditorlaw08.ParseEmpty", spec := "parseEmpty", inPlace := ["internal/bytealg.IndexByteString", "internal/bytealg.IndexString"], unfollowed := true, recurses := true, named := ["unicode/utf8.first", "unicode/utf8.acceptRanges", "internal/bytealg.MaxLen", "subeditor/sign.operators", "subeditor/prec.levels"], plainKeys := false, apart := false, laid := [("unicode/utf8.acceptRanges", laid_unicode_utf8_acceptRanges), ("subeditor/prec.levels", laid_subeditor_prec_levels), ("subeditor/sign.operators", laid_subeditor_sign_operators), ("unicode/utf8.first", laid_unicode_utf8_first)], narrowed := true }
def ParseEmptyUptoSaid : Prop := parseEmptyUptoRow.holds Tryz.pinned (OpenSpec.upto parseEmptySpec)

/-- 'subeditorlaw08.ParseKeys', WHERE WHAT IT READS IS OF BULK AT MOST 1048576: true; the input reads as it did. -/
def parseKeysUptoRow : OpenClaim := { program := "ytlklhkkjcfmefaagreatdoor", sum := "e0e2f8aaeebbbfb5a29cc75641e3aa662c9efc0d266dcbf2b5aa93bd429932d0", func := "subeditor/subeditorlaw08.ParseKeys", spec := "parseKeys", inPlace := ["internal/bytealg.IndexByteString", "internal/bytealg.IndexString"], unfollowed := true, recurses := true, named := ["unicode/utf8.first", "unicode/utf8.acceptRanges", "internal/bytealg.MaxLen", "subeditor/sign.operators", "subeditor/prec.levels"], plainKeys := false, apart := false, laid := [("unicode/utf8.acceptRanges", laid_unicode_utf8_acceptRanges), ("subeditor/prec.levels", laid_subeditor_prec_levels), ("subeditor/sign.operators", laid_subeditor_sign_operators), ("unicode/utf8.first", laid_unicode_utf8_first)], narrowed := true }
def ParseKeysUptoSaid : Prop := parseKeysUptoRow.holds Tryz.pinned (OpenSpec.upto parseKeysSpec)

end Rows
end Go.Proofs.YtlklhkkjcfmefaaGreatDoor
