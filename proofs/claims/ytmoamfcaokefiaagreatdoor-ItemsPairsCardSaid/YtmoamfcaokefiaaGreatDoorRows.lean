/-
  NARROWER THAN 'FOR EVERY INPUT', by the rows' own cells (each row's printed sentence says how): ItemsAsks: laid · ItemsLine: laid · ItemsNotes: laid · ItemsTight: laid · ItemsFew: laid · ItemsPairs: laid · LexTokens: laid.
  DERIVED. THE GIVEN ROWS OF THIS SEAT. 7 by the template 'for every input the law returns true; each argument reads behind the call as it read before'; 0 by the template 'total and deterministic' (their statements: YtmoamfcaokefiaaGreatDoorTotals.lean).
  GIVEN WITH THE SEED: the statements are not yours to turn. If you find one false, say at which input.
  Laid BY PROGRAM, IN A SANDBOX (cutbox-rows.mjs): the forced cells as the released guide's own fill.sh prints them over the translation de2edd67af612e23… (all of the seat's roots in one cut). By AI agents, Wed Nov 11 2026. No macro, syntax, notation, axiom, sorry.
-/
import Derived.Test.YtmoamfcaokefiaaGreatDoorChecked
import GoSem.PinnedTables
import GoSem.Claim
import GoSem.ClaimJoined
import GoSem.ClaimMapViews
import Derived.JoinedTies
import Derived.KernelRfl
namespace Go.Proofs.YtmoamfcaokefiaaGreatDoor
/- THE CELL 'sum', in the pinned program and in every row, IS THE sha256 OF THE DUMP (.gsa) THAT YtmoamfcaokefiaaGreatDoorProg.lean LOADS. Nothing in Lean hashes anything: it is a label: what it is worth is what the hold of that sum in a sandbox is worth. -/
noncomputable def Tryz.pinned : Pinned := { name := "ytmoamfcaokefiaagreatdoor", sum := "de2edd67af612e233f0bd8750e59465016b787b45752c9eda742dcc0c57ceb76", checked := Tryz.checked }
namespace Rows
def none {H : Type} : Left H := { results := [], args := [] }

/- WHAT THE LISTED PACKAGE-LEVEL VARIABLES READ AS WHEN THE CALL BEGINS. Each datum BY PROGRAM (the guide's laid-datum.mjs) off the statement by which the dump's own 'gosem.cut.vars' lays the variable. In a bare row this is a premise. The card (YtmoamfcaokefiaaGreatDoorCards.lean) ties it to the program's text. -/
def laid_unicode_utf8_acceptRanges {H : Type} : DataW H := .agg [.agg [.lit (.int .u8 128), .lit (.int .u8 191)], .agg [.lit (.int .u8 160), .lit (.int .u8 191)], .agg [.lit (.int .u8 128), .lit (.int .u8 159)], .agg [.lit (.int .u8 144), .lit (.int .u8 191)], .agg [.lit (.int .u8 128), .lit (.int .u8 143)], .agg [.lit (.int .u8 0), .lit (.int .u8 0)], .agg [.lit (.int .u8 0), .lit (.int .u8 0)], .agg [.lit (.int .u8 0), .lit (.int .u8 0)], .agg [.lit (.int .u8 0), .lit (.int .u8 0)], .agg [.lit (.int .u8 0), .lit (.int .u8 0)], .agg [.lit (.int .u8 0), .lit (.int .u8 0)], .agg [.lit (.int .u8 0), .lit (.int .u8 0)], .agg [.lit (.int .u8 0), .lit (.int .u8 0)], .agg [.lit (.int .u8 0), .lit (.int .u8 0)], .agg [.lit (.int .u8 0), .lit (.int .u8 0)], .agg [.lit (.int .u8 0), .lit (.int .u8 0)]]
def laid_subeditor_sign_operators {H : Type} : DataW H := .agg [.lit (.string [63, 47, 47]), .lit (.string [47, 47, 61]), .lit (.string [33, 61]), .lit (.string [61, 61]), .lit (.string [60, 61]), .lit (.string [62, 61]), .lit (.string [124, 61]), .lit (.string [43, 61]), .lit (.string [45, 61]), .lit (.string [42, 61]), .lit (.string [47, 61]), .lit (.string [37, 61]), .lit (.string [47, 47]), .lit (.string [46, 46]), .lit (.string [46]), .lit (.string [91]), .lit (.string [93]), .lit (.string [40]), .lit (.string [41]), .lit (.string [123]), .lit (.string [125]), .lit (.string [44]), .lit (.string [58]), .lit (.string [59]), .lit (.string [61]), .lit (.string [124]), .lit (.string [43]), .lit (.string [45]), .lit (.string [42]), .lit (.string [47]), .lit (.string [37]), .lit (.string [60]), .lit (.string [62]), .lit (.string [63])]
/-- One of Go's own tables, pinned by name: the form's constant. -/
def laid_unicode_utf8_first : DataW Unit := Go.Pinned.utf8First

/-- 'subeditorlaw05.ItemsAsks': WHATEVER THE INPUT: true; the input reads as it did. -/
def itemsAsksSpec : ChangeSpec := { name := "itemsAsks", fn := fun _ => fun
  | [d1, d2, d3, d4, d5] => { results := [.lit (.bool true)], args := [d1, d2, d3, d4, d5] }
  | _ => none }
def itemsAsksRow : OpenClaim := { program := "ytmoamfcaokefiaagreatdoor", sum := "de2edd67af612e233f0bd8750e59465016b787b45752c9eda742dcc0c57ceb76", func := "subeditor/subeditorlaw05.ItemsAsks", spec := "itemsAsks", inPlace := ["internal/abi.NoEscape", "internal/bytealg.MakeNoZero", "internal/bytealg.IndexByteString", "internal/bytealg.IndexString"], unfollowed := true, recurses := true, named := ["unicode/utf8.first", "unicode/utf8.acceptRanges", "internal/bytealg.MaxLen", "subeditor/sign.operators"], plainKeys := false, apart := false, laid := [("unicode/utf8.acceptRanges", laid_unicode_utf8_acceptRanges), ("subeditor/sign.operators", laid_subeditor_sign_operators), ("unicode/utf8.first", laid_unicode_utf8_first)] }
def ItemsAsksSaid : Prop := itemsAsksRow.holds Tryz.pinned (OpenSpec.ofChange itemsAsksSpec)

/-- ITS FALSE NEIGHBOUR: 'it returns false'. Refute it at one input. -/
def itemsAsksWrong : ChangeSpec := { name := "itemsAsks", fn := fun _ => fun
  | [d1, d2, d3, d4, d5] => { results := [.lit (.bool false)], args := [d1, d2, d3, d4, d5] }
  | _ => none }
def ItemsAsksWrongFalsely : Prop := itemsAsksRow.holds Tryz.pinned (OpenSpec.ofChange itemsAsksWrong)

/-- 'subeditorlaw05.ItemsLine': WHATEVER THE INPUT: true; the input reads as it did. -/
def itemsLineSpec : ChangeSpec := { name := "itemsLine", fn := fun _ => fun
  | [d] => { results := [.lit (.bool true)], args := [d] }
  | _ => none }
def itemsLineRow : OpenClaim := { program := "ytmoamfcaokefiaagreatdoor", sum := "de2edd67af612e233f0bd8750e59465016b787b45752c9eda742dcc0c57ceb76", func := "subeditor/subeditorlaw05.ItemsLine", spec := "itemsLine", inPlace := ["internal/abi.NoEscape", "internal/bytealg.MakeNoZero", "internal/bytealg.IndexByteString", "internal/bytealg.IndexString"], unfollowed := true, recurses := true, named := ["unicode/utf8.first", "unicode/utf8.acceptRanges", "internal/bytealg.MaxLen", "subeditor/sign.operators"], plainKeys := false, apart := false, laid := [("unicode/utf8.acceptRanges", laid_unicode_utf8_acceptRanges), ("subeditor/sign.operators", laid_subeditor_sign_operators), ("unicode/utf8.first", laid_unicode_utf8_first)] }
def ItemsLineSaid : Prop := itemsLineRow.holds Tryz.pinned (OpenSpec.ofChange itemsLineSpec)

/-- ITS FALSE NEIGHBOUR: 'it returns false'. Refute it at one input. -/
def itemsLineWrong : ChangeSpec := { name := "itemsLine", fn := fun _ => fun
  | [d] => { results := [.lit (.bool false)], args := [d] }
  | _ => none }
def ItemsLineWrongFalsely : Prop := itemsLineRow.holds Tryz.pinned (OpenSpec.ofChange itemsLineWrong)

/-- 'subeditorlaw05.ItemsNotes': WHATEVER THE INPUT: true; the input reads as it did. -/
def itemsNotesSpec : ChangeSpec := { name := "itemsNotes", fn := fun _ => fun
  | [d] => { results := [.lit (.bool true)], args := [d] }
  | _ => none }
def itemsNotesRow : OpenClaim := { program := "ytmoamfcaokefiaagreatdoor", sum := "de2edd67af612e233f0bd8750e59465016b787b45752c9eda742dcc0c57ceb76", func := "subeditor/subeditorlaw05.ItemsNotes", spec := "itemsNotes", inPlace := ["internal/abi.NoEscape", "internal/bytealg.MakeNoZero", "internal/bytealg.IndexByteString", "internal/bytealg.IndexString"], unfollowed := true, recurses := true, named := ["unicode/utf8.first", "unicode/utf8.acceptRanges", "internal/bytealg.MaxLen", "subeditor/sign.operators"], plainKeys := false, apart := false, laid := [("unicode/utf8.acceptRanges", laid_unicode_utf8_acceptRanges), ("subeditor/sign.operators", laid_subeditor_sign_operators), ("unicode/utf8.first", laid_unicode_utf8_first)] }
def ItemsNotesSaid : Prop := itemsNotesRow.holds Tryz.pinned (OpenSpec.ofChange itemsNotesSpec)

/-- ITS FALSE NEIGHBOUR: 'it returns false'. Refute it at one input. -/
def itemsNotesWrong : ChangeSpec := { name := "itemsNotes", fn := fun _ => fun
  | [d] => { results := [.lit (.bool false)], args := [d] }
  | _ => none }
def ItemsNotesWrongFalsely : Prop := itemsNotesRow.holds Tryz.pinned (OpenSpec.ofChange itemsNotesWrong)

/-- 'subeditorlaw05.ItemsTight': WHATEVER THE INPUT: true; the input reads as it did. -/
def itemsTightSpec : ChangeSpec := { name := "itemsTight", fn := fun _ => fun
  | [d1, d2] => { results := [.lit (.bool true)], args := [d1, d2] }
  | _ => none }
def itemsTightRow : OpenClaim := { program := "ytmoamfcaokefiaagreatdoor", sum := "de2edd67af612e233f0bd8750e59465016b787b45752c9eda742dcc0c57ceb76", func := "subeditor/subeditorlaw05.ItemsTight", spec := "itemsTight", inPlace := ["internal/abi.NoEscape", "internal/bytealg.MakeNoZero", "internal/bytealg.IndexByteString", "internal/bytealg.IndexString"], unfollowed := true, recurses := true, named := ["unicode/utf8.first", "unicode/utf8.acceptRanges", "internal/bytealg.MaxLen", "subeditor/sign.operators"], plainKeys := false, apart := false, laid := [("unicode/utf8.acceptRanges", laid_unicode_utf8_acceptRanges), ("subeditor/sign.operators", laid_subeditor_sign_operators), ("unicode/utf8.first", laid_unicode_utf8_first)] }
def ItemsTightSaid : Prop := itemsTightRow.holds Tryz.pinned (OpenSpec.ofChange itemsTightSpec)

/-- ITS FALSE NEIGHBOUR: 'it returns false'. Refute it at one input. -/
def itemsTightWrong : ChangeSpec := { name := "itemsTight", fn := fun _ => fun
  | [d1, d2] => { results := [.lit (.bool false)], args := [d1, d2] }
  | _ => none }
def ItemsTightWrongFalsely : Prop := itemsTightRow.holds Tryz.pinned (OpenSpec.ofChange itemsTightWrong)

/-- 'subeditorlaw05.ItemsFew': WHATEVER THE INPUT: true; the input reads as it did. -/
def itemsFewSpec : ChangeSpec := { name := "itemsFew", fn := fun _ => fun
  | [d] => { results := [.lit (.bool true)], args := [d] }
  | _ => none }
def itemsFewRow : OpenClaim := { program := "ytmoamfcaokefiaagreatdoor", sum := "de2edd67af612e233f0bd8750e59465016b787b45752c9eda742dcc0c57ceb76", func := "subeditor/subeditorlaw05.ItemsFew", spec := "itemsFew", inPlace := ["internal/abi.NoEscape", "internal/bytealg.MakeNoZero", "internal/bytealg.IndexByteString", "internal/bytealg.IndexString"], unfollowed := true, recurses := true, named := ["unicode/utf8.first", "unicode/utf8.acceptRanges", "internal/bytealg.MaxLen", "subeditor/sign.operators"], plainKeys := false, apart := false, laid := [("unicode/utf8.acceptRanges", laid_unicode_utf8_acceptRanges), ("subeditor/sign.operators", laid_subeditor_sign_operators), ("unicode/utf8.first", laid_unicode_utf8_first)] }
def ItemsFewSaid : Prop := itemsFewRow.holds Tryz.pinned (OpenSpec.ofChange itemsFewSpec)

/-- ITS FALSE NEIGHBOUR: 'it returns false'. Refute it at one input. -/
def itemsFewWrong : ChangeSpec := { name := "itemsFew", fn := fun _ => fun
  | [d] => { results := [.lit (.bool false)], args := [d] }
  | _ => none }
def ItemsFewWrongFalsely : Prop := itemsFewRow.holds Tryz.pinned (OpenSpec.ofChange itemsFewWrong)

/-- 'subeditorlaw05.ItemsPairs': WHATEVER THE INPUT: true; the input reads as it did. -/
def itemsPairsSpec : ChangeSpec := { name := "itemsPairs", fn := fun _ => fun
  | [d1, d2] => { results := [.lit (.bool true)], args := [d1, d2] }
  | _ => none }
def itemsPairsRow : OpenClaim := { program := "ytmoamfcaokefiaagreatdoor", sum := "de2edd67af612e233f0bd8750e59465016b787b45752c9eda742dcc0c57ceb76", func := "subeditor/subeditorlaw05.ItemsPairs", spec := "itemsPairs", inPlace := ["internal/abi.NoEscape", "internal/bytealg.MakeNoZero", "internal/bytealg.IndexByteString", "internal/bytealg.IndexString"], unfollowed := true, recurses := true, named := ["unicode/utf8.first", "unicode/utf8.acceptRanges", "internal/bytealg.MaxLen", "subeditor/sign.operators"], plainKeys := false, apart := false, laid := [("unicode/utf8.acceptRanges", laid_unicode_utf8_acceptRanges), ("subeditor/sign.operators", laid_subeditor_sign_operators), ("unicode/utf8.first", laid_unicode_utf8_first)] }
def ItemsPairsSaid : Prop := itemsPairsRow.holds Tryz.pinned (OpenSpec.ofChange itemsPairsSpec)

/-- ITS FALSE NEIGHBOUR: 'it returns false'. Refute it at one input. -/
def itemsPairsWrong : ChangeSpec := { name := "itemsPairs", fn := fun _ => fun
  | [d1, d2] => { results := [.lit (.bool false)], args := [d1, d2] }
  | _ => none }
def ItemsPairsWrongFalsely : Prop := itemsPairsRow.holds Tryz.pinned (OpenSpec.ofChange itemsPairsWrong)

/-- 'subeditorlaw04.LexTokens': WHATEVER THE INPUT: true; the input reads as it did. -/
def lexTokensSpec : ChangeSpec := { name := "lexTokens", fn := fun _ => fun
  | [d1, d2, d3, d4] => { results := [.lit (.bool true)], args := [d1, d2, d3, d4] }
  | _ => none }
def lexTokensRow : OpenClaim := { program := "ytmoamfcaokefiaagreatdoor", sum := "de2edd67af612e233f0bd8750e59465016b787b45752c9eda742dcc0c57ceb76", func := "subeditor/subeditorlaw04.LexTokens", spec := "lexTokens", inPlace := ["internal/bytealg.IndexByteString", "internal/bytealg.IndexString", "internal/abi.NoEscape", "internal/bytealg.MakeNoZero"], unfollowed := true, recurses := true, named := ["unicode/utf8.first", "unicode/utf8.acceptRanges", "internal/bytealg.MaxLen", "subeditor/sign.operators"], plainKeys := false, apart := false, laid := [("unicode/utf8.acceptRanges", laid_unicode_utf8_acceptRanges), ("subeditor/sign.operators", laid_subeditor_sign_operators), ("unicode/utf8.first", laid_unicode_utf8_first)] }
def LexTokensSaid : Prop := lexTokensRow.holds Tryz.pinned (OpenSpec.ofChange lexTokensSpec)

/-- ITS FALSE NEIGHBOUR: 'it returns false'. Refute it at one input. -/
def lexTokensWrong : ChangeSpec := { name := "lexTokens", fn := fun _ => fun
  | [d1, d2, d3, d4] => { results := [.lit (.bool false)], args := [d1, d2, d3, d4] }
  | _ => none }
def LexTokensWrongFalsely : Prop := lexTokensRow.holds Tryz.pinned (OpenSpec.ofChange lexTokensWrong)

/- THE SECOND FORM. 'bulk': how many values and letters a reading holds, each counted each time it is reached (what is shared counts as often as it is met; a slice's spare places count too). A statement '..UptoSaid' is the law's where the arguments, and the package variables that the reading takes, are together of bulk at most 1048576: NARROWER than '..Said'. Prove '..Said' where nothing that the law and all that it calls make is longer than what came in: it says more and counts as full. Else prove '..UptoSaid'. A law counts once. -/
mutual
def uptoBulk {H : Type} : DataW H → Nat
  | .lit (.string bytes) => bytes.length + 1
  | .lit _ => 1
  | .nil => 1
  | .ptr d => uptoBulk d + 1
  | .slice elems spare => uptoBulkAll elems + uptoBulkAll spare + 1
  | .agg parts => uptoBulkAll parts + 1
  | .iface _ d => uptoBulk d + 1
  | .map entries => uptoBulkEntries entries + 1
  | .held _ => 1
def uptoBulkAll {H : Type} : List (DataW H) → Nat
  | [] => 0
  | d :: r => uptoBulk d + uptoBulkAll r
def uptoBulkEntries {H : Type} : List (Lit × DataW H) → Nat
  | [] => 0
  | x :: r => uptoBulkEntry x + uptoBulkEntries r
def uptoBulkEntry {H : Type} : Lit × DataW H → Nat
  | (.string bytes, d) => bytes.length + uptoBulk d + 1
  | (_, d) => uptoBulk d + 1
 end
def uptoSmall : (H : Type) → List (DataW H) → Bool := fun _ ds => decide (uptoBulkAll ds ≤ 1048576)
def OpenSpec.upto (s : _root_.Go.ChangeSpec) : _root_.Go.OpenSpec := { _root_.Go.OpenSpec.ofChange s with cond := some uptoSmall }

/-- 'subeditorlaw05.ItemsAsks', WHERE WHAT IT READS IS OF BULK AT MOST 1048576: true; the input reads as it did. -/
def itemsAsksUptoRow : OpenClaim := { program := "ytmoamfcaokefiaagreatdoor", sum := "de2edd67af612e233f0bd8750e59465016b787b45752c9eda742dcc0c57ceb76", func := "subeditor/subeditorlaw05.ItemsAsks", spec := "itemsAsks", inPlace := ["internal/abi.NoEscape", "internal/bytealg.MakeNoZero", "internal/bytealg.IndexByteString", "internal/bytealg.IndexString"], unfollowed := true, recurses := true, named := ["unicode/utf8.first", "unicode/utf8.acceptRanges", "internal/bytealg.MaxLen", "subeditor/sign.operators"], plainKeys := false, apart := false, laid := [("unicode/utf8.acceptRanges", laid_unicode_utf8_acceptRanges), ("subeditor/sign.operators", laid_subeditor_sign_operators), ("unicode/utf8.first", laid_unicode_utf8_first)], narrowed := true }
def ItemsAsksUptoSaid : Prop := itemsAsksUptoRow.holds Tryz.pinned (OpenSpec.upto itemsAsksSpec)

/-- 'subeditorlaw05.ItemsLine', WHERE WHAT IT READS IS OF BULK AT MOST 1048576: true; the input reads as it did. -/
def itemsLineUptoRow : OpenClaim := { program := "ytmoamfcaokefiaagreatdoor", sum := "de2edd67af612e233f0bd8750e59465016b787b45752c9eda742dcc0c57ceb76", func := "subeditor/subeditorlaw05.ItemsLine", spec := "itemsLine", inPlace := ["internal/abi.NoEscape", "internal/bytealg.MakeNoZero", "internal/bytealg.IndexByteString", "internal/bytealg.IndexString"], unfollowed := true, recurses := true, named := ["unicode/utf8.first", "unicode/utf8.acceptRanges", "internal/bytealg.MaxLen", "subeditor/sign.operators"], plainKeys := false, apart := false, laid := [("unicode/utf8.acceptRanges", laid_unicode_utf8_acceptRanges), ("subeditor/sign.operators", laid_subeditor_sign_operators), ("unicode/utf8.first", laid_unicode_utf8_first)], narrowed := true }
def ItemsLineUptoSaid : Prop := itemsLineUptoRow.holds Tryz.pinned (OpenSpec.upto itemsLineSpec)

/-- 'subeditorlaw05.ItemsNotes', WHERE WHAT IT READS IS OF BULK AT MOST 1048576: true; the input reads as it did. -/
def itemsNotesUptoRow : OpenClaim := { program := "ytmoamfcaokefiaagreatdoor", sum := "de2edd67af612e233f0bd8750e59465016b787b45752c9eda742dcc0c57ceb76", func := "subeditor/subeditorlaw05.ItemsNotes", spec := "itemsNotes", inPlace := ["internal/abi.NoEscape", "internal/bytealg.MakeNoZero", "internal/bytealg.IndexByteString", "internal/bytealg.IndexString"], unfollowed := true, recurses := true, named := ["unicode/utf8.first", "unicode/utf8.acceptRanges", "internal/bytealg.MaxLen", "subeditor/sign.operators"], plainKeys := false, apart := false, laid := [("unicode/utf8.acceptRanges", laid_unicode_utf8_acceptRanges), ("subeditor/sign.operators", laid_subeditor_sign_operators), ("unicode/utf8.first", laid_unicode_utf8_first)], narrowed := true }
def ItemsNotesUptoSaid : Prop := itemsNotesUptoRow.holds Tryz.pinned (OpenSpec.upto itemsNotesSpec)

/-- 'subeditorlaw05.ItemsTight', WHERE WHAT IT READS IS OF BULK AT MOST 1048576: true; the input reads as it did. -/
def itemsTightUptoRow : OpenClaim := { program := "ytmoamfcaokefiaagreatdoor", sum := "de2edd67af612e233f0bd8750e59465016b787b45752c9eda742dcc0c57ceb76", func := "subeditor/subeditorlaw05.ItemsTight", spec := "itemsTight", inPlace := ["internal/abi.NoEscape", "internal/bytealg.MakeNoZero", "internal/bytealg.IndexByteString", "internal/bytealg.IndexString"], unfollowed := true, recurses := true, named := ["unicode/utf8.first", "unicode/utf8.acceptRanges", "internal/bytealg.MaxLen", "subeditor/sign.operators"], plainKeys := false, apart := false, laid := [("unicode/utf8.acceptRanges", laid_unicode_utf8_acceptRanges), ("subeditor/sign.operators", laid_subeditor_sign_operators), ("unicode/utf8.first", laid_unicode_utf8_first)], narrowed := true }
def ItemsTightUptoSaid : Prop := itemsTightUptoRow.holds Tryz.pinned (OpenSpec.upto itemsTightSpec)

/-- 'subeditorlaw05.ItemsFew', WHERE WHAT IT READS IS OF BULK AT MOST 1048576: true; the input reads as it did. -/
def itemsFewUptoRow : OpenClaim := { program := "ytmoamfcaokefiaagreatdoor", sum := "de2edd67af612e233f0bd8750e59465016b787b45752c9eda742dcc0c57ceb76", func := "subeditor/subeditorlaw05.ItemsFew", spec := "itemsFew", inPlace := ["internal/abi.NoEscape", "internal/bytealg.MakeNoZero", "internal/bytealg.IndexByteString", "internal/bytealg.IndexString"], unfollowed := true, recurses := true, named := ["unicode/utf8.first", "unicode/utf8.acceptRanges", "internal/bytealg.MaxLen", "subeditor/sign.operators"], plainKeys := false, apart := false, laid := [("unicode/utf8.acceptRanges", laid_unicode_utf8_acceptRanges), ("subeditor/sign.operators", laid_subeditor_sign_operators), ("unicode/utf8.first", laid_unicode_utf8_first)], narrowed := true }
def ItemsFewUptoSaid : Prop := itemsFewUptoRow.holds Tryz.pinned (OpenSpec.upto itemsFewSpec)

/-- 'subeditorlaw05.ItemsPairs', WHERE WHAT IT READS IS OF BULK AT MOST 1048576: true; the input reads as it did. -/
def itemsPairsUptoRow : OpenClaim := { program := "ytmoamfcaokefiaagreatdoor", sum := "de2edd67af612e233f0bd8750e59465016b787b45752c9eda742dcc0c57ceb76", func := "subeditor/subeditorlaw05.ItemsPairs", spec := "itemsPairs", inPlace := ["internal/abi.NoEscape", "internal/bytealg.MakeNoZero", "internal/bytealg.IndexByteString", "internal/bytealg.IndexString"], unfollowed := true, recurses := true, named := ["unicode/utf8.first", "unicode/utf8.acceptRanges", "internal/bytealg.MaxLen", "subeditor/sign.operators"], plainKeys := false, apart := false, laid := [("unicode/utf8.acceptRanges", laid_unicode_utf8_acceptRanges), ("subeditor/sign.operators", laid_subeditor_sign_operators), ("unicode/utf8.first", laid_unicode_utf8_first)], narrowed := true }
def ItemsPairsUptoSaid : Prop := itemsPairsUptoRow.holds Tryz.pinned (OpenSpec.upto itemsPairsSpec)

/-- 'subeditorlaw04.LexTokens', WHERE WHAT IT READS IS OF BULK AT MOST 1048576: true; the input reads as it did. -/
def lexTokensUptoRow : OpenClaim := { program := "ytmoamfcaokefiaagreatdoor", sum := "de2edd67af612e233f0bd8750e59465016b787b45752c9eda742dcc0c57ceb76", func := "subeditor/subeditorlaw04.LexTokens", spec := "lexTokens", inPlace := ["internal/bytealg.IndexByteString", "internal/bytealg.IndexString", "internal/abi.NoEscape", "internal/bytealg.MakeNoZero"], unfollowed := true, recurses := true, named := ["unicode/utf8.first", "unicode/utf8.acceptRanges", "internal/bytealg.MaxLen", "subeditor/sign.operators"], plainKeys := false, apart := false, laid := [("unicode/utf8.acceptRanges", laid_unicode_utf8_acceptRanges), ("subeditor/sign.operators", laid_subeditor_sign_operators), ("unicode/utf8.first", laid_unicode_utf8_first)], narrowed := true }
def LexTokensUptoSaid : Prop := lexTokensUptoRow.holds Tryz.pinned (OpenSpec.upto lexTokensSpec)

end Rows
end Go.Proofs.YtmoamfcaokefiaaGreatDoor
