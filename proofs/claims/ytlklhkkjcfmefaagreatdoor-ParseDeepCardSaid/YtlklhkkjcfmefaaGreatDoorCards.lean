/-
  DERIVED. GIVEN WITH THE SEED: THE CARDS: each row of YtlklhkkjcfmefaaGreatDoorRows.lean that lists a variable, with what it lists TIED to the program's text (the seventh form; the later family's looks); each row that meets fmt, with fmt's text TOLD by the authors' own Lean function (tested against real Go, not proved from fmt's source: count such statements apart). THE CARD IS WHAT COUNTS. Prove the row's statement (the work); the ties are given (YtlklhkkjcfmefaaGreatDoorTie.lean); close each card by the builder's one call (the guide's Derived/Test/ToyasCard.lean, 'card_holds'). Laid BY PROGRAM, IN A SANDBOX (cutbox-door.mjs). By AI agents, Wed Nov 11 2026. No macro, syntax, notation, axiom, sorry.
-/
import Derived.Test.YtlklhkkjcfmefaaGreatDoorRows
import GoSem.ClaimSeven
namespace Go.Proofs.YtlklhkkjcfmefaaGreatDoor
namespace Rows

/-- THE TIED CARD OF 'subeditorlaw08.ParseSources'. -/
def parseSourcesCard : Claim7 := { stood := { row := parseSourcesRow, standIns := [], harness := (true, "517fdc3cd9c9ff754cae92ce1ee646e58ff4d3555fc90503b144d4096303e72f"), looks := true }, kinds := [], alts := [], laidByText := true, laidKinds := [.data, .widerDeep, .data, .pinned], laidTests := true, laidLooks := .later }
def ParseSourcesCardSaid : Prop := Claim7.holds Tryz.pinned (.plain (OpenSpec.ofChange parseSourcesSpec)) parseSourcesCard

/-- THE TIED CARD OF 'subeditorlaw08.ParsePrograms'. -/
def parseProgramsCard : Claim7 := { stood := { row := parseProgramsRow, standIns := [], harness := (true, "517fdc3cd9c9ff754cae92ce1ee646e58ff4d3555fc90503b144d4096303e72f"), looks := true }, kinds := [], alts := [], laidByText := true, laidKinds := [.data, .widerDeep, .data, .pinned], laidTests := true, laidLooks := .later }
def ParseProgramsCardSaid : Prop := Claim7.holds Tryz.pinned (.plain (OpenSpec.ofChange parseProgramsSpec)) parseProgramsCard

/-- THE TIED CARD OF 'subeditorlaw08.ParseFirst'. -/
def parseFirstCard : Claim7 := { stood := { row := parseFirstRow, standIns := [], harness := (true, "517fdc3cd9c9ff754cae92ce1ee646e58ff4d3555fc90503b144d4096303e72f"), looks := true }, kinds := [], alts := [], laidByText := true, laidKinds := [.data, .widerDeep, .data, .pinned], laidTests := true, laidLooks := .later }
def ParseFirstCardSaid : Prop := Claim7.holds Tryz.pinned (.plain (OpenSpec.ofChange parseFirstSpec)) parseFirstCard

/-- THE TIED CARD OF 'subeditorlaw08.ParseDeep'. -/
def parseDeepCard : Claim7 := { stood := { row := parseDeepRow, standIns := [], harness := (true, "517fdc3cd9c9ff754cae92ce1ee646e58ff4d3555fc90503b144d4096303e72f"), looks := true }, kinds := [], alts := [], laidByText := true, laidKinds := [.data, .widerDeep, .data, .pinned], laidTests := true, laidLooks := .later }
def ParseDeepCardSaid : Prop := Claim7.holds Tryz.pinned (.plain (OpenSpec.ofChange parseDeepSpec)) parseDeepCard

/-- THE TIED CARD OF 'subeditorlaw08.ParseSpaces'. -/
def parseSpacesCard : Claim7 := { stood := { row := parseSpacesRow, standIns := [], harness := (true, "517fdc3cd9c9ff754cae92ce1ee646e58ff4d3555fc90503b144d4096303e72f"), looks := true }, kinds := [], alts := [], laidByText := true, laidKinds := [.data, .widerDeep, .data, .pinned], laidTests := true, laidLooks := .later }
def ParseSpacesCardSaid : Prop := Claim7.holds Tryz.pinned (.plain (OpenSpec.ofChange parseSpacesSpec)) parseSpacesCard

/-- THE TIED CARD OF 'subeditorlaw08.ParseOpers'. -/
def parseOpersCard : Claim7 := { stood := { row := parseOpersRow, standIns := [], harness := (true, "517fdc3cd9c9ff754cae92ce1ee646e58ff4d3555fc90503b144d4096303e72f"), looks := true }, kinds := [], alts := [], laidByText := true, laidKinds := [.data, .widerDeep, .data, .pinned], laidTests := true, laidLooks := .later }
def ParseOpersCardSaid : Prop := Claim7.holds Tryz.pinned (.plain (OpenSpec.ofChange parseOpersSpec)) parseOpersCard

/-- THE TIED CARD OF 'subeditorlaw08.ParseGreedy'. -/
def parseGreedyCard : Claim7 := { stood := { row := parseGreedyRow, standIns := [], harness := (true, "517fdc3cd9c9ff754cae92ce1ee646e58ff4d3555fc90503b144d4096303e72f"), looks := true }, kinds := [], alts := [], laidByText := true, laidKinds := [.data, .widerDeep, .data, .pinned], laidTests := true, laidLooks := .later }
def ParseGreedyCardSaid : Prop := Claim7.holds Tryz.pinned (.plain (OpenSpec.ofChange parseGreedySpec)) parseGreedyCard

/-- THE TIED CARD OF 'subeditorlaw08.ParseEmpty'. -/
def parseEmptyCard : Claim7 := { stood := { row := parseEmptyRow, standIns := [], harness := (true, "517fdc3cd9c9ff754cae92ce1ee646e58ff4d3555fc90503b144d4096303e72f"), looks := true }, kinds := [], alts := [], laidByText := true, laidKinds := [.data, .widerDeep, .data, .pinned], laidTests := true, laidLooks := .later }
def ParseEmptyCardSaid : Prop := Claim7.holds Tryz.pinned (.plain (OpenSpec.ofChange parseEmptySpec)) parseEmptyCard

/-- THE TIED CARD OF 'subeditorlaw08.ParseKeys'. -/
def parseKeysCard : Claim7 := { stood := { row := parseKeysRow, standIns := [], harness := (true, "517fdc3cd9c9ff754cae92ce1ee646e58ff4d3555fc90503b144d4096303e72f"), looks := true }, kinds := [], alts := [], laidByText := true, laidKinds := [.data, .widerDeep, .data, .pinned], laidTests := true, laidLooks := .later }
def ParseKeysCardSaid : Prop := Claim7.holds Tryz.pinned (.plain (OpenSpec.ofChange parseKeysSpec)) parseKeysCard

/-- THE SECOND FORM's CARD OF 'subeditorlaw08.ParseSources'. -/
def parseSourcesUptoCard : Claim7 := { stood := { row := parseSourcesUptoRow, standIns := [], harness := (true, "517fdc3cd9c9ff754cae92ce1ee646e58ff4d3555fc90503b144d4096303e72f"), looks := true }, kinds := [], alts := [], laidByText := true, laidKinds := [.data, .widerDeep, .data, .pinned], laidTests := true, laidLooks := .later }
def ParseSourcesUptoCardSaid : Prop := Claim7.holds Tryz.pinned (.plain (OpenSpec.upto parseSourcesSpec)) parseSourcesUptoCard

/-- THE SECOND FORM's CARD OF 'subeditorlaw08.ParsePrograms'. -/
def parseProgramsUptoCard : Claim7 := { stood := { row := parseProgramsUptoRow, standIns := [], harness := (true, "517fdc3cd9c9ff754cae92ce1ee646e58ff4d3555fc90503b144d4096303e72f"), looks := true }, kinds := [], alts := [], laidByText := true, laidKinds := [.data, .widerDeep, .data, .pinned], laidTests := true, laidLooks := .later }
def ParseProgramsUptoCardSaid : Prop := Claim7.holds Tryz.pinned (.plain (OpenSpec.upto parseProgramsSpec)) parseProgramsUptoCard

/-- THE SECOND FORM's CARD OF 'subeditorlaw08.ParseFirst'. -/
def parseFirstUptoCard : Claim7 := { stood := { row := parseFirstUptoRow, standIns := [], harness := (true, "517fdc3cd9c9ff754cae92ce1ee646e58ff4d3555fc90503b144d4096303e72f"), looks := true }, kinds := [], alts := [], laidByText := true, laidKinds := [.data, .widerDeep, .data, .pinned], laidTests := true, laidLooks := .later }
def ParseFirstUptoCardSaid : Prop := Claim7.holds Tryz.pinned (.plain (OpenSpec.upto parseFirstSpec)) parseFirstUptoCard

/-- THE SECOND FORM's CARD OF 'subeditorlaw08.ParseDeep'. -/
def parseDeepUptoCard : Claim7 := { stood := { row := parseDeepUptoRow, standIns := [], harness := (true, "517fdc3cd9c9ff754cae92ce1ee646e58ff4d3555fc90503b144d4096303e72f"), looks := true }, kinds := [], alts := [], laidByText := true, laidKinds := [.data, .widerDeep, .data, .pinned], laidTests := true, laidLooks := .later }
def ParseDeepUptoCardSaid : Prop := Claim7.holds Tryz.pinned (.plain (OpenSpec.upto parseDeepSpec)) parseDeepUptoCard

/-- THE SECOND FORM's CARD OF 'subeditorlaw08.ParseSpaces'. -/
def parseSpacesUptoCard : Claim7 := { stood := { row := parseSpacesUptoRow, standIns := [], harness := (true, "517fdc3cd9c9ff754cae92ce1ee646e58ff4d3555fc90503b144d4096303e72f"), looks := true }, kinds := [], alts := [], laidByText := true, laidKinds := [.data, .widerDeep, .data, .pinned], laidTests := true, laidLooks := .later }
def ParseSpacesUptoCardSaid : Prop := Claim7.holds Tryz.pinned (.plain (OpenSpec.upto parseSpacesSpec)) parseSpacesUptoCard

/-- THE SECOND FORM's CARD OF 'subeditorlaw08.ParseOpers'. -/
def parseOpersUptoCard : Claim7 := { stood := { row := parseOpersUptoRow, standIns := [], harness := (true, "517fdc3cd9c9ff754cae92ce1ee646e58ff4d3555fc90503b144d4096303e72f"), looks := true }, kinds := [], alts := [], laidByText := true, laidKinds := [.data, .widerDeep, .data, .pinned], laidTests := true, laidLooks := .later }
def ParseOpersUptoCardSaid : Prop := Claim7.holds Tryz.pinned (.plain (OpenSpec.upto parseOpersSpec)) parseOpersUptoCard

/-- THE SECOND FORM's CARD OF 'subeditorlaw08.ParseGreedy'. -/
def parseGreedyUptoCard : Claim7 := { stood := { row := parseGreedyUptoRow, standIns := [], harness := (true, "517fdc3cd9c9ff754cae92ce1ee646e58ff4d3555fc90503b144d4096303e72f"), looks := true }, kinds := [], alts := [], laidByText := true, laidKinds := [.data, .widerDeep, .data, .pinned], laidTests := true, laidLooks := .later }
def ParseGreedyUptoCardSaid : Prop := Claim7.holds Tryz.pinned (.plain (OpenSpec.upto parseGreedySpec)) parseGreedyUptoCard

/-- THE SECOND FORM's CARD OF 'subeditorlaw08.ParseEmpty'. -/
def parseEmptyUptoCard : Claim7 := { stood := { row := parseEmptyUptoRow, standIns := [], harness := (true, "517fdc3cd9c9ff754cae92ce1ee646e58ff4d3555fc90503b144d4096303e72f"), looks := true }, kinds := [], alts := [], laidByText := true, laidKinds := [.data, .widerDeep, .data, .pinned], laidTests := true, laidLooks := .later }
def ParseEmptyUptoCardSaid : Prop := Claim7.holds Tryz.pinned (.plain (OpenSpec.upto parseEmptySpec)) parseEmptyUptoCard

/-- THE SECOND FORM's CARD OF 'subeditorlaw08.ParseKeys'. -/
def parseKeysUptoCard : Claim7 := { stood := { row := parseKeysUptoRow, standIns := [], harness := (true, "517fdc3cd9c9ff754cae92ce1ee646e58ff4d3555fc90503b144d4096303e72f"), looks := true }, kinds := [], alts := [], laidByText := true, laidKinds := [.data, .widerDeep, .data, .pinned], laidTests := true, laidLooks := .later }
def ParseKeysUptoCardSaid : Prop := Claim7.holds Tryz.pinned (.plain (OpenSpec.upto parseKeysSpec)) parseKeysUptoCard
end Rows
end Go.Proofs.YtlklhkkjcfmefaaGreatDoor
