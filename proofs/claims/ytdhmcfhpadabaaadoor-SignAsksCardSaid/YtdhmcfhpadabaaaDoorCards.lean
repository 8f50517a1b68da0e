/-
  DERIVED. GIVEN WITH THE SEED: THE CARDS: each row of YtdhmcfhpadabaaaDoorRows.lean that lists a variable, with what it lists TIED to the program's text (the seventh form; the later family's looks); each row that meets fmt, with fmt's text TOLD by the authors' own Lean function (tested against real Go, not proved from fmt's source: count such statements apart). THE CARD IS WHAT COUNTS. Prove the row's statement (the work); the ties are given (YtdhmcfhpadabaaaDoorTie.lean); close each card by the builder's one call (the guide's Derived/Test/ToyasCard.lean, 'card_holds'). Laid BY PROGRAM, IN A SANDBOX (cutbox-door.mjs). By AI agents, Wed Nov 11 2026. No macro, syntax, notation, axiom, sorry.
-/
import Derived.Test.YtdhmcfhpadabaaaDoorRows
import GoSem.ClaimSeven
namespace Go.Proofs.YtdhmcfhpadabaaaDoor
namespace Rows

/-- THE TIED CARD OF 'subeditorlaw03.SignAsks'. -/
def signAsksCard : Claim7 := { stood := { row := signAsksRow, standIns := [], harness := (true, "85863b6131473bf1b64ffcd277af4754de7943ea6b14e11939a9f0a9944e45fe"), looks := false }, kinds := [], alts := [], laidByText := true, laidKinds := [.data], laidTests := true, laidLooks := .later }
def SignAsksCardSaid : Prop := Claim7.holds Tryd.pinned (.plain (OpenSpec.ofChange signAsksSpec)) signAsksCard

/-- THE TIED CARD OF 'subeditorlaw03.SignWhole'. -/
def signWholeCard : Claim7 := { stood := { row := signWholeRow, standIns := [], harness := (true, "85863b6131473bf1b64ffcd277af4754de7943ea6b14e11939a9f0a9944e45fe"), looks := false }, kinds := [], alts := [], laidByText := true, laidKinds := [.data], laidTests := true, laidLooks := .later }
def SignWholeCardSaid : Prop := Claim7.holds Tryd.pinned (.plain (OpenSpec.ofChange signWholeSpec)) signWholeCard

/-- THE TIED CARD OF 'subeditorlaw03.SignKeys'. -/
def signKeysCard : Claim7 := { stood := { row := signKeysRow, standIns := [], harness := (true, "85863b6131473bf1b64ffcd277af4754de7943ea6b14e11939a9f0a9944e45fe"), looks := false }, kinds := [], alts := [], laidByText := true, laidKinds := [.data], laidTests := true, laidLooks := .later }
def SignKeysCardSaid : Prop := Claim7.holds Tryd.pinned (.plain (OpenSpec.ofChange signKeysSpec)) signKeysCard

/-- THE TIED CARD OF 'subeditorlaw03.SignEscapes'. -/
def signEscapesCard : Claim7 := { stood := { row := signEscapesRow, standIns := [], harness := (true, "85863b6131473bf1b64ffcd277af4754de7943ea6b14e11939a9f0a9944e45fe"), looks := false }, kinds := [], alts := [], laidByText := true, laidKinds := [.data], laidTests := true, laidLooks := .later }
def SignEscapesCardSaid : Prop := Claim7.holds Tryd.pinned (.plain (OpenSpec.ofChange signEscapesSpec)) signEscapesCard

/-- THE TIED CARD OF 'subeditorlaw03.SignBytes'. -/
def signBytesCard : Claim7 := { stood := { row := signBytesRow, standIns := [], harness := (true, "85863b6131473bf1b64ffcd277af4754de7943ea6b14e11939a9f0a9944e45fe"), looks := false }, kinds := [], alts := [], laidByText := true, laidKinds := [.data], laidTests := true, laidLooks := .later }
def SignBytesCardSaid : Prop := Claim7.holds Tryd.pinned (.plain (OpenSpec.ofChange signBytesSpec)) signBytesCard

/-- THE TIED CARD OF 'subeditorlaw03.SignOpers'. -/
def signOpersCard : Claim7 := { stood := { row := signOpersRow, standIns := [], harness := (true, "85863b6131473bf1b64ffcd277af4754de7943ea6b14e11939a9f0a9944e45fe"), looks := false }, kinds := [], alts := [], laidByText := true, laidKinds := [.data], laidTests := true, laidLooks := .later }
def SignOpersCardSaid : Prop := Claim7.holds Tryd.pinned (.plain (OpenSpec.ofChange signOpersSpec)) signOpersCard

/-- THE TIED CARD OF 'subeditorlaw03.SignNumbers'. -/
def signNumbersCard : Claim7 := { stood := { row := signNumbersRow, standIns := [], harness := (true, "85863b6131473bf1b64ffcd277af4754de7943ea6b14e11939a9f0a9944e45fe"), looks := false }, kinds := [], alts := [], laidByText := true, laidKinds := [.data], laidTests := true, laidLooks := .later }
def SignNumbersCardSaid : Prop := Claim7.holds Tryd.pinned (.plain (OpenSpec.ofChange signNumbersSpec)) signNumbersCard

/-- THE SECOND FORM's CARD OF 'subeditorlaw03.SignAsks'. -/
def signAsksUptoCard : Claim7 := { stood := { row := signAsksUptoRow, standIns := [], harness := (true, "85863b6131473bf1b64ffcd277af4754de7943ea6b14e11939a9f0a9944e45fe"), looks := false }, kinds := [], alts := [], laidByText := true, laidKinds := [.data], laidTests := true, laidLooks := .later }
def SignAsksUptoCardSaid : Prop := Claim7.holds Tryd.pinned (.plain (OpenSpec.upto signAsksSpec)) signAsksUptoCard

/-- THE SECOND FORM's CARD OF 'subeditorlaw03.SignWhole'. -/
def signWholeUptoCard : Claim7 := { stood := { row := signWholeUptoRow, standIns := [], harness := (true, "85863b6131473bf1b64ffcd277af4754de7943ea6b14e11939a9f0a9944e45fe"), looks := false }, kinds := [], alts := [], laidByText := true, laidKinds := [.data], laidTests := true, laidLooks := .later }
def SignWholeUptoCardSaid : Prop := Claim7.holds Tryd.pinned (.plain (OpenSpec.upto signWholeSpec)) signWholeUptoCard

/-- THE SECOND FORM's CARD OF 'subeditorlaw03.SignKeys'. -/
def signKeysUptoCard : Claim7 := { stood := { row := signKeysUptoRow, standIns := [], harness := (true, "85863b6131473bf1b64ffcd277af4754de7943ea6b14e11939a9f0a9944e45fe"), looks := false }, kinds := [], alts := [], laidByText := true, laidKinds := [.data], laidTests := true, laidLooks := .later }
def SignKeysUptoCardSaid : Prop := Claim7.holds Tryd.pinned (.plain (OpenSpec.upto signKeysSpec)) signKeysUptoCard

/-- THE SECOND FORM's CARD OF 'subeditorlaw03.SignEscapes'. -/
def signEscapesUptoCard : Claim7 := { stood := { row := signEscapesUptoRow, standIns := [], harness := (true, "85863b6131473bf1b64ffcd277af4754de7943ea6b14e11939a9f0a9944e45fe"), looks := false }, kinds := [], alts := [], laidByText := true, laidKinds := [.data], laidTests := true, laidLooks := .later }
def SignEscapesUptoCardSaid : Prop := Claim7.holds Tryd.pinned (.plain (OpenSpec.upto signEscapesSpec)) signEscapesUptoCard

/-- THE SECOND FORM's CARD OF 'subeditorlaw03.SignBytes'. -/
def signBytesUptoCard : Claim7 := { stood := { row := signBytesUptoRow, standIns := [], harness := (true, "85863b6131473bf1b64ffcd277af4754de7943ea6b14e11939a9f0a9944e45fe"), looks := false }, kinds := [], alts := [], laidByText := true, laidKinds := [.data], laidTests := true, laidLooks := .later }
def SignBytesUptoCardSaid : Prop := Claim7.holds Tryd.pinned (.plain (OpenSpec.upto signBytesSpec)) signBytesUptoCard

/-- THE SECOND FORM's CARD OF 'subeditorlaw03.SignOpers'. -/
def signOpersUptoCard : Claim7 := { stood := { row := signOpersUptoRow, standIns := [], harness := (true, "85863b6131473bf1b64ffcd277af4754de7943ea6b14e11939a9f0a9944e45fe"), looks := false }, kinds := [], alts := [], laidByText := true, laidKinds := [.data], laidTests := true, laidLooks := .later }
def SignOpersUptoCardSaid : Prop := Claim7.holds Tryd.pinned (.plain (OpenSpec.upto signOpersSpec)) signOpersUptoCard

/-- THE SECOND FORM's CARD OF 'subeditorlaw03.SignNumbers'. -/
def signNumbersUptoCard : Claim7 := { stood := { row := signNumbersUptoRow, standIns := [], harness := (true, "85863b6131473bf1b64ffcd277af4754de7943ea6b14e11939a9f0a9944e45fe"), looks := false }, kinds := [], alts := [], laidByText := true, laidKinds := [.data], laidTests := true, laidLooks := .later }
def SignNumbersUptoCardSaid : Prop := Claim7.holds Tryd.pinned (.plain (OpenSpec.upto signNumbersSpec)) signNumbersUptoCard
end Rows
end Go.Proofs.YtdhmcfhpadabaaaDoor
