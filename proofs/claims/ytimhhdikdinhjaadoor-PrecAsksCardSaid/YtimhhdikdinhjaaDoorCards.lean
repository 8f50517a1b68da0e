/-
  DERIVED. GIVEN WITH THE SEED: THE CARDS: each row of YtimhhdikdinhjaaDoorRows.lean that lists a variable, with what it lists TIED to the program's text (the seventh form; the later family's looks); each row that meets fmt, with fmt's text TOLD by the authors' own Lean function (tested against real Go, not proved from fmt's source: count such statements apart). THE CARD IS WHAT COUNTS. Prove the row's statement (the work); the ties are given (YtimhhdikdinhjaaDoorTie.lean); close each card by the builder's one call (the guide's Derived/Test/ToyasCard.lean, 'card_holds'). Laid BY PROGRAM, IN A SANDBOX (cutbox-door.mjs). By AI agents, Wed Nov 11 2026. No macro, syntax, notation, axiom, sorry.
-/
import Derived.Test.YtimhhdikdinhjaaDoorRows
import GoSem.ClaimSeven
namespace Go.Proofs.YtimhhdikdinhjaaDoor
namespace Rows

/-- THE TIED CARD OF 'subeditorlaw06.PrecAsks'. -/
def precAsksCard : Claim7 := { stood := { row := precAsksRow, standIns := [], harness := (true, "f8b459b4587775a79485bb7d8e41f93fcbbe5945a386140b05d5d21fa8ddd65e"), looks := false }, kinds := [], alts := [], laidByText := true, laidKinds := [.widerDeep], laidTests := true, laidLooks := .later }
def PrecAsksCardSaid : Prop := Claim7.holds Tryd.pinned (.plain (OpenSpec.ofChange precAsksSpec)) precAsksCard

/-- THE TIED CARD OF 'subeditorlaw06.PrecSides'. -/
def precSidesCard : Claim7 := { stood := { row := precSidesRow, standIns := [], harness := (true, "f8b459b4587775a79485bb7d8e41f93fcbbe5945a386140b05d5d21fa8ddd65e"), looks := false }, kinds := [], alts := [], laidByText := true, laidKinds := [.widerDeep], laidTests := true, laidLooks := .later }
def PrecSidesCardSaid : Prop := Claim7.holds Tryd.pinned (.plain (OpenSpec.ofChange precSidesSpec)) precSidesCard

/-- THE TIED CARD OF 'subeditorlaw06.PrecRise'. -/
def precRiseCard : Claim7 := { stood := { row := precRiseRow, standIns := [], harness := (true, "f8b459b4587775a79485bb7d8e41f93fcbbe5945a386140b05d5d21fa8ddd65e"), looks := false }, kinds := [], alts := [], laidByText := true, laidKinds := [.widerDeep], laidTests := true, laidLooks := .later }
def PrecRiseCardSaid : Prop := Claim7.holds Tryd.pinned (.plain (OpenSpec.ofChange precRiseSpec)) precRiseCard

/-- THE TIED CARD OF 'subeditorlaw06.PrecNone'. -/
def precNoneCard : Claim7 := { stood := { row := precNoneRow, standIns := [], harness := (true, "f8b459b4587775a79485bb7d8e41f93fcbbe5945a386140b05d5d21fa8ddd65e"), looks := false }, kinds := [], alts := [], laidByText := true, laidKinds := [.widerDeep], laidTests := true, laidLooks := .later }
def PrecNoneCardSaid : Prop := Claim7.holds Tryd.pinned (.plain (OpenSpec.ofChange precNoneSpec)) precNoneCard

/-- THE TIED CARD OF 'subeditorlaw06.PrecPipe'. -/
def precPipeCard : Claim7 := { stood := { row := precPipeRow, standIns := [], harness := (true, "f8b459b4587775a79485bb7d8e41f93fcbbe5945a386140b05d5d21fa8ddd65e"), looks := false }, kinds := [], alts := [], laidByText := true, laidKinds := [.widerDeep], laidTests := true, laidLooks := .later }
def PrecPipeCardSaid : Prop := Claim7.holds Tryd.pinned (.plain (OpenSpec.ofChange precPipeSpec)) precPipeCard

/-- THE SECOND FORM's CARD OF 'subeditorlaw06.PrecAsks'. -/
def precAsksUptoCard : Claim7 := { stood := { row := precAsksUptoRow, standIns := [], harness := (true, "f8b459b4587775a79485bb7d8e41f93fcbbe5945a386140b05d5d21fa8ddd65e"), looks := false }, kinds := [], alts := [], laidByText := true, laidKinds := [.widerDeep], laidTests := true, laidLooks := .later }
def PrecAsksUptoCardSaid : Prop := Claim7.holds Tryd.pinned (.plain (OpenSpec.upto precAsksSpec)) precAsksUptoCard

/-- THE SECOND FORM's CARD OF 'subeditorlaw06.PrecSides'. -/
def precSidesUptoCard : Claim7 := { stood := { row := precSidesUptoRow, standIns := [], harness := (true, "f8b459b4587775a79485bb7d8e41f93fcbbe5945a386140b05d5d21fa8ddd65e"), looks := false }, kinds := [], alts := [], laidByText := true, laidKinds := [.widerDeep], laidTests := true, laidLooks := .later }
def PrecSidesUptoCardSaid : Prop := Claim7.holds Tryd.pinned (.plain (OpenSpec.upto precSidesSpec)) precSidesUptoCard

/-- THE SECOND FORM's CARD OF 'subeditorlaw06.PrecRise'. -/
def precRiseUptoCard : Claim7 := { stood := { row := precRiseUptoRow, standIns := [], harness := (true, "f8b459b4587775a79485bb7d8e41f93fcbbe5945a386140b05d5d21fa8ddd65e"), looks := false }, kinds := [], alts := [], laidByText := true, laidKinds := [.widerDeep], laidTests := true, laidLooks := .later }
def PrecRiseUptoCardSaid : Prop := Claim7.holds Tryd.pinned (.plain (OpenSpec.upto precRiseSpec)) precRiseUptoCard

/-- THE SECOND FORM's CARD OF 'subeditorlaw06.PrecNone'. -/
def precNoneUptoCard : Claim7 := { stood := { row := precNoneUptoRow, standIns := [], harness := (true, "f8b459b4587775a79485bb7d8e41f93fcbbe5945a386140b05d5d21fa8ddd65e"), looks := false }, kinds := [], alts := [], laidByText := true, laidKinds := [.widerDeep], laidTests := true, laidLooks := .later }
def PrecNoneUptoCardSaid : Prop := Claim7.holds Tryd.pinned (.plain (OpenSpec.upto precNoneSpec)) precNoneUptoCard

/-- THE SECOND FORM's CARD OF 'subeditorlaw06.PrecPipe'. -/
def precPipeUptoCard : Claim7 := { stood := { row := precPipeUptoRow, standIns := [], harness := (true, "f8b459b4587775a79485bb7d8e41f93fcbbe5945a386140b05d5d21fa8ddd65e"), looks := false }, kinds := [], alts := [], laidByText := true, laidKinds := [.widerDeep], laidTests := true, laidLooks := .later }
def PrecPipeUptoCardSaid : Prop := Claim7.holds Tryd.pinned (.plain (OpenSpec.upto precPipeSpec)) precPipeUptoCard
end Rows
end Go.Proofs.YtimhhdikdinhjaaDoor
