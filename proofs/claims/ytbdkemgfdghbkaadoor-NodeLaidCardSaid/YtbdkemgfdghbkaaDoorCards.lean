/-
  DERIVED. GIVEN WITH THE SEED: THE CARDS: each row of YtbdkemgfdghbkaaDoorRows.lean that lists a variable, with what it lists TIED to the program's text (the seventh form; the later family's looks); each row that meets fmt, with fmt's text TOLD by the authors' own Lean function (tested against real Go, not proved from fmt's source: count such statements apart). THE CARD IS WHAT COUNTS. Prove the row's statement (the work); the ties are given (YtbdkemgfdghbkaaDoorTie.lean); close each card by the builder's one call (the guide's Derived/Test/ToyasCard.lean, 'card_holds'). Laid BY PROGRAM, IN A SANDBOX (cutbox-door.mjs). By AI agents, Wed Nov 11 2026. No macro, syntax, notation, axiom, sorry.
-/
import Derived.Test.YtbdkemgfdghbkaaDoorRows
import GoSem.ClaimSeven
namespace Go.Proofs.YtbdkemgfdghbkaaDoor
namespace Rows

/-- THE TIED CARD OF 'subeditorlaw07.NodeAsks'. -/
def nodeAsksCard : Claim7 := { stood := { row := nodeAsksRow, standIns := [], harness := (true, "b2b004a54fb6c1c8a709a7665556a244db4c7c9edfa6ffce38d107396aeb17d5"), looks := false }, kinds := [], alts := [], laidByText := true, laidKinds := [.data, .data, .data, .data, .pinned, .pinned, .pinned, .pinned, .pinned, .pinned], laidTests := true, laidLooks := .later }
def NodeAsksCardSaid : Prop := Claim7.holds Tryd.pinned (.plain (OpenSpec.ofChange nodeAsksSpec)) nodeAsksCard

/-- THE TIED CARD OF 'subeditorlaw07.NodeLaid'. -/
def nodeLaidCard : Claim7 := { stood := { row := nodeLaidRow, standIns := [], harness := (true, "b2b004a54fb6c1c8a709a7665556a244db4c7c9edfa6ffce38d107396aeb17d5"), looks := false }, kinds := [], alts := [], laidByText := true, laidKinds := [.data, .data, .data, .data, .pinned, .pinned, .pinned, .pinned, .pinned, .pinned], laidTests := true, laidLooks := .later }
def NodeLaidCardSaid : Prop := Claim7.holds Tryd.pinned (.plain (OpenSpec.ofChange nodeLaidSpec)) nodeLaidCard

/-- THE TIED CARD OF 'subeditorlaw07.NodeCopy'. -/
def nodeCopyCard : Claim7 := { stood := { row := nodeCopyRow, standIns := [], harness := (true, "b2b004a54fb6c1c8a709a7665556a244db4c7c9edfa6ffce38d107396aeb17d5"), looks := false }, kinds := [], alts := [], laidByText := true, laidKinds := [.data, .data, .data, .data, .pinned, .pinned, .pinned, .pinned, .pinned, .pinned], laidTests := true, laidLooks := .later }
def NodeCopyCardSaid : Prop := Claim7.holds Tryd.pinned (.plain (OpenSpec.ofChange nodeCopySpec)) nodeCopyCard

/-- THE TIED CARD OF 'subeditorlaw07.NodeShow'. -/
def nodeShowCard : Claim7 := { stood := { row := nodeShowRow, standIns := [], harness := (true, "b2b004a54fb6c1c8a709a7665556a244db4c7c9edfa6ffce38d107396aeb17d5"), looks := false }, kinds := [], alts := [], laidByText := true, laidKinds := [.data, .data, .data, .data, .pinned, .pinned, .pinned, .pinned, .pinned, .pinned], laidTests := true, laidLooks := .later }
def NodeShowCardSaid : Prop := Claim7.holds Tryd.pinned (.plain (OpenSpec.ofChange nodeShowSpec)) nodeShowCard

/-- THE TIED CARD OF 'subeditorlaw07.NodePaths'. -/
def nodePathsCard : Claim7 := { stood := { row := nodePathsRow, standIns := [], harness := (true, "b2b004a54fb6c1c8a709a7665556a244db4c7c9edfa6ffce38d107396aeb17d5"), looks := false }, kinds := [], alts := [], laidByText := true, laidKinds := [.data, .data, .data, .data, .pinned, .pinned, .pinned, .pinned, .pinned, .pinned], laidTests := true, laidLooks := .later }
def NodePathsCardSaid : Prop := Claim7.holds Tryd.pinned (.plain (OpenSpec.ofChange nodePathsSpec)) nodePathsCard

/-- THE TIED CARD OF 'subeditorlaw07.NodeJoin'. -/
def nodeJoinCard : Claim7 := { stood := { row := nodeJoinRow, standIns := [], harness := (true, "b2b004a54fb6c1c8a709a7665556a244db4c7c9edfa6ffce38d107396aeb17d5"), looks := false }, kinds := [], alts := [], laidByText := true, laidKinds := [.data, .data, .data, .data, .pinned, .pinned, .pinned, .pinned, .pinned, .pinned], laidTests := true, laidLooks := .later }
def NodeJoinCardSaid : Prop := Claim7.holds Tryd.pinned (.plain (OpenSpec.ofChange nodeJoinSpec)) nodeJoinCard

/-- THE SECOND FORM's CARD OF 'subeditorlaw07.NodeAsks'. -/
def nodeAsksUptoCard : Claim7 := { stood := { row := nodeAsksUptoRow, standIns := [], harness := (true, "b2b004a54fb6c1c8a709a7665556a244db4c7c9edfa6ffce38d107396aeb17d5"), looks := false }, kinds := [], alts := [], laidByText := true, laidKinds := [.data, .data, .data, .data, .pinned, .pinned, .pinned, .pinned, .pinned, .pinned], laidTests := true, laidLooks := .later }
def NodeAsksUptoCardSaid : Prop := Claim7.holds Tryd.pinned (.plain (OpenSpec.upto nodeAsksSpec)) nodeAsksUptoCard

/-- THE SECOND FORM's CARD OF 'subeditorlaw07.NodeLaid'. -/
def nodeLaidUptoCard : Claim7 := { stood := { row := nodeLaidUptoRow, standIns := [], harness := (true, "b2b004a54fb6c1c8a709a7665556a244db4c7c9edfa6ffce38d107396aeb17d5"), looks := false }, kinds := [], alts := [], laidByText := true, laidKinds := [.data, .data, .data, .data, .pinned, .pinned, .pinned, .pinned, .pinned, .pinned], laidTests := true, laidLooks := .later }
def NodeLaidUptoCardSaid : Prop := Claim7.holds Tryd.pinned (.plain (OpenSpec.upto nodeLaidSpec)) nodeLaidUptoCard

/-- THE SECOND FORM's CARD OF 'subeditorlaw07.NodeCopy'. -/
def nodeCopyUptoCard : Claim7 := { stood := { row := nodeCopyUptoRow, standIns := [], harness := (true, "b2b004a54fb6c1c8a709a7665556a244db4c7c9edfa6ffce38d107396aeb17d5"), looks := false }, kinds := [], alts := [], laidByText := true, laidKinds := [.data, .data, .data, .data, .pinned, .pinned, .pinned, .pinned, .pinned, .pinned], laidTests := true, laidLooks := .later }
def NodeCopyUptoCardSaid : Prop := Claim7.holds Tryd.pinned (.plain (OpenSpec.upto nodeCopySpec)) nodeCopyUptoCard

/-- THE SECOND FORM's CARD OF 'subeditorlaw07.NodeShow'. -/
def nodeShowUptoCard : Claim7 := { stood := { row := nodeShowUptoRow, standIns := [], harness := (true, "b2b004a54fb6c1c8a709a7665556a244db4c7c9edfa6ffce38d107396aeb17d5"), looks := false }, kinds := [], alts := [], laidByText := true, laidKinds := [.data, .data, .data, .data, .pinned, .pinned, .pinned, .pinned, .pinned, .pinned], laidTests := true, laidLooks := .later }
def NodeShowUptoCardSaid : Prop := Claim7.holds Tryd.pinned (.plain (OpenSpec.upto nodeShowSpec)) nodeShowUptoCard

/-- THE SECOND FORM's CARD OF 'subeditorlaw07.NodePaths'. -/
def nodePathsUptoCard : Claim7 := { stood := { row := nodePathsUptoRow, standIns := [], harness := (true, "b2b004a54fb6c1c8a709a7665556a244db4c7c9edfa6ffce38d107396aeb17d5"), looks := false }, kinds := [], alts := [], laidByText := true, laidKinds := [.data, .data, .data, .data, .pinned, .pinned, .pinned, .pinned, .pinned, .pinned], laidTests := true, laidLooks := .later }
def NodePathsUptoCardSaid : Prop := Claim7.holds Tryd.pinned (.plain (OpenSpec.upto nodePathsSpec)) nodePathsUptoCard

/-- THE SECOND FORM's CARD OF 'subeditorlaw07.NodeJoin'. -/
def nodeJoinUptoCard : Claim7 := { stood := { row := nodeJoinUptoRow, standIns := [], harness := (true, "b2b004a54fb6c1c8a709a7665556a244db4c7c9edfa6ffce38d107396aeb17d5"), looks := false }, kinds := [], alts := [], laidByText := true, laidKinds := [.data, .data, .data, .data, .pinned, .pinned, .pinned, .pinned, .pinned, .pinned], laidTests := true, laidLooks := .later }
def NodeJoinUptoCardSaid : Prop := Claim7.holds Tryd.pinned (.plain (OpenSpec.upto nodeJoinSpec)) nodeJoinUptoCard
end Rows
end Go.Proofs.YtbdkemgfdghbkaaDoor
