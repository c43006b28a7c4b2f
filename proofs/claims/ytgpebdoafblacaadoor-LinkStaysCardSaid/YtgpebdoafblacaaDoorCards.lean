/-
  DERIVED. GIVEN WITH THE SEED: THE CARDS: each row of YtgpebdoafblacaaDoorRows.lean that lists a variable, with what it lists TIED to the program's text (the seventh form; the later family's looks); each row that meets fmt, with fmt's text TOLD by the authors' own Lean function (tested against real Go, not proved from fmt's source: count such statements apart). THE CARD IS WHAT COUNTS. Prove the row's statement (the work); the ties are given (YtgpebdoafblacaaDoorTie.lean); close each card by the builder's one call (the guide's Derived/Test/ToyasCard.lean, 'card_holds'). Laid BY PROGRAM, IN A SANDBOX (cutbox-door.mjs). By AI agents, Wed Nov 11 2026. No macro, syntax, notation, axiom, sorry.
-/
import Derived.Test.YtgpebdoafblacaaDoorRows
import GoSem.ClaimSeven
namespace Go.Proofs.YtgpebdoafblacaaDoor
namespace Rows

/-- THE TIED CARD OF 'typebarlaw09.LinkOffers'. -/
def linkOffersCard : Claim7 := { stood := { row := linkOffersRow, standIns := [], harness := (true, "7d1108439c39397386fadfb8f63b3d76591115abe6f7079327c50654ea9764fb"), looks := false }, kinds := [], alts := [], laidByText := true, laidKinds := [.data, .data, .data, .data], laidTests := true, laidLooks := .later }
def LinkOffersCardSaid : Prop := Claim7.holds Tryd.pinned (.plain (OpenSpec.ofChange linkOffersSpec)) linkOffersCard

/-- THE TIED CARD OF 'typebarlaw09.LinkSends'. -/
def linkSendsCard : Claim7 := { stood := { row := linkSendsRow, standIns := [], harness := (true, "7d1108439c39397386fadfb8f63b3d76591115abe6f7079327c50654ea9764fb"), looks := false }, kinds := [], alts := [], laidByText := true, laidKinds := [.data, .data, .data, .data], laidTests := true, laidLooks := .later }
def LinkSendsCardSaid : Prop := Claim7.holds Tryd.pinned (.plain (OpenSpec.ofChange linkSendsSpec)) linkSendsCard

/-- THE TIED CARD OF 'typebarlaw09.LinkTurns'. -/
def linkTurnsCard : Claim7 := { stood := { row := linkTurnsRow, standIns := [], harness := (true, "7d1108439c39397386fadfb8f63b3d76591115abe6f7079327c50654ea9764fb"), looks := false }, kinds := [], alts := [], laidByText := true, laidKinds := [.data, .data, .data, .data], laidTests := true, laidLooks := .later }
def LinkTurnsCardSaid : Prop := Claim7.holds Tryd.pinned (.plain (OpenSpec.ofChange linkTurnsSpec)) linkTurnsCard

/-- THE TIED CARD OF 'typebarlaw09.LinkStays'. -/
def linkStaysCard : Claim7 := { stood := { row := linkStaysRow, standIns := [], harness := (true, "7d1108439c39397386fadfb8f63b3d76591115abe6f7079327c50654ea9764fb"), looks := false }, kinds := [], alts := [], laidByText := true, laidKinds := [.data, .data, .data, .data], laidTests := true, laidLooks := .later }
def LinkStaysCardSaid : Prop := Claim7.holds Tryd.pinned (.plain (OpenSpec.ofChange linkStaysSpec)) linkStaysCard

/-- THE TIED CARD OF 'typebarlaw09.LinkGrants'. -/
def linkGrantsCard : Claim7 := { stood := { row := linkGrantsRow, standIns := [], harness := (true, "7d1108439c39397386fadfb8f63b3d76591115abe6f7079327c50654ea9764fb"), looks := false }, kinds := [], alts := [], laidByText := true, laidKinds := [.data, .data, .data, .data], laidTests := true, laidLooks := .later }
def LinkGrantsCardSaid : Prop := Claim7.holds Tryd.pinned (.plain (OpenSpec.ofChange linkGrantsSpec)) linkGrantsCard

/-- THE TIED CARD OF 'typebarlaw09.LinkParts'. -/
def linkPartsCard : Claim7 := { stood := { row := linkPartsRow, standIns := [], harness := (true, "7d1108439c39397386fadfb8f63b3d76591115abe6f7079327c50654ea9764fb"), looks := false }, kinds := [], alts := [], laidByText := true, laidKinds := [.data, .data, .data, .data], laidTests := true, laidLooks := .later }
def LinkPartsCardSaid : Prop := Claim7.holds Tryd.pinned (.plain (OpenSpec.ofChange linkPartsSpec)) linkPartsCard

/-- THE TIED CARD OF 'typebarlaw09.LinkDrops'. -/
def linkDropsCard : Claim7 := { stood := { row := linkDropsRow, standIns := [], harness := (true, "7d1108439c39397386fadfb8f63b3d76591115abe6f7079327c50654ea9764fb"), looks := false }, kinds := [], alts := [], laidByText := true, laidKinds := [.data, .data, .data, .data], laidTests := true, laidLooks := .later }
def LinkDropsCardSaid : Prop := Claim7.holds Tryd.pinned (.plain (OpenSpec.ofChange linkDropsSpec)) linkDropsCard

/-- THE SECOND FORM's CARD OF 'typebarlaw09.LinkOffers'. -/
def linkOffersUptoCard : Claim7 := { stood := { row := linkOffersUptoRow, standIns := [], harness := (true, "7d1108439c39397386fadfb8f63b3d76591115abe6f7079327c50654ea9764fb"), looks := false }, kinds := [], alts := [], laidByText := true, laidKinds := [.data, .data, .data, .data], laidTests := true, laidLooks := .later }
def LinkOffersUptoCardSaid : Prop := Claim7.holds Tryd.pinned (.plain (OpenSpec.upto linkOffersSpec)) linkOffersUptoCard

/-- THE SECOND FORM's CARD OF 'typebarlaw09.LinkSends'. -/
def linkSendsUptoCard : Claim7 := { stood := { row := linkSendsUptoRow, standIns := [], harness := (true, "7d1108439c39397386fadfb8f63b3d76591115abe6f7079327c50654ea9764fb"), looks := false }, kinds := [], alts := [], laidByText := true, laidKinds := [.data, .data, .data, .data], laidTests := true, laidLooks := .later }
def LinkSendsUptoCardSaid : Prop := Claim7.holds Tryd.pinned (.plain (OpenSpec.upto linkSendsSpec)) linkSendsUptoCard

/-- THE SECOND FORM's CARD OF 'typebarlaw09.LinkTurns'. -/
def linkTurnsUptoCard : Claim7 := { stood := { row := linkTurnsUptoRow, standIns := [], harness := (true, "7d1108439c39397386fadfb8f63b3d76591115abe6f7079327c50654ea9764fb"), looks := false }, kinds := [], alts := [], laidByText := true, laidKinds := [.data, .data, .data, .data], laidTests := true, laidLooks := .later }
def LinkTurnsUptoCardSaid : Prop := Claim7.holds Tryd.pinned (.plain (OpenSpec.upto linkTurnsSpec)) linkTurnsUptoCard

/-- THE SECOND FORM's CARD OF 'typebarlaw09.LinkStays'. -/
def linkStaysUptoCard : Claim7 := { stood := { row := linkStaysUptoRow, standIns := [], harness := (true, "7d1108439c39397386fadfb8f63b3d76591115abe6f7079327c50654ea9764fb"), looks := false }, kinds := [], alts := [], laidByText := true, laidKinds := [.data, .data, .data, .data], laidTests := true, laidLooks := .later }
def LinkStaysUptoCardSaid : Prop := Claim7.holds Tryd.pinned (.plain (OpenSpec.upto linkStaysSpec)) linkStaysUptoCard

/-- THE SECOND FORM's CARD OF 'typebarlaw09.LinkGrants'. -/
def linkGrantsUptoCard : Claim7 := { stood := { row := linkGrantsUptoRow, standIns := [], harness := (true, "7d1108439c39397386fadfb8f63b3d76591115abe6f7079327c50654ea9764fb"), looks := false }, kinds := [], alts := [], laidByText := true, laidKinds := [.data, .data, .data, .data], laidTests := true, laidLooks := .later }
def LinkGrantsUptoCardSaid : Prop := Claim7.holds Tryd.pinned (.plain (OpenSpec.upto linkGrantsSpec)) linkGrantsUptoCard

/-- THE SECOND FORM's CARD OF 'typebarlaw09.LinkParts'. -/
def linkPartsUptoCard : Claim7 := { stood := { row := linkPartsUptoRow, standIns := [], harness := (true, "7d1108439c39397386fadfb8f63b3d76591115abe6f7079327c50654ea9764fb"), looks := false }, kinds := [], alts := [], laidByText := true, laidKinds := [.data, .data, .data, .data], laidTests := true, laidLooks := .later }
def LinkPartsUptoCardSaid : Prop := Claim7.holds Tryd.pinned (.plain (OpenSpec.upto linkPartsSpec)) linkPartsUptoCard

/-- THE SECOND FORM's CARD OF 'typebarlaw09.LinkDrops'. -/
def linkDropsUptoCard : Claim7 := { stood := { row := linkDropsUptoRow, standIns := [], harness := (true, "7d1108439c39397386fadfb8f63b3d76591115abe6f7079327c50654ea9764fb"), looks := false }, kinds := [], alts := [], laidByText := true, laidKinds := [.data, .data, .data, .data], laidTests := true, laidLooks := .later }
def LinkDropsUptoCardSaid : Prop := Claim7.holds Tryd.pinned (.plain (OpenSpec.upto linkDropsSpec)) linkDropsUptoCard
end Rows
end Go.Proofs.YtgpebdoafblacaaDoor
