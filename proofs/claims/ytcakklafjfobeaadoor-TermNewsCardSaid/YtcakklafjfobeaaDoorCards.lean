/-
  DERIVED. GIVEN WITH THE SEED: THE CARDS: each row of YtcakklafjfobeaaDoorRows.lean that lists a variable, with what it lists TIED to the program's text (the seventh form; the later family's looks); each row that meets fmt, with fmt's text TOLD by the authors' own Lean function (tested against real Go, not proved from fmt's source: count such statements apart). THE CARD IS WHAT COUNTS. Prove the row's statement (the work); the ties are given (YtcakklafjfobeaaDoorTie.lean); close each card by the builder's one call (the guide's Derived/Test/ToyasCard.lean, 'card_holds'). Laid BY PROGRAM, IN A SANDBOX (cutbox-door.mjs). By AI agents, Wed Nov 11 2026. No macro, syntax, notation, axiom, sorry.
-/
import Derived.Test.YtcakklafjfobeaaDoorRows
import GoSem.ClaimSeven
namespace Go.Proofs.YtcakklafjfobeaaDoor
namespace Rows

/-- THE TIED CARD OF 'typebarlaw07.TermNews'. -/
def termNewsCard : Claim7 := { stood := { row := termNewsRow, standIns := [], harness := (true, "ffd0cc493c26fc34e0d7caeae07d39a5f52f317264a358076ae4528c49e0f78e"), looks := true }, kinds := [], alts := [], laidByText := true, laidKinds := [.data, .data, .data, .data, .data, .data, .data, .pinned], laidTests := true, laidLooks := .later }
def TermNewsCardSaid : Prop := Claim7.holds Tryd.pinned (.plain (OpenSpec.ofChange termNewsSpec)) termNewsCard

/-- THE TIED CARD OF 'typebarlaw07.TermSizes'. -/
def termSizesCard : Claim7 := { stood := { row := termSizesRow, standIns := [], harness := (true, "ffd0cc493c26fc34e0d7caeae07d39a5f52f317264a358076ae4528c49e0f78e"), looks := true }, kinds := [], alts := [], laidByText := true, laidKinds := [.data, .data, .data, .data, .data, .data, .data, .pinned], laidTests := true, laidLooks := .later }
def TermSizesCardSaid : Prop := Claim7.holds Tryd.pinned (.plain (OpenSpec.ofChange termSizesSpec)) termSizesCard

/-- THE TIED CARD OF 'typebarlaw07.TermStays'. -/
def termStaysCard : Claim7 := { stood := { row := termStaysRow, standIns := [], harness := (true, "ffd0cc493c26fc34e0d7caeae07d39a5f52f317264a358076ae4528c49e0f78e"), looks := true }, kinds := [], alts := [], laidByText := true, laidKinds := [.data, .data, .data, .data, .data, .data, .data, .pinned], laidTests := true, laidLooks := .later }
def TermStaysCardSaid : Prop := Claim7.holds Tryd.pinned (.plain (OpenSpec.ofChange termStaysSpec)) termStaysCard

/-- THE TIED CARD OF 'typebarlaw07.TermParts'. -/
def termPartsCard : Claim7 := { stood := { row := termPartsRow, standIns := [], harness := (true, "ffd0cc493c26fc34e0d7caeae07d39a5f52f317264a358076ae4528c49e0f78e"), looks := true }, kinds := [], alts := [], laidByText := true, laidKinds := [.data, .data, .data, .data, .data, .data, .data, .pinned], laidTests := true, laidLooks := .later }
def TermPartsCardSaid : Prop := Claim7.holds Tryd.pinned (.plain (OpenSpec.ofChange termPartsSpec)) termPartsCard

/-- THE TIED CARD OF 'typebarlaw07.TermMoves'. -/
def termMovesCard : Claim7 := { stood := { row := termMovesRow, standIns := [], harness := (true, "ffd0cc493c26fc34e0d7caeae07d39a5f52f317264a358076ae4528c49e0f78e"), looks := true }, kinds := [], alts := [], laidByText := true, laidKinds := [.data, .data, .data, .data, .data, .data, .data, .pinned], laidTests := true, laidLooks := .later }
def TermMovesCardSaid : Prop := Claim7.holds Tryd.pinned (.plain (OpenSpec.ofChange termMovesSpec)) termMovesCard

/-- THE TIED CARD OF 'typebarlaw07.TermFills'. -/
def termFillsCard : Claim7 := { stood := { row := termFillsRow, standIns := [], harness := (true, "ffd0cc493c26fc34e0d7caeae07d39a5f52f317264a358076ae4528c49e0f78e"), looks := true }, kinds := [], alts := [], laidByText := true, laidKinds := [.data, .data, .data, .data, .data, .data, .data, .pinned], laidTests := true, laidLooks := .later }
def TermFillsCardSaid : Prop := Claim7.holds Tryd.pinned (.plain (OpenSpec.ofChange termFillsSpec)) termFillsCard

/-- THE SECOND FORM's CARD OF 'typebarlaw07.TermNews'. -/
def termNewsUptoCard : Claim7 := { stood := { row := termNewsUptoRow, standIns := [], harness := (true, "ffd0cc493c26fc34e0d7caeae07d39a5f52f317264a358076ae4528c49e0f78e"), looks := true }, kinds := [], alts := [], laidByText := true, laidKinds := [.data, .data, .data, .data, .data, .data, .data, .pinned], laidTests := true, laidLooks := .later }
def TermNewsUptoCardSaid : Prop := Claim7.holds Tryd.pinned (.plain (OpenSpec.upto termNewsSpec)) termNewsUptoCard

/-- THE SECOND FORM's CARD OF 'typebarlaw07.TermSizes'. -/
def termSizesUptoCard : Claim7 := { stood := { row := termSizesUptoRow, standIns := [], harness := (true, "ffd0cc493c26fc34e0d7caeae07d39a5f52f317264a358076ae4528c49e0f78e"), looks := true }, kinds := [], alts := [], laidByText := true, laidKinds := [.data, .data, .data, .data, .data, .data, .data, .pinned], laidTests := true, laidLooks := .later }
def TermSizesUptoCardSaid : Prop := Claim7.holds Tryd.pinned (.plain (OpenSpec.upto termSizesSpec)) termSizesUptoCard

/-- THE SECOND FORM's CARD OF 'typebarlaw07.TermStays'. -/
def termStaysUptoCard : Claim7 := { stood := { row := termStaysUptoRow, standIns := [], harness := (true, "ffd0cc493c26fc34e0d7caeae07d39a5f52f317264a358076ae4528c49e0f78e"), looks := true }, kinds := [], alts := [], laidByText := true, laidKinds := [.data, .data, .data, .data, .data, .data, .data, .pinned], laidTests := true, laidLooks := .later }
def TermStaysUptoCardSaid : Prop := Claim7.holds Tryd.pinned (.plain (OpenSpec.upto termStaysSpec)) termStaysUptoCard

/-- THE SECOND FORM's CARD OF 'typebarlaw07.TermParts'. -/
def termPartsUptoCard : Claim7 := { stood := { row := termPartsUptoRow, standIns := [], harness := (true, "ffd0cc493c26fc34e0d7caeae07d39a5f52f317264a358076ae4528c49e0f78e"), looks := true }, kinds := [], alts := [], laidByText := true, laidKinds := [.data, .data, .data, .data, .data, .data, .data, .pinned], laidTests := true, laidLooks := .later }
def TermPartsUptoCardSaid : Prop := Claim7.holds Tryd.pinned (.plain (OpenSpec.upto termPartsSpec)) termPartsUptoCard

/-- THE SECOND FORM's CARD OF 'typebarlaw07.TermMoves'. -/
def termMovesUptoCard : Claim7 := { stood := { row := termMovesUptoRow, standIns := [], harness := (true, "ffd0cc493c26fc34e0d7caeae07d39a5f52f317264a358076ae4528c49e0f78e"), looks := true }, kinds := [], alts := [], laidByText := true, laidKinds := [.data, .data, .data, .data, .data, .data, .data, .pinned], laidTests := true, laidLooks := .later }
def TermMovesUptoCardSaid : Prop := Claim7.holds Tryd.pinned (.plain (OpenSpec.upto termMovesSpec)) termMovesUptoCard

/-- THE SECOND FORM's CARD OF 'typebarlaw07.TermFills'. -/
def termFillsUptoCard : Claim7 := { stood := { row := termFillsUptoRow, standIns := [], harness := (true, "ffd0cc493c26fc34e0d7caeae07d39a5f52f317264a358076ae4528c49e0f78e"), looks := true }, kinds := [], alts := [], laidByText := true, laidKinds := [.data, .data, .data, .data, .data, .data, .data, .pinned], laidTests := true, laidLooks := .later }
def TermFillsUptoCardSaid : Prop := Claim7.holds Tryd.pinned (.plain (OpenSpec.upto termFillsSpec)) termFillsUptoCard
end Rows
end Go.Proofs.YtcakklafjfobeaaDoor
