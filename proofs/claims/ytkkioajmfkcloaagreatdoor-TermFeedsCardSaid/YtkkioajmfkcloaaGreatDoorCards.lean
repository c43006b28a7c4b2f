/-
  DERIVED. GIVEN WITH THE SEED: THE CARDS: each row of YtkkioajmfkcloaaGreatDoorRows.lean that lists a variable, with what it lists TIED to the program's text (the seventh form; the later family's looks); each row that meets fmt, with fmt's text TOLD by the authors' own Lean function (tested against real Go, not proved from fmt's source: count such statements apart). THE CARD IS WHAT COUNTS. Prove the row's statement (the work); the ties are given (YtkkioajmfkcloaaGreatDoorTie.lean); close each card by the builder's one call (the guide's Derived/Test/ToyasCard.lean, 'card_holds'). Laid BY PROGRAM, IN A SANDBOX (cutbox-door.mjs). By AI agents, Wed Nov 11 2026. No macro, syntax, notation, axiom, sorry.
-/
import Derived.Test.YtkkioajmfkcloaaGreatDoorRows
import GoSem.ClaimSeven
namespace Go.Proofs.YtkkioajmfkcloaaGreatDoor
namespace Rows

/-- THE TIED CARD OF 'typebarlaw07.TermDoes'. -/
def termDoesCard : Claim7 := { stood := { row := termDoesRow, standIns := [], harness := (true, "d9b5869f79930c154e508ff1e20fafdc9552e8c85892f677581579def8df37a3"), looks := true }, kinds := [], alts := [], laidByText := true, laidKinds := [.data, .data, .data, .data, .data, .data, .data, .pinned], laidTests := true, laidLooks := .later }
def TermDoesCardSaid : Prop := Claim7.holds Tryz.pinned (.plain (OpenSpec.ofChange termDoesSpec)) termDoesCard

/-- THE TIED CARD OF 'typebarlaw07.TermFeeds'. -/
def termFeedsCard : Claim7 := { stood := { row := termFeedsRow, standIns := [], harness := (true, "d9b5869f79930c154e508ff1e20fafdc9552e8c85892f677581579def8df37a3"), looks := true }, kinds := [], alts := [], laidByText := true, laidKinds := [.data, .data, .data, .data, .data, .data, .data, .pinned], laidTests := true, laidLooks := .later }
def TermFeedsCardSaid : Prop := Claim7.holds Tryz.pinned (.plain (OpenSpec.ofChange termFeedsSpec)) termFeedsCard

/-- THE SECOND FORM's CARD OF 'typebarlaw07.TermDoes'. -/
def termDoesUptoCard : Claim7 := { stood := { row := termDoesUptoRow, standIns := [], harness := (true, "d9b5869f79930c154e508ff1e20fafdc9552e8c85892f677581579def8df37a3"), looks := true }, kinds := [], alts := [], laidByText := true, laidKinds := [.data, .data, .data, .data, .data, .data, .data, .pinned], laidTests := true, laidLooks := .later }
def TermDoesUptoCardSaid : Prop := Claim7.holds Tryz.pinned (.plain (OpenSpec.upto termDoesSpec)) termDoesUptoCard

/-- THE SECOND FORM's CARD OF 'typebarlaw07.TermFeeds'. -/
def termFeedsUptoCard : Claim7 := { stood := { row := termFeedsUptoRow, standIns := [], harness := (true, "d9b5869f79930c154e508ff1e20fafdc9552e8c85892f677581579def8df37a3"), looks := true }, kinds := [], alts := [], laidByText := true, laidKinds := [.data, .data, .data, .data, .data, .data, .data, .pinned], laidTests := true, laidLooks := .later }
def TermFeedsUptoCardSaid : Prop := Claim7.holds Tryz.pinned (.plain (OpenSpec.upto termFeedsSpec)) termFeedsUptoCard
end Rows
end Go.Proofs.YtkkioajmfkcloaaGreatDoor
