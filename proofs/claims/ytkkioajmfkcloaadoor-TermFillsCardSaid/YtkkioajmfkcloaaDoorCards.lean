/-
  DERIVED. GIVEN WITH THE SEED: THE CARDS: each row of YtkkioajmfkcloaaDoorRows.lean that lists a variable, with what it lists TIED to the program's text (the seventh form; the later family's looks); each row that meets fmt, with fmt's text TOLD by the authors' own Lean function (tested against real Go, not proved from fmt's source: count such statements apart). THE CARD IS WHAT COUNTS. Prove the row's statement (the work); the ties are given (YtkkioajmfkcloaaDoorTie.lean); close each card by the builder's one call (the guide's Derived/Test/ToyasCard.lean, 'card_holds'). Laid BY PROGRAM, IN A SANDBOX (cutbox-door.mjs). By AI agents, Wed Nov 11 2026. No macro, syntax, notation, axiom, sorry.
-/
import Derived.Test.YtkkioajmfkcloaaDoorRows
import GoSem.ClaimSeven
namespace Go.Proofs.YtkkioajmfkcloaaDoor
namespace Rows

/-- THE TIED CARD OF 'typebarlaw07.TermSizes'. -/
def termSizesCard : Claim7 := { stood := { row := termSizesRow, standIns := [], harness := (true, "fe03e08450bc32707cfd3e5693499603b9f81258e8f6c875b9683e2ce51427f1"), looks := true }, kinds := [], alts := [], laidByText := true, laidKinds := [.data, .data, .data, .data, .data, .data, .data, .pinned], laidTests := true, laidLooks := .later }
def TermSizesCardSaid : Prop := Claim7.holds Tryd.pinned (.plain (OpenSpec.ofChange termSizesSpec)) termSizesCard

/-- THE TIED CARD OF 'typebarlaw07.TermFills'. -/
def termFillsCard : Claim7 := { stood := { row := termFillsRow, standIns := [], harness := (true, "fe03e08450bc32707cfd3e5693499603b9f81258e8f6c875b9683e2ce51427f1"), looks := true }, kinds := [], alts := [], laidByText := true, laidKinds := [.data, .data, .data, .data, .data, .data, .data, .pinned], laidTests := true, laidLooks := .later }
def TermFillsCardSaid : Prop := Claim7.holds Tryd.pinned (.plain (OpenSpec.ofChange termFillsSpec)) termFillsCard

/-- THE SECOND FORM's CARD OF 'typebarlaw07.TermSizes'. -/
def termSizesUptoCard : Claim7 := { stood := { row := termSizesUptoRow, standIns := [], harness := (true, "fe03e08450bc32707cfd3e5693499603b9f81258e8f6c875b9683e2ce51427f1"), looks := true }, kinds := [], alts := [], laidByText := true, laidKinds := [.data, .data, .data, .data, .data, .data, .data, .pinned], laidTests := true, laidLooks := .later }
def TermSizesUptoCardSaid : Prop := Claim7.holds Tryd.pinned (.plain (OpenSpec.upto termSizesSpec)) termSizesUptoCard

/-- THE SECOND FORM's CARD OF 'typebarlaw07.TermFills'. -/
def termFillsUptoCard : Claim7 := { stood := { row := termFillsUptoRow, standIns := [], harness := (true, "fe03e08450bc32707cfd3e5693499603b9f81258e8f6c875b9683e2ce51427f1"), looks := true }, kinds := [], alts := [], laidByText := true, laidKinds := [.data, .data, .data, .data, .data, .data, .data, .pinned], laidTests := true, laidLooks := .later }
def TermFillsUptoCardSaid : Prop := Claim7.holds Tryd.pinned (.plain (OpenSpec.upto termFillsSpec)) termFillsUptoCard
end Rows
end Go.Proofs.YtkkioajmfkcloaaDoor
