/-
  DERIVED. GIVEN WITH THE SEED: THE CARDS: each row of YtjojbhlhfjaacaaDoorRows.lean that lists a variable, with what it lists TIED to the program's text (the seventh form; the later family's looks); each row that meets fmt, with fmt's text TOLD by the authors' own Lean function (tested against real Go, not proved from fmt's source: count such statements apart). THE CARD IS WHAT COUNTS. Prove the row's statement (the work); the ties are given (YtjojbhlhfjaacaaDoorTie.lean); close each card by the builder's one call (the guide's Derived/Test/ToyasCard.lean, 'card_holds'). Laid BY PROGRAM, IN A SANDBOX (cutbox-door.mjs). By AI agents, Wed Nov 11 2026. No macro, syntax, notation, axiom, sorry.
-/
import Derived.Test.YtjojbhlhfjaacaaDoorRows
import GoSem.ClaimSeven
namespace Go.Proofs.YtjojbhlhfjaacaaDoor
namespace Rows

/-- THE TIED CARD OF 'typebarlaw04.FlowDoes'. -/
def flowDoesCard : Claim7 := { stood := { row := flowDoesRow, standIns := [], harness := (true, "a2c5c029e8ee406d9cc2d062865eda2fefcd6ecc5bb0c9fa1c75e9225dea3354"), looks := false }, kinds := [], alts := [], laidByText := true, laidKinds := [.data, .data], laidTests := true, laidLooks := .later }
def FlowDoesCardSaid : Prop := Claim7.holds Tryd.pinned (.plain (OpenSpec.ofChange flowDoesSpec)) flowDoesCard

/-- THE TIED CARD OF 'typebarlaw04.FlowLays'. -/
def flowLaysCard : Claim7 := { stood := { row := flowLaysRow, standIns := [], harness := (true, "a2c5c029e8ee406d9cc2d062865eda2fefcd6ecc5bb0c9fa1c75e9225dea3354"), looks := false }, kinds := [], alts := [], laidByText := true, laidKinds := [.data, .data], laidTests := true, laidLooks := .later }
def FlowLaysCardSaid : Prop := Claim7.holds Tryd.pinned (.plain (OpenSpec.ofChange flowLaysSpec)) flowLaysCard

/-- THE TIED CARD OF 'typebarlaw04.FlowCells'. -/
def flowCellsCard : Claim7 := { stood := { row := flowCellsRow, standIns := [], harness := (true, "a2c5c029e8ee406d9cc2d062865eda2fefcd6ecc5bb0c9fa1c75e9225dea3354"), looks := false }, kinds := [], alts := [], laidByText := true, laidKinds := [.data, .data], laidTests := true, laidLooks := .later }
def FlowCellsCardSaid : Prop := Claim7.holds Tryd.pinned (.plain (OpenSpec.ofChange flowCellsSpec)) flowCellsCard

/-- THE TIED CARD OF 'typebarlaw04.FlowWhole'. -/
def flowWholeCard : Claim7 := { stood := { row := flowWholeRow, standIns := [], harness := (true, "a2c5c029e8ee406d9cc2d062865eda2fefcd6ecc5bb0c9fa1c75e9225dea3354"), looks := false }, kinds := [], alts := [], laidByText := true, laidKinds := [.data, .data], laidTests := true, laidLooks := .later }
def FlowWholeCardSaid : Prop := Claim7.holds Tryd.pinned (.plain (OpenSpec.ofChange flowWholeSpec)) flowWholeCard

/-- THE TIED CARD OF 'typebarlaw04.FlowJoins'. -/
def flowJoinsCard : Claim7 := { stood := { row := flowJoinsRow, standIns := [], harness := (true, "a2c5c029e8ee406d9cc2d062865eda2fefcd6ecc5bb0c9fa1c75e9225dea3354"), looks := false }, kinds := [], alts := [], laidByText := true, laidKinds := [.data, .data], laidTests := true, laidLooks := .later }
def FlowJoinsCardSaid : Prop := Claim7.holds Tryd.pinned (.plain (OpenSpec.ofChange flowJoinsSpec)) flowJoinsCard

/-- THE TIED CARD OF 'typebarlaw04.FlowShows'. -/
def flowShowsCard : Claim7 := { stood := { row := flowShowsRow, standIns := [], harness := (true, "a2c5c029e8ee406d9cc2d062865eda2fefcd6ecc5bb0c9fa1c75e9225dea3354"), looks := false }, kinds := [], alts := [], laidByText := true, laidKinds := [.data, .data], laidTests := true, laidLooks := .later }
def FlowShowsCardSaid : Prop := Claim7.holds Tryd.pinned (.plain (OpenSpec.ofChange flowShowsSpec)) flowShowsCard

/-- THE SECOND FORM's CARD OF 'typebarlaw04.FlowDoes'. -/
def flowDoesUptoCard : Claim7 := { stood := { row := flowDoesUptoRow, standIns := [], harness := (true, "a2c5c029e8ee406d9cc2d062865eda2fefcd6ecc5bb0c9fa1c75e9225dea3354"), looks := false }, kinds := [], alts := [], laidByText := true, laidKinds := [.data, .data], laidTests := true, laidLooks := .later }
def FlowDoesUptoCardSaid : Prop := Claim7.holds Tryd.pinned (.plain (OpenSpec.upto flowDoesSpec)) flowDoesUptoCard

/-- THE SECOND FORM's CARD OF 'typebarlaw04.FlowLays'. -/
def flowLaysUptoCard : Claim7 := { stood := { row := flowLaysUptoRow, standIns := [], harness := (true, "a2c5c029e8ee406d9cc2d062865eda2fefcd6ecc5bb0c9fa1c75e9225dea3354"), looks := false }, kinds := [], alts := [], laidByText := true, laidKinds := [.data, .data], laidTests := true, laidLooks := .later }
def FlowLaysUptoCardSaid : Prop := Claim7.holds Tryd.pinned (.plain (OpenSpec.upto flowLaysSpec)) flowLaysUptoCard

/-- THE SECOND FORM's CARD OF 'typebarlaw04.FlowCells'. -/
def flowCellsUptoCard : Claim7 := { stood := { row := flowCellsUptoRow, standIns := [], harness := (true, "a2c5c029e8ee406d9cc2d062865eda2fefcd6ecc5bb0c9fa1c75e9225dea3354"), looks := false }, kinds := [], alts := [], laidByText := true, laidKinds := [.data, .data], laidTests := true, laidLooks := .later }
def FlowCellsUptoCardSaid : Prop := Claim7.holds Tryd.pinned (.plain (OpenSpec.upto flowCellsSpec)) flowCellsUptoCard

/-- THE SECOND FORM's CARD OF 'typebarlaw04.FlowWhole'. -/
def flowWholeUptoCard : Claim7 := { stood := { row := flowWholeUptoRow, standIns := [], harness := (true, "a2c5c029e8ee406d9cc2d062865eda2fefcd6ecc5bb0c9fa1c75e9225dea3354"), looks := false }, kinds := [], alts := [], laidByText := true, laidKinds := [.data, .data], laidTests := true, laidLooks := .later }
def FlowWholeUptoCardSaid : Prop := Claim7.holds Tryd.pinned (.plain (OpenSpec.upto flowWholeSpec)) flowWholeUptoCard

/-- THE SECOND FORM's CARD OF 'typebarlaw04.FlowJoins'. -/
def flowJoinsUptoCard : Claim7 := { stood := { row := flowJoinsUptoRow, standIns := [], harness := (true, "a2c5c029e8ee406d9cc2d062865eda2fefcd6ecc5bb0c9fa1c75e9225dea3354"), looks := false }, kinds := [], alts := [], laidByText := true, laidKinds := [.data, .data], laidTests := true, laidLooks := .later }
def FlowJoinsUptoCardSaid : Prop := Claim7.holds Tryd.pinned (.plain (OpenSpec.upto flowJoinsSpec)) flowJoinsUptoCard

/-- THE SECOND FORM's CARD OF 'typebarlaw04.FlowShows'. -/
def flowShowsUptoCard : Claim7 := { stood := { row := flowShowsUptoRow, standIns := [], harness := (true, "a2c5c029e8ee406d9cc2d062865eda2fefcd6ecc5bb0c9fa1c75e9225dea3354"), looks := false }, kinds := [], alts := [], laidByText := true, laidKinds := [.data, .data], laidTests := true, laidLooks := .later }
def FlowShowsUptoCardSaid : Prop := Claim7.holds Tryd.pinned (.plain (OpenSpec.upto flowShowsSpec)) flowShowsUptoCard
end Rows
end Go.Proofs.YtjojbhlhfjaacaaDoor
