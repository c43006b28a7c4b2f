/-
  DERIVED. GIVEN WITH THE SEED: THE CARDS: each row of YtapgogfibonglaaDoorRows.lean that lists a variable, with what it lists TIED to the program's text (the seventh form; the later family's looks); each row that meets fmt, with fmt's text TOLD by the authors' own Lean function (tested against real Go, not proved from fmt's source: count such statements apart). THE CARD IS WHAT COUNTS. Prove the row's statement (the work); the ties are given (YtapgogfibonglaaDoorTie.lean); close each card by the builder's one call (the guide's Derived/Test/ToyasCard.lean, 'card_holds'). Laid BY PROGRAM, IN A SANDBOX (cutbox-door.mjs). By AI agents, Wed Nov 11 2026. No macro, syntax, notation, axiom, sorry.
-/
import Derived.Test.YtapgogfibonglaaDoorRows
import GoSem.ClaimSeven
namespace Go.Proofs.YtapgogfibonglaaDoor
namespace Rows

/-- THE TIED CARD OF 'typebarlaw02.WideCells'. -/
def wideCellsCard : Claim7 := { stood := { row := wideCellsRow, standIns := [], harness := (true, "58aa17ac8c04bbebbc13cb0f36da406ab48cdc1f08a53809ef7de60a5a680ffc"), looks := false }, kinds := [], alts := [], laidByText := true, laidKinds := [.data], laidTests := true, laidLooks := .later }
def WideCellsCardSaid : Prop := Claim7.holds Tryd.pinned (.plain (OpenSpec.ofChange wideCellsSpec)) wideCellsCard

/-- THE TIED CARD OF 'typebarlaw02.WideIs'. -/
def wideIsCard : Claim7 := { stood := { row := wideIsRow, standIns := [], harness := (true, "58aa17ac8c04bbebbc13cb0f36da406ab48cdc1f08a53809ef7de60a5a680ffc"), looks := false }, kinds := [], alts := [], laidByText := true, laidKinds := [.data], laidTests := true, laidLooks := .later }
def WideIsCardSaid : Prop := Claim7.holds Tryd.pinned (.plain (OpenSpec.ofChange wideIsSpec)) wideIsCard

/-- THE TIED CARD OF 'typebarlaw02.WideRows'. -/
def wideRowsCard : Claim7 := { stood := { row := wideRowsRow, standIns := [], harness := (true, "58aa17ac8c04bbebbc13cb0f36da406ab48cdc1f08a53809ef7de60a5a680ffc"), looks := false }, kinds := [], alts := [], laidByText := true, laidKinds := [.data], laidTests := true, laidLooks := .later }
def WideRowsCardSaid : Prop := Claim7.holds Tryd.pinned (.plain (OpenSpec.ofChange wideRowsSpec)) wideRowsCard

/-- THE TIED CARD OF 'typebarlaw02.WideJoins'. -/
def wideJoinsCard : Claim7 := { stood := { row := wideJoinsRow, standIns := [], harness := (true, "58aa17ac8c04bbebbc13cb0f36da406ab48cdc1f08a53809ef7de60a5a680ffc"), looks := false }, kinds := [], alts := [], laidByText := true, laidKinds := [.data], laidTests := true, laidLooks := .later }
def WideJoinsCardSaid : Prop := Claim7.holds Tryd.pinned (.plain (OpenSpec.ofChange wideJoinsSpec)) wideJoinsCard

/-- THE TIED CARD OF 'typebarlaw02.WideHalves'. -/
def wideHalvesCard : Claim7 := { stood := { row := wideHalvesRow, standIns := [], harness := (true, "58aa17ac8c04bbebbc13cb0f36da406ab48cdc1f08a53809ef7de60a5a680ffc"), looks := false }, kinds := [], alts := [], laidByText := true, laidKinds := [.data], laidTests := true, laidLooks := .later }
def WideHalvesCardSaid : Prop := Claim7.holds Tryd.pinned (.plain (OpenSpec.ofChange wideHalvesSpec)) wideHalvesCard

/-- THE SECOND FORM's CARD OF 'typebarlaw02.WideCells'. -/
def wideCellsUptoCard : Claim7 := { stood := { row := wideCellsUptoRow, standIns := [], harness := (true, "58aa17ac8c04bbebbc13cb0f36da406ab48cdc1f08a53809ef7de60a5a680ffc"), looks := false }, kinds := [], alts := [], laidByText := true, laidKinds := [.data], laidTests := true, laidLooks := .later }
def WideCellsUptoCardSaid : Prop := Claim7.holds Tryd.pinned (.plain (OpenSpec.upto wideCellsSpec)) wideCellsUptoCard

/-- THE SECOND FORM's CARD OF 'typebarlaw02.WideIs'. -/
def wideIsUptoCard : Claim7 := { stood := { row := wideIsUptoRow, standIns := [], harness := (true, "58aa17ac8c04bbebbc13cb0f36da406ab48cdc1f08a53809ef7de60a5a680ffc"), looks := false }, kinds := [], alts := [], laidByText := true, laidKinds := [.data], laidTests := true, laidLooks := .later }
def WideIsUptoCardSaid : Prop := Claim7.holds Tryd.pinned (.plain (OpenSpec.upto wideIsSpec)) wideIsUptoCard

/-- THE SECOND FORM's CARD OF 'typebarlaw02.WideRows'. -/
def wideRowsUptoCard : Claim7 := { stood := { row := wideRowsUptoRow, standIns := [], harness := (true, "58aa17ac8c04bbebbc13cb0f36da406ab48cdc1f08a53809ef7de60a5a680ffc"), looks := false }, kinds := [], alts := [], laidByText := true, laidKinds := [.data], laidTests := true, laidLooks := .later }
def WideRowsUptoCardSaid : Prop := Claim7.holds Tryd.pinned (.plain (OpenSpec.upto wideRowsSpec)) wideRowsUptoCard

/-- THE SECOND FORM's CARD OF 'typebarlaw02.WideJoins'. -/
def wideJoinsUptoCard : Claim7 := { stood := { row := wideJoinsUptoRow, standIns := [], harness := (true, "58aa17ac8c04bbebbc13cb0f36da406ab48cdc1f08a53809ef7de60a5a680ffc"), looks := false }, kinds := [], alts := [], laidByText := true, laidKinds := [.data], laidTests := true, laidLooks := .later }
def WideJoinsUptoCardSaid : Prop := Claim7.holds Tryd.pinned (.plain (OpenSpec.upto wideJoinsSpec)) wideJoinsUptoCard

/-- THE SECOND FORM's CARD OF 'typebarlaw02.WideHalves'. -/
def wideHalvesUptoCard : Claim7 := { stood := { row := wideHalvesUptoRow, standIns := [], harness := (true, "58aa17ac8c04bbebbc13cb0f36da406ab48cdc1f08a53809ef7de60a5a680ffc"), looks := false }, kinds := [], alts := [], laidByText := true, laidKinds := [.data], laidTests := true, laidLooks := .later }
def WideHalvesUptoCardSaid : Prop := Claim7.holds Tryd.pinned (.plain (OpenSpec.upto wideHalvesSpec)) wideHalvesUptoCard
end Rows
end Go.Proofs.YtapgogfibonglaaDoor
