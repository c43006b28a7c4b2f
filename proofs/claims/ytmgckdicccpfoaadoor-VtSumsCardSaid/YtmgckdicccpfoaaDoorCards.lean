/-
  DERIVED. GIVEN WITH THE SEED: THE CARDS: each row of YtmgckdicccpfoaaDoorRows.lean that lists a variable, with what it lists TIED to the program's text (the seventh form; the later family's looks); each row that meets fmt, with fmt's text TOLD by the authors' own Lean function (tested against real Go, not proved from fmt's source: count such statements apart). THE CARD IS WHAT COUNTS. Prove the row's statement (the work); the ties are given (YtmgckdicccpfoaaDoorTie.lean); close each card by the builder's one call (the guide's Derived/Test/ToyasCard.lean, 'card_holds'). Laid BY PROGRAM, IN A SANDBOX (cutbox-door.mjs). By AI agents, Wed Nov 11 2026. No macro, syntax, notation, axiom, sorry.
-/
import Derived.Test.YtmgckdicccpfoaaDoorRows
import GoSem.ClaimSeven
namespace Go.Proofs.YtmgckdicccpfoaaDoor
namespace Rows

/-- THE TIED CARD OF 'typebarlaw05.VtPuts'. -/
def vtPutsCard : Claim7 := { stood := { row := vtPutsRow, standIns := [], harness := (true, "565eb1b8d7e815c91a31606e3fd356d6ddc04fb0a92d51e8970806e088930c53"), looks := false }, kinds := [], alts := [], laidByText := true, laidKinds := [.data, .data, .data, .data], laidTests := true, laidLooks := .later }
def VtPutsCardSaid : Prop := Claim7.holds Tryd.pinned (.plain (OpenSpec.ofChange vtPutsSpec)) vtPutsCard

/-- THE TIED CARD OF 'typebarlaw05.VtCosts'. -/
def vtCostsCard : Claim7 := { stood := { row := vtCostsRow, standIns := [], harness := (true, "565eb1b8d7e815c91a31606e3fd356d6ddc04fb0a92d51e8970806e088930c53"), looks := false }, kinds := [], alts := [], laidByText := true, laidKinds := [.data, .data, .data, .data], laidTests := true, laidLooks := .later }
def VtCostsCardSaid : Prop := Claim7.holds Tryd.pinned (.plain (OpenSpec.ofChange vtCostsSpec)) vtCostsCard

/-- THE TIED CARD OF 'typebarlaw05.VtUnlike'. -/
def vtUnlikeCard : Claim7 := { stood := { row := vtUnlikeRow, standIns := [], harness := (true, "565eb1b8d7e815c91a31606e3fd356d6ddc04fb0a92d51e8970806e088930c53"), looks := false }, kinds := [], alts := [], laidByText := true, laidKinds := [.data, .data, .data, .data], laidTests := true, laidLooks := .later }
def VtUnlikeCardSaid : Prop := Claim7.holds Tryd.pinned (.plain (OpenSpec.ofChange vtUnlikeSpec)) vtUnlikeCard

/-- THE TIED CARD OF 'typebarlaw05.VtShort'. -/
def vtShortCard : Claim7 := { stood := { row := vtShortRow, standIns := [], harness := (true, "565eb1b8d7e815c91a31606e3fd356d6ddc04fb0a92d51e8970806e088930c53"), looks := false }, kinds := [], alts := [], laidByText := true, laidKinds := [.data, .data, .data, .data], laidTests := true, laidLooks := .later }
def VtShortCardSaid : Prop := Claim7.holds Tryd.pinned (.plain (OpenSpec.ofChange vtShortSpec)) vtShortCard

/-- THE TIED CARD OF 'typebarlaw05.VtSums'. -/
def vtSumsCard : Claim7 := { stood := { row := vtSumsRow, standIns := [], harness := (true, "565eb1b8d7e815c91a31606e3fd356d6ddc04fb0a92d51e8970806e088930c53"), looks := false }, kinds := [], alts := [], laidByText := true, laidKinds := [.data, .data, .data, .data], laidTests := true, laidLooks := .later }
def VtSumsCardSaid : Prop := Claim7.holds Tryd.pinned (.plain (OpenSpec.ofChange vtSumsSpec)) vtSumsCard

/-- THE SECOND FORM's CARD OF 'typebarlaw05.VtPuts'. -/
def vtPutsUptoCard : Claim7 := { stood := { row := vtPutsUptoRow, standIns := [], harness := (true, "565eb1b8d7e815c91a31606e3fd356d6ddc04fb0a92d51e8970806e088930c53"), looks := false }, kinds := [], alts := [], laidByText := true, laidKinds := [.data, .data, .data, .data], laidTests := true, laidLooks := .later }
def VtPutsUptoCardSaid : Prop := Claim7.holds Tryd.pinned (.plain (OpenSpec.upto vtPutsSpec)) vtPutsUptoCard

/-- THE SECOND FORM's CARD OF 'typebarlaw05.VtCosts'. -/
def vtCostsUptoCard : Claim7 := { stood := { row := vtCostsUptoRow, standIns := [], harness := (true, "565eb1b8d7e815c91a31606e3fd356d6ddc04fb0a92d51e8970806e088930c53"), looks := false }, kinds := [], alts := [], laidByText := true, laidKinds := [.data, .data, .data, .data], laidTests := true, laidLooks := .later }
def VtCostsUptoCardSaid : Prop := Claim7.holds Tryd.pinned (.plain (OpenSpec.upto vtCostsSpec)) vtCostsUptoCard

/-- THE SECOND FORM's CARD OF 'typebarlaw05.VtUnlike'. -/
def vtUnlikeUptoCard : Claim7 := { stood := { row := vtUnlikeUptoRow, standIns := [], harness := (true, "565eb1b8d7e815c91a31606e3fd356d6ddc04fb0a92d51e8970806e088930c53"), looks := false }, kinds := [], alts := [], laidByText := true, laidKinds := [.data, .data, .data, .data], laidTests := true, laidLooks := .later }
def VtUnlikeUptoCardSaid : Prop := Claim7.holds Tryd.pinned (.plain (OpenSpec.upto vtUnlikeSpec)) vtUnlikeUptoCard

/-- THE SECOND FORM's CARD OF 'typebarlaw05.VtShort'. -/
def vtShortUptoCard : Claim7 := { stood := { row := vtShortUptoRow, standIns := [], harness := (true, "565eb1b8d7e815c91a31606e3fd356d6ddc04fb0a92d51e8970806e088930c53"), looks := false }, kinds := [], alts := [], laidByText := true, laidKinds := [.data, .data, .data, .data], laidTests := true, laidLooks := .later }
def VtShortUptoCardSaid : Prop := Claim7.holds Tryd.pinned (.plain (OpenSpec.upto vtShortSpec)) vtShortUptoCard

/-- THE SECOND FORM's CARD OF 'typebarlaw05.VtSums'. -/
def vtSumsUptoCard : Claim7 := { stood := { row := vtSumsUptoRow, standIns := [], harness := (true, "565eb1b8d7e815c91a31606e3fd356d6ddc04fb0a92d51e8970806e088930c53"), looks := false }, kinds := [], alts := [], laidByText := true, laidKinds := [.data, .data, .data, .data], laidTests := true, laidLooks := .later }
def VtSumsUptoCardSaid : Prop := Claim7.holds Tryd.pinned (.plain (OpenSpec.upto vtSumsSpec)) vtSumsUptoCard
end Rows
end Go.Proofs.YtmgckdicccpfoaaDoor
