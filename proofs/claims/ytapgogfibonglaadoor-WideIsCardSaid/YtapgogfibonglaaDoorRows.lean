/-
  NARROWER THAN 'FOR EVERY INPUT', by the rows' own cells (each row's printed sentence says how): WideCells: laid · WideIs: laid · WideRows: laid · WideJoins: laid · WideHalves: laid.
  DERIVED. THE GIVEN ROWS OF THIS SEAT. 5 by the template 'for every input the law returns true; each argument reads behind the call as it read before'; 0 by the template 'total and deterministic' (their statements: YtapgogfibonglaaDoorTotals.lean).
  GIVEN WITH THE SEED: the statements are not yours to turn. If you find one false, say at which input.
  Laid BY PROGRAM, IN A SANDBOX (cutbox-rows.mjs): the forced cells as the released guide's own fill.sh prints them over the translation 117f6bb753f45ea1… (all of the seat's roots in one cut). By AI agents, Wed Nov 11 2026. No macro, syntax, notation, axiom, sorry.
-/
import Derived.Test.YtapgogfibonglaaDoorChecked
import GoSem.Claim
import GoSem.ClaimJoined
import GoSem.ClaimMapViews
import Derived.JoinedTies
import Derived.KernelRfl
namespace Go.Proofs.YtapgogfibonglaaDoor
/- THE CELL 'sum', in the pinned program and in every row, IS THE sha256 OF THE DUMP (.gsa) THAT YtapgogfibonglaaDoorProg.lean LOADS. Nothing in Lean hashes anything: it is a label: what it is worth is what the hold of that sum in a sandbox is worth. -/
noncomputable def Tryd.pinned : Pinned := { name := "ytapgogfibonglaadoor", sum := "117f6bb753f45ea1873c4eda2edce3fc572db305faa261588b51bfa60efef54b", checked := Tryd.checked }
namespace Rows
def none {H : Type} : Left H := { results := [], args := [] }

/- WHAT THE LISTED PACKAGE-LEVEL VARIABLES READ AS WHEN THE CALL BEGINS. Each datum BY PROGRAM (the guide's laid-datum.mjs) off the statement by which the dump's own 'gosem.cut.vars' lays the variable. In a bare row this is a premise. The card (YtapgogfibonglaaDoorCards.lean) ties it to the program's text. -/
def laid_typebar_wide_wideSpans {H : Type} : DataW H := .slice [.agg [.lit (.int .i32 4352), .lit (.int .i32 4447)], .agg [.lit (.int .i32 11904), .lit (.int .i32 12350)], .agg [.lit (.int .i32 12353), .lit (.int .i32 42191)], .agg [.lit (.int .i32 44032), .lit (.int .i32 55203)], .agg [.lit (.int .i32 63744), .lit (.int .i32 64255)], .agg [.lit (.int .i32 65072), .lit (.int .i32 65135)], .agg [.lit (.int .i32 65281), .lit (.int .i32 65376)], .agg [.lit (.int .i32 65504), .lit (.int .i32 65510)], .agg [.lit (.int .i32 127744), .lit (.int .i32 128591)], .agg [.lit (.int .i32 129280), .lit (.int .i32 129535)], .agg [.lit (.int .i32 131072), .lit (.int .i32 262141)]] []

/-- 'typebarlaw02.WideCells': WHATEVER THE INPUT: true; the input reads as it did. -/
def wideCellsSpec : ChangeSpec := { name := "wideCells", fn := fun _ => fun
  | [d] => { results := [.lit (.bool true)], args := [d] }
  | _ => none }
def wideCellsRow : OpenClaim := { program := "ytapgogfibonglaadoor", sum := "117f6bb753f45ea1873c4eda2edce3fc572db305faa261588b51bfa60efef54b", func := "typebar/typebarlaw02.WideCells", spec := "wideCells", named := ["typebar/wide.wideSpans"], apart := false, laid := [("typebar/wide.wideSpans", laid_typebar_wide_wideSpans)] }
def WideCellsSaid : Prop := wideCellsRow.holds Tryd.pinned (OpenSpec.ofChange wideCellsSpec)

/-- ITS FALSE NEIGHBOUR: 'it returns false'. Refute it at one input. -/
def wideCellsWrong : ChangeSpec := { name := "wideCells", fn := fun _ => fun
  | [d] => { results := [.lit (.bool false)], args := [d] }
  | _ => none }
def WideCellsWrongFalsely : Prop := wideCellsRow.holds Tryd.pinned (OpenSpec.ofChange wideCellsWrong)

/-- 'typebarlaw02.WideIs': WHATEVER THE INPUT: true; the input reads as it did. -/
def wideIsSpec : ChangeSpec := { name := "wideIs", fn := fun _ => fun
  | [d] => { results := [.lit (.bool true)], args := [d] }
  | _ => none }
def wideIsRow : OpenClaim := { program := "ytapgogfibonglaadoor", sum := "117f6bb753f45ea1873c4eda2edce3fc572db305faa261588b51bfa60efef54b", func := "typebar/typebarlaw02.WideIs", spec := "wideIs", named := ["typebar/wide.wideSpans"], apart := false, laid := [("typebar/wide.wideSpans", laid_typebar_wide_wideSpans)] }
def WideIsSaid : Prop := wideIsRow.holds Tryd.pinned (OpenSpec.ofChange wideIsSpec)

/-- ITS FALSE NEIGHBOUR: 'it returns false'. Refute it at one input. -/
def wideIsWrong : ChangeSpec := { name := "wideIs", fn := fun _ => fun
  | [d] => { results := [.lit (.bool false)], args := [d] }
  | _ => none }
def WideIsWrongFalsely : Prop := wideIsRow.holds Tryd.pinned (OpenSpec.ofChange wideIsWrong)

/-- 'typebarlaw02.WideRows': WHATEVER THE INPUT: true; the input reads as it did. -/
def wideRowsSpec : ChangeSpec := { name := "wideRows", fn := fun _ => fun
  | [d] => { results := [.lit (.bool true)], args := [d] }
  | _ => none }
def wideRowsRow : OpenClaim := { program := "ytapgogfibonglaadoor", sum := "117f6bb753f45ea1873c4eda2edce3fc572db305faa261588b51bfa60efef54b", func := "typebar/typebarlaw02.WideRows", spec := "wideRows", named := ["typebar/wide.wideSpans"], apart := false, laid := [("typebar/wide.wideSpans", laid_typebar_wide_wideSpans)] }
def WideRowsSaid : Prop := wideRowsRow.holds Tryd.pinned (OpenSpec.ofChange wideRowsSpec)

/-- ITS FALSE NEIGHBOUR: 'it returns false'. Refute it at one input. -/
def wideRowsWrong : ChangeSpec := { name := "wideRows", fn := fun _ => fun
  | [d] => { results := [.lit (.bool false)], args := [d] }
  | _ => none }
def WideRowsWrongFalsely : Prop := wideRowsRow.holds Tryd.pinned (OpenSpec.ofChange wideRowsWrong)

/-- 'typebarlaw02.WideJoins': WHATEVER THE INPUT: true; the input reads as it did. -/
def wideJoinsSpec : ChangeSpec := { name := "wideJoins", fn := fun _ => fun
  | [d1, d2] => { results := [.lit (.bool true)], args := [d1, d2] }
  | _ => none }
def wideJoinsRow : OpenClaim := { program := "ytapgogfibonglaadoor", sum := "117f6bb753f45ea1873c4eda2edce3fc572db305faa261588b51bfa60efef54b", func := "typebar/typebarlaw02.WideJoins", spec := "wideJoins", named := ["typebar/wide.wideSpans"], apart := false, laid := [("typebar/wide.wideSpans", laid_typebar_wide_wideSpans)] }
def WideJoinsSaid : Prop := wideJoinsRow.holds Tryd.pinned (OpenSpec.ofChange wideJoinsSpec)

/-- ITS FALSE NEIGHBOUR: 'it returns false'. Refute it at one input. -/
def wideJoinsWrong : ChangeSpec := { name := "wideJoins", fn := fun _ => fun
  | [d1, d2] => { results := [.lit (.bool false)], args := [d1, d2] }
  | _ => none }
def WideJoinsWrongFalsely : Prop := wideJoinsRow.holds Tryd.pinned (OpenSpec.ofChange wideJoinsWrong)

/-- 'typebarlaw02.WideHalves': WHATEVER THE INPUT: true; the input reads as it did. -/
def wideHalvesSpec : ChangeSpec := { name := "wideHalves", fn := fun _ => fun
  | [d] => { results := [.lit (.bool true)], args := [d] }
  | _ => none }
def wideHalvesRow : OpenClaim := { program := "ytapgogfibonglaadoor", sum := "117f6bb753f45ea1873c4eda2edce3fc572db305faa261588b51bfa60efef54b", func := "typebar/typebarlaw02.WideHalves", spec := "wideHalves", named := ["typebar/wide.wideSpans"], apart := false, laid := [("typebar/wide.wideSpans", laid_typebar_wide_wideSpans)] }
def WideHalvesSaid : Prop := wideHalvesRow.holds Tryd.pinned (OpenSpec.ofChange wideHalvesSpec)

/-- ITS FALSE NEIGHBOUR: 'it returns false'. Refute it at one input. -/
def wideHalvesWrong : ChangeSpec := { name := "wideHalves", fn := fun _ => fun
  | [d] => { results := [.lit (.bool false)], args := [d] }
  | _ => none }
def WideHalvesWrongFalsely : Prop := wideHalvesRow.holds Tryd.pinned (OpenSpec.ofChange wideHalvesWrong)

/- THE SECOND FORM. 'bulk': how many values and letters a reading holds, each counted each time it is reached (what is shared counts as often as it is met; a slice's spare places count too). A statement '..UptoSaid' is the law's where the arguments, and the package variables that the reading takes, are together of bulk at most 1048576: NARROWER than '..Said'. Prove '..Said' where nothing that the law and all that it calls make is longer than what came in: it says more and counts as full. Else prove '..UptoSaid'. A law counts once. -/
mutual
def uptoBulk {H : Type} : DataW H → Nat
  | .lit (.string bytes) => bytes.length + 1
  | .lit _ => 1
  | .nil => 1
  | .ptr d => uptoBulk d + 1
  | .slice elems spare => uptoBulkAll elems + uptoBulkAll spare + 1
  | .agg parts => uptoBulkAll parts + 1
  | .iface _ d => uptoBulk d + 1
  | .map entries => uptoBulkEntries entries + 1
  | .held _ => 1
def uptoBulkAll {H : Type} : List (DataW H) → Nat
  | [] => 0
  | d :: r => uptoBulk d + uptoBulkAll r
def uptoBulkEntries {H : Type} : List (Lit × DataW H) → Nat
  | [] => 0
  | x :: r => uptoBulkEntry x + uptoBulkEntries r
def uptoBulkEntry {H : Type} : Lit × DataW H → Nat
  | (.string bytes, d) => bytes.length + uptoBulk d + 1
  | (_, d) => uptoBulk d + 1
 end
def uptoSmall : (H : Type) → List (DataW H) → Bool := fun _ ds => decide (uptoBulkAll ds ≤ 1048576)
def OpenSpec.upto (s : _root_.Go.ChangeSpec) : _root_.Go.OpenSpec := { _root_.Go.OpenSpec.ofChange s with cond := some uptoSmall }

/-- 'typebarlaw02.WideCells', WHERE WHAT IT READS IS OF BULK AT MOST 1048576: true; the input reads as it did. -/
def wideCellsUptoRow : OpenClaim := { program := "ytapgogfibonglaadoor", sum := "117f6bb753f45ea1873c4eda2edce3fc572db305faa261588b51bfa60efef54b", func := "typebar/typebarlaw02.WideCells", spec := "wideCells", named := ["typebar/wide.wideSpans"], apart := false, laid := [("typebar/wide.wideSpans", laid_typebar_wide_wideSpans)], narrowed := true }
def WideCellsUptoSaid : Prop := wideCellsUptoRow.holds Tryd.pinned (OpenSpec.upto wideCellsSpec)

/-- 'typebarlaw02.WideIs', WHERE WHAT IT READS IS OF BULK AT MOST 1048576: true; the input reads as it did. -/
def wideIsUptoRow : OpenClaim := { program := "ytapgogfibonglaadoor", sum := "117f6bb753f45ea1873c4eda2edce3fc572db305faa261588b51bfa60efef54b", func := "typebar/typebarlaw02.WideIs", spec := "wideIs", named := ["typebar/wide.wideSpans"], apart := false, laid := [("typebar/wide.wideSpans", laid_typebar_wide_wideSpans)], narrowed := true }
def WideIsUptoSaid : Prop := wideIsUptoRow.holds Tryd.pinned (OpenSpec.upto wideIsSpec)

/-- 'typebarlaw02.WideRows', WHERE WHAT IT READS IS OF BULK AT MOST 1048576: true; the input reads as it did. -/
def wideRowsUptoRow : OpenClaim := { program := "ytapgogfibonglaadoor", sum := "117f6bb753f45ea1873c4eda2edce3fc572db305faa261588b51bfa60efef54b", func := "typebar/typebarlaw02.WideRows", spec := "wideRows", named := ["typebar/wide.wideSpans"], apart := false, laid := [("typebar/wide.wideSpans", laid_typebar_wide_wideSpans)], narrowed := true }
def WideRowsUptoSaid : Prop := wideRowsUptoRow.holds Tryd.pinned (OpenSpec.upto wideRowsSpec)

/-- 'typebarlaw02.WideJoins', WHERE WHAT IT READS IS OF BULK AT MOST 1048576: true; the input reads as it did. -/
def wideJoinsUptoRow : OpenClaim := { program := "ytapgogfibonglaadoor", sum := "117f6bb753f45ea1873c4eda2edce3fc572db305faa261588b51bfa60efef54b", func := "typebar/typebarlaw02.WideJoins", spec := "wideJoins", named := ["typebar/wide.wideSpans"], apart := false, laid := [("typebar/wide.wideSpans", laid_typebar_wide_wideSpans)], narrowed := true }
def WideJoinsUptoSaid : Prop := wideJoinsUptoRow.holds Tryd.pinned (OpenSpec.upto wideJoinsSpec)

/-- 'typebarlaw02.WideHalves', WHERE WHAT IT READS IS OF BULK AT MOST 1048576: true; the input reads as it did. -/
def wideHalvesUptoRow : OpenClaim := { program := "ytapgogfibonglaadoor", sum := "117f6bb753f45ea1873c4eda2edce3fc572db305faa261588b51bfa60efef54b", func := "typebar/typebarlaw02.WideHalves", spec := "wideHalves", named := ["typebar/wide.wideSpans"], apart := false, laid := [("typebar/wide.wideSpans", laid_typebar_wide_wideSpans)], narrowed := true }
def WideHalvesUptoSaid : Prop := wideHalvesUptoRow.holds Tryd.pinned (OpenSpec.upto wideHalvesSpec)

end Rows
end Go.Proofs.YtapgogfibonglaaDoor
