/-
  No cell of these rows narrows 'for every input' (looked for: loops, veiled, ifaces, maps, wideKeys, modest, calm, conditions, laid).
  DERIVED. THE GIVEN ROWS OF THIS SEAT. 5 by the template 'for every input the law returns true; each argument reads behind the call as it read before'; 0 by the template 'total and deterministic' (their statements: YtogfnhhgbmnbpaaTotals.lean).
  GIVEN WITH THE SEED: the statements are not yours to turn. If you find one false, say at which input.
  Laid BY PROGRAM, IN A SANDBOX (cutbox-rows.mjs): the forced cells as the released guide's own fill.sh prints them over the translation 574e2e7ee6dad103… (all of the seat's roots in one cut). By AI agents, Wed Nov 11 2026. No macro, syntax, notation, axiom, sorry.
-/
import Derived.Test.YtogfnhhgbmnbpaaChecked
import GoSem.Claim
import GoSem.ClaimJoined
import GoSem.ClaimMapViews
import Derived.JoinedTies
import Derived.KernelRfl
namespace Go.Proofs.Ytogfnhhgbmnbpaa
/- THE CELL 'sum', in the pinned program and in every row, IS THE sha256 OF THE DUMP (.gsa) THAT YtogfnhhgbmnbpaaProg.lean LOADS. Nothing in Lean hashes anything: it is a label: what it is worth is what the hold of that sum in a sandbox is worth. -/
noncomputable def Try.pinned : Pinned := { name := "ytogfnhhgbmnbpaa", sum := "574e2e7ee6dad10317dd59893cb0a739701754a1fc54aab3eb5a017805d0ce7f", checked := Try.checked }
namespace Rows
def none {H : Type} : Left H := { results := [], args := [] }

/-- 'typebarlaw10.GapDoes': WHATEVER THE INPUT: true; the input reads as it did. -/
def gapDoesSpec : ChangeSpec := { name := "gapDoes", fn := fun _ => fun
  | [d1, d2, d3] => { results := [.lit (.bool true)], args := [d1, d2, d3] }
  | _ => none }
def gapDoesRow : OpenClaim := { program := "ytogfnhhgbmnbpaa", sum := "574e2e7ee6dad10317dd59893cb0a739701754a1fc54aab3eb5a017805d0ce7f", func := "typebar/typebarlaw10.GapDoes", spec := "gapDoes", apart := false }
def GapDoesSaid : Prop := gapDoesRow.holds Try.pinned (OpenSpec.ofChange gapDoesSpec)

/-- ITS FALSE NEIGHBOUR: 'it returns false'. Refute it at one input. -/
def gapDoesWrong : ChangeSpec := { name := "gapDoes", fn := fun _ => fun
  | [d1, d2, d3] => { results := [.lit (.bool false)], args := [d1, d2, d3] }
  | _ => none }
def GapDoesWrongFalsely : Prop := gapDoesRow.holds Try.pinned (OpenSpec.ofChange gapDoesWrong)

/-- 'typebarlaw10.GapInserts': WHATEVER THE INPUT: true; the input reads as it did. -/
def gapInsertsSpec : ChangeSpec := { name := "gapInserts", fn := fun _ => fun
  | [d1, d2] => { results := [.lit (.bool true)], args := [d1, d2] }
  | _ => none }
def gapInsertsRow : OpenClaim := { program := "ytogfnhhgbmnbpaa", sum := "574e2e7ee6dad10317dd59893cb0a739701754a1fc54aab3eb5a017805d0ce7f", func := "typebar/typebarlaw10.GapInserts", spec := "gapInserts", apart := false }
def GapInsertsSaid : Prop := gapInsertsRow.holds Try.pinned (OpenSpec.ofChange gapInsertsSpec)

/-- ITS FALSE NEIGHBOUR: 'it returns false'. Refute it at one input. -/
def gapInsertsWrong : ChangeSpec := { name := "gapInserts", fn := fun _ => fun
  | [d1, d2] => { results := [.lit (.bool false)], args := [d1, d2] }
  | _ => none }
def GapInsertsWrongFalsely : Prop := gapInsertsRow.holds Try.pinned (OpenSpec.ofChange gapInsertsWrong)

/-- 'typebarlaw10.GapCuts': WHATEVER THE INPUT: true; the input reads as it did. -/
def gapCutsSpec : ChangeSpec := { name := "gapCuts", fn := fun _ => fun
  | [d1, d2] => { results := [.lit (.bool true)], args := [d1, d2] }
  | _ => none }
def gapCutsRow : OpenClaim := { program := "ytogfnhhgbmnbpaa", sum := "574e2e7ee6dad10317dd59893cb0a739701754a1fc54aab3eb5a017805d0ce7f", func := "typebar/typebarlaw10.GapCuts", spec := "gapCuts", apart := false }
def GapCutsSaid : Prop := gapCutsRow.holds Try.pinned (OpenSpec.ofChange gapCutsSpec)

/-- ITS FALSE NEIGHBOUR: 'it returns false'. Refute it at one input. -/
def gapCutsWrong : ChangeSpec := { name := "gapCuts", fn := fun _ => fun
  | [d1, d2] => { results := [.lit (.bool false)], args := [d1, d2] }
  | _ => none }
def GapCutsWrongFalsely : Prop := gapCutsRow.holds Try.pinned (OpenSpec.ofChange gapCutsWrong)

/-- 'typebarlaw10.GapStays': WHATEVER THE INPUT: true; the input reads as it did. -/
def gapStaysSpec : ChangeSpec := { name := "gapStays", fn := fun _ => fun
  | [d1, d2, d3] => { results := [.lit (.bool true)], args := [d1, d2, d3] }
  | _ => none }
def gapStaysRow : OpenClaim := { program := "ytogfnhhgbmnbpaa", sum := "574e2e7ee6dad10317dd59893cb0a739701754a1fc54aab3eb5a017805d0ce7f", func := "typebar/typebarlaw10.GapStays", spec := "gapStays", apart := false }
def GapStaysSaid : Prop := gapStaysRow.holds Try.pinned (OpenSpec.ofChange gapStaysSpec)

/-- ITS FALSE NEIGHBOUR: 'it returns false'. Refute it at one input. -/
def gapStaysWrong : ChangeSpec := { name := "gapStays", fn := fun _ => fun
  | [d1, d2, d3] => { results := [.lit (.bool false)], args := [d1, d2, d3] }
  | _ => none }
def GapStaysWrongFalsely : Prop := gapStaysRow.holds Try.pinned (OpenSpec.ofChange gapStaysWrong)

/-- 'typebarlaw10.GapBack': WHATEVER THE INPUT: true; the input reads as it did. -/
def gapBackSpec : ChangeSpec := { name := "gapBack", fn := fun _ => fun
  | [d1, d2, d3] => { results := [.lit (.bool true)], args := [d1, d2, d3] }
  | _ => none }
def gapBackRow : OpenClaim := { program := "ytogfnhhgbmnbpaa", sum := "574e2e7ee6dad10317dd59893cb0a739701754a1fc54aab3eb5a017805d0ce7f", func := "typebar/typebarlaw10.GapBack", spec := "gapBack", apart := false }
def GapBackSaid : Prop := gapBackRow.holds Try.pinned (OpenSpec.ofChange gapBackSpec)

/-- ITS FALSE NEIGHBOUR: 'it returns false'. Refute it at one input. -/
def gapBackWrong : ChangeSpec := { name := "gapBack", fn := fun _ => fun
  | [d1, d2, d3] => { results := [.lit (.bool false)], args := [d1, d2, d3] }
  | _ => none }
def GapBackWrongFalsely : Prop := gapBackRow.holds Try.pinned (OpenSpec.ofChange gapBackWrong)

/- THE SECOND FORM. 'bulk': how many values and letters a reading holds, each counted each time it is reached (what is shared counts as often as it is met; a slice's spare places count too). A statement '..UptoSaid' is the law's where the arguments, and the package variables that the reading takes, are together of bulk at most 1048576: NARROWER than '..Said'. Prove '..Said' where nothing that the law and all that it calls make is longer than what came in: it says more and counts as full. Else prove '..UptoSaid'. A law counts once. -/
mutual
def uptoBulk {H : Type} : DataW H → Nat
  | .lit (.string bytes) => bytes.length + 1
  | .lit _ => 1
  | .nil => 1
  | .ptr d => uptoBulk d + 1
  | .slice elems spare => uptoBulkAll elems + uptoBulkAll spare + 1
  | .agg parts => uptoBulkAll parts + 1
  | .iface _ d => uptoBulk d + 1
  | .map entries => uptoBulkEntries entries + 1
  | .held _ => 1
def uptoBulkAll {H : Type} : List (DataW H) → Nat
  | [] => 0
  | d :: r => uptoBulk d + uptoBulkAll r
def uptoBulkEntries {H : Type} : List (Lit × DataW H) → Nat
  | [] => 0
  | x :: r => uptoBulkEntry x + uptoBulkEntries r
def uptoBulkEntry {H : Type} : Lit × DataW H → Nat
  | (.string bytes, d) => bytes.length + uptoBulk d + 1
  | (_, d) => uptoBulk d + 1
 end
def uptoSmall : (H : Type) → List (DataW H) → Bool := fun _ ds => decide (uptoBulkAll ds ≤ 1048576)
def OpenSpec.upto (s : _root_.Go.ChangeSpec) : _root_.Go.OpenSpec := { _root_.Go.OpenSpec.ofChange s with cond := some uptoSmall }

/-- 'typebarlaw10.GapDoes', WHERE WHAT IT READS IS OF BULK AT MOST 1048576: true; the input reads as it did. -/
def gapDoesUptoRow : OpenClaim := { program := "ytogfnhhgbmnbpaa", sum := "574e2e7ee6dad10317dd59893cb0a739701754a1fc54aab3eb5a017805d0ce7f", func := "typebar/typebarlaw10.GapDoes", spec := "gapDoes", apart := false, narrowed := true }
def GapDoesUptoSaid : Prop := gapDoesUptoRow.holds Try.pinned (OpenSpec.upto gapDoesSpec)

/-- 'typebarlaw10.GapInserts', WHERE WHAT IT READS IS OF BULK AT MOST 1048576: true; the input reads as it did. -/
def gapInsertsUptoRow : OpenClaim := { program := "ytogfnhhgbmnbpaa", sum := "574e2e7ee6dad10317dd59893cb0a739701754a1fc54aab3eb5a017805d0ce7f", func := "typebar/typebarlaw10.GapInserts", spec := "gapInserts", apart := false, narrowed := true }
def GapInsertsUptoSaid : Prop := gapInsertsUptoRow.holds Try.pinned (OpenSpec.upto gapInsertsSpec)

/-- 'typebarlaw10.GapCuts', WHERE WHAT IT READS IS OF BULK AT MOST 1048576: true; the input reads as it did. -/
def gapCutsUptoRow : OpenClaim := { program := "ytogfnhhgbmnbpaa", sum := "574e2e7ee6dad10317dd59893cb0a739701754a1fc54aab3eb5a017805d0ce7f", func := "typebar/typebarlaw10.GapCuts", spec := "gapCuts", apart := false, narrowed := true }
def GapCutsUptoSaid : Prop := gapCutsUptoRow.holds Try.pinned (OpenSpec.upto gapCutsSpec)

/-- 'typebarlaw10.GapStays', WHERE WHAT IT READS IS OF BULK AT MOST 1048576: true; the input reads as it did. -/
def gapStaysUptoRow : OpenClaim := { program := "ytogfnhhgbmnbpaa", sum := "574e2e7ee6dad10317dd59893cb0a739701754a1fc54aab3eb5a017805d0ce7f", func := "typebar/typebarlaw10.GapStays", spec := "gapStays", apart := false, narrowed := true }
def GapStaysUptoSaid : Prop := gapStaysUptoRow.holds Try.pinned (OpenSpec.upto gapStaysSpec)

/-- 'typebarlaw10.GapBack', WHERE WHAT IT READS IS OF BULK AT MOST 1048576: true; the input reads as it did. -/
def gapBackUptoRow : OpenClaim := { program := "ytogfnhhgbmnbpaa", sum := "574e2e7ee6dad10317dd59893cb0a739701754a1fc54aab3eb5a017805d0ce7f", func := "typebar/typebarlaw10.GapBack", spec := "gapBack", apart := false, narrowed := true }
def GapBackUptoSaid : Prop := gapBackUptoRow.holds Try.pinned (OpenSpec.upto gapBackSpec)

end Rows
end Go.Proofs.Ytogfnhhgbmnbpaa
