/- The table of the kinds with one form, as the program lays it, and its elements. -/
import Derived.Test.YteafbfgmdknaeaaDoorVtB
set_option linter.unusedVariables false
namespace Go.Proofs.YteafbfgmdknaeaaDoor
open Go.RowKit Gl L Vt
/-- The table of the kinds with one form, as the program lays it. -/
def Forms (w : World) (g : Nat) : Prop :=
  w.cell? ⟨g, 0, none⟩ = some (.string ⟨#[27, 91, 75]⟩) ∧ w.cell? ⟨g, 1, none⟩ = some (.int .i64 1) ∧ w.cell? ⟨g, 2, none⟩ = some (.string ⟨#[27, 91, 74]⟩) ∧ w.cell? ⟨g, 3, none⟩ = some (.int .i64 2) ∧
  w.cell? ⟨g, 4, none⟩ = some (.string ⟨#[13]⟩) ∧ w.cell? ⟨g, 5, none⟩ = some (.int .i64 0) ∧ w.cell? ⟨g, 6, none⟩ = some (.string ⟨#[10]⟩) ∧ w.cell? ⟨g, 7, none⟩ = some (.int .i64 0) ∧
  w.cell? ⟨g, 8, none⟩ = some (.string ⟨#[8]⟩) ∧ w.cell? ⟨g, 9, none⟩ = some (.int .i64 0) ∧ w.cell? ⟨g, 10, none⟩ = some (.string ⟨#[7]⟩) ∧ w.cell? ⟨g, 11, none⟩ = some (.int .i64 0)
theorem Forms.below {w w' : World} {g : Nat} (h : Forms w g) (hb : Below w.heap.size w w') : Forms w' g := by
  have hk : ∀ o u, w.cell? ⟨g, o, none⟩ = some u → w'.cell? ⟨g, o, none⟩ = some u := fun o u hu => by
    rw [old_cell hb g o (World.block_lt_of_cell? w _ hu)]; exact hu
  obtain ⟨h0, h1, h2, h3, h4, h5, h6, h7, h8, h9, h10, h11⟩ := h
  exact ⟨hk _ _ h0, hk _ _ h1, hk _ _ h2, hk _ _ h3, hk _ _ h4, hk _ _ h5, hk _ _ h6, hk _ _ h7, hk _ _ h8, hk _ _ h9, hk _ _ h10, hk _ _ h11⟩
theorem ba {w w' : World} (h : Below w.heap.size w w') (o : Obj) : Below w.heap.size w (w'.alloc o) := h.alloc h.size _
theorem idx0 (w : World) : (Instr.index 64 (.agg #[.string ⟨#[27, 91, 75]⟩, .int .i64 1, .string ⟨#[27, 91, 74]⟩, .int .i64 2, .string ⟨#[13]⟩, .int .i64 0, .string ⟨#[10]⟩, .int .i64 0, .string ⟨#[8]⟩, .int .i64 0, .string ⟨#[7]⟩, .int .i64 0]) (.int .i64 0)).run Tryd.prog w = .ok (.agg #[.string ⟨#[27, 91, 75]⟩, .int .i64 1]) w := by kernel_rfl
theorem idx1 (w : World) : (Instr.index 64 (.agg #[.string ⟨#[27, 91, 75]⟩, .int .i64 1, .string ⟨#[27, 91, 74]⟩, .int .i64 2, .string ⟨#[13]⟩, .int .i64 0, .string ⟨#[10]⟩, .int .i64 0, .string ⟨#[8]⟩, .int .i64 0, .string ⟨#[7]⟩, .int .i64 0]) (.int .i64 1)).run Tryd.prog w = .ok (.agg #[.string ⟨#[27, 91, 74]⟩, .int .i64 2]) w := by kernel_rfl
theorem idx2 (w : World) : (Instr.index 64 (.agg #[.string ⟨#[27, 91, 75]⟩, .int .i64 1, .string ⟨#[27, 91, 74]⟩, .int .i64 2, .string ⟨#[13]⟩, .int .i64 0, .string ⟨#[10]⟩, .int .i64 0, .string ⟨#[8]⟩, .int .i64 0, .string ⟨#[7]⟩, .int .i64 0]) (.int .i64 2)).run Tryd.prog w = .ok (.agg #[.string ⟨#[13]⟩, .int .i64 0]) w := by kernel_rfl
theorem idx3 (w : World) : (Instr.index 64 (.agg #[.string ⟨#[27, 91, 75]⟩, .int .i64 1, .string ⟨#[27, 91, 74]⟩, .int .i64 2, .string ⟨#[13]⟩, .int .i64 0, .string ⟨#[10]⟩, .int .i64 0, .string ⟨#[8]⟩, .int .i64 0, .string ⟨#[7]⟩, .int .i64 0]) (.int .i64 3)).run Tryd.prog w = .ok (.agg #[.string ⟨#[10]⟩, .int .i64 0]) w := by kernel_rfl
theorem idx4 (w : World) : (Instr.index 64 (.agg #[.string ⟨#[27, 91, 75]⟩, .int .i64 1, .string ⟨#[27, 91, 74]⟩, .int .i64 2, .string ⟨#[13]⟩, .int .i64 0, .string ⟨#[10]⟩, .int .i64 0, .string ⟨#[8]⟩, .int .i64 0, .string ⟨#[7]⟩, .int .i64 0]) (.int .i64 4)).run Tryd.prog w = .ok (.agg #[.string ⟨#[8]⟩, .int .i64 0]) w := by kernel_rfl
theorem idx5 (w : World) : (Instr.index 64 (.agg #[.string ⟨#[27, 91, 75]⟩, .int .i64 1, .string ⟨#[27, 91, 74]⟩, .int .i64 2, .string ⟨#[13]⟩, .int .i64 0, .string ⟨#[10]⟩, .int .i64 0, .string ⟨#[8]⟩, .int .i64 0, .string ⟨#[7]⟩, .int .i64 0]) (.int .i64 5)).run Tryd.prog w = .ok (.agg #[.string ⟨#[7]⟩, .int .i64 0]) w := by kernel_rfl
end Go.Proofs.YteafbfgmdknaeaaDoor
