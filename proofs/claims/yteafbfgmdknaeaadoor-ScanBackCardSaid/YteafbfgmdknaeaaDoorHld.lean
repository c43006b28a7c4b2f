/- A block of one cell that a call may write; all else that was there stays. -/
import Derived.Test.YteafbfgmdknaeaaDoorLibC
set_option linter.unusedVariables false
namespace Go.Proofs.YteafbfgmdknaeaaDoor
open Go.RowKit L
/-- A block of one cell that the call may write holds u; all else that was there stays. -/
def Held (W : World) (b : Nat) (t : TypeId) (u : Value) (w : World) : Prop := w.heap[b]? = some (.cells #[u] t (0, 0)) ∧ W.grownBy w (some b)
theorem Held.of {W w : World} {b : Nat} {t : TypeId} {u : Value} (hc : W.heap[b]? = some (.cells #[u] t (0, 0))) (hb : Below W.heap.size W w) : Held W b t u w :=
  ⟨by rw [hb.block _ (lt_of_block hc)]; exact hc, hb.os, hb.tape, hb.output, hb.size, fun k hk _ => hb.block k hk⟩
theorem Held.set {W w : World} {b : Nat} {t : TypeId} {u : Value} (h : Held W b t u w) (v : Value) : Held W b t v (w.setCell ⟨b, 0, none⟩ v) :=
  ⟨one_setCell h.1, h.2.os, h.2.tape, h.2.output, by have := h.2.size; simpa using this, fun k hk hne => by
    rw [Below.heap_setCell _ _ _ _ (fun e => hne (by rw [e]))]; exact h.2.block k hk hne⟩
theorem Held.drew {W w : World} {b : Nat} {t : TypeId} {u : Value} (h : Held W b t u w) (n : Nat) : Held W b t u (w.drewN n) := ⟨h.1, h.2.os, h.2.tape, h.2.output, h.2.size, h.2.block⟩
theorem Held.below {B : Nat} {W w : World} {b : Nat} {t : TypeId} {u : Value} (h : Held W b t u w) (hb : B ≤ b) (hB : B ≤ W.heap.size) : Below B W w :=
  ⟨h.2.os, h.2.tape, h.2.output, h.2.size, fun k hk => h.2.block k (Nat.lt_of_lt_of_le hk hB) (by intro e; cases e; omega)⟩
end Go.Proofs.YteafbfgmdknaeaaDoor
