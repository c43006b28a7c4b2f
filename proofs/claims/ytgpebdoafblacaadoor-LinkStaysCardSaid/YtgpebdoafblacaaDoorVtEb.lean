/- Small lemmas on rows of commands that are laid, and on four made blocks. -/
import Derived.Test.YtgpebdoafblacaaDoorMVi
import Derived.Test.YtgpebdoafblacaaDoorMVq
set_option linter.unusedVariables false
namespace Go.Proofs.YtgpebdoafblacaaDoor
open Go.RowKit Gl L Vt
theorem Forms.alloc {w : World} {g : Nat} (h : Forms w g) (o : Obj) : Forms (w.alloc o) g := h.below ((Below.refl _ _).alloc (Nat.le_refl _) o)
theorem bl4 {w w1 : World} {x y z u : Obj} (h : Below ((((w.alloc x).alloc y).alloc z).alloc u).heap.size ((((w.alloc x).alloc y).alloc z).alloc u) w1) : Below w.heap.size w w1 :=
  (((((Below.refl _ _).alloc (Nat.le_refl _) _).alloc (by simp) _).alloc (by simp; omega) _).alloc (by simp; omega) _).trans (h.mono (by simp; omega))
theorem row_lit4 (w : World) (cs : Array Value) (t : TypeId) (l : List Cmd) (h : cs.toList = flatC l) (cap : Nat) : Rw (w.alloc (.cells cs t)) (.slice (some ⟨w.heap.size, 0, none⟩) l.length cap) 4 l.length (flatC l) := by
  have hs : cs.size = l.length * 4 := by rw [← Array.length_toList, h, flatC_len]
  have := Rw.lit w cs t 4 l.length cap (by omega)
  rw [h, List.take_of_length_le (by rw [flatC_len]; omega)] at this
  exact this
end Go.Proofs.YtgpebdoafblacaaDoor
