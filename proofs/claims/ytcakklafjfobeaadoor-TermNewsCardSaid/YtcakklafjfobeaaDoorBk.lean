/- The cell of a blank, as a variable of the program keeps it; the cells of a row, by their places. -/
import Derived.Test.YtcakklafjfobeaaDoorLibD
set_option linter.unusedVariables false
namespace Go.Proofs.YtcakklafjfobeaaDoor
open Go.RowKit L Wd
/-- The cell of a blank, as the program keeps it. -/
def Blk (w : World) (g : Nat) : Prop := w.cell? ⟨g, 0, none⟩ = some (.int .i32 32) ∧ w.cell? ⟨g, 1, none⟩ = some (.int .i64 0)
theorem Blk.below {w w' : World} {g : Nat} (h : Blk w g) (hb : Below w.heap.size w w') : Blk w' g := by
  obtain ⟨h1, h2⟩ := h
  exact ⟨by rw [hb.cell (World.block_lt_of_cell? w _ h1)]; exact h1, by rw [hb.cell (World.block_lt_of_cell? w _ h2)]; exact h2⟩
theorem Rw.cell2 {w : World} {A : Option Addr} {n cap : Nat} {l : List (Int × Int)} (h : Rw w (.slice A n cap) 2 l.length (flat l)) (hl : 0 < l.length) : ∃ b off, A = some ⟨b, off, none⟩ ∧ n = l.length ∧ ∀ k, k < l.length → w.cell? ⟨b, off + k * 2, none⟩ = some (.int .i32 (l.getD k (0, 0)).1) ∧ w.cell? ⟨b, off + k * 2 + 1, none⟩ = some (.int .i64 (l.getD k (0, 0)).2) := by
  obtain ⟨_, A', cap', he, h⟩ := h
  injection he with h1 h2 h3
  subst h1 h3
  rcases h with ⟨h, _⟩ | ⟨b, off, rfl, hc⟩
  · omega
  · refine ⟨b, off, rfl, h2, fun k hk => ?_⟩
    obtain ⟨f1, f2⟩ := flat_at l k hk
    exact ⟨hc _ _ f1, by rw [Nat.add_assoc]; exact hc _ _ f2⟩
theorem Rw.at2 {w : World} {b off n cap : Nat} {l : List (Int × Int)} (h : Rw w (.slice (some ⟨b, off, none⟩) n cap) 2 l.length (flat l)) (k : Nat) (hk : k < l.length) : w.cell? ⟨b, off + k * 2, none⟩ = some (.int .i32 (l.getD k (0, 0)).1) ∧ w.cell? ⟨b, off + k * 2 + 1, none⟩ = some (.int .i64 (l.getD k (0, 0)).2) := by
  obtain ⟨b', off', he, _, hc⟩ := Rw.cell2 h (by omega)
  cases he
  exact hc k hk
end Go.Proofs.YtcakklafjfobeaaDoor
