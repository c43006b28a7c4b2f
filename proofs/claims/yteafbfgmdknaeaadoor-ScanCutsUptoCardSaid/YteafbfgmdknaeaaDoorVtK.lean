/- Rows of commands in plain mathematics, and in memory; what they cost. -/
import Derived.Test.YteafbfgmdknaeaaDoorVtP
import Derived.Test.YteafbfgmdknaeaaDoorLibC
set_option linter.unusedVariables false
namespace Go.Proofs.YteafbfgmdknaeaaDoor
open Go.RowKit Gl L
namespace Vt
/-- A command: kind, two numbers, and a sign. -/
abbrev Cmd := Int × Int × Int × Int
def d0 : Cmd := (0, 0, 0, 0)
def cK (l : List Cmd) (i : Nat) : Int := (l.getD i d0).1
def cA (l : List Cmd) (i : Nat) : Int := (l.getD i d0).2.1
def cB (l : List Cmd) (i : Nat) : Int := (l.getD i d0).2.2.1
def cR (l : List Cmd) (i : Nat) : Int := (l.getD i d0).2.2.2
def cells4 (c : Cmd) : List Value := [.int .i64 c.1, .int .i64 c.2.1, .int .i64 c.2.2.1, .int .i32 c.2.2.2]
def flatC (l : List Cmd) : List Value := l.flatMap cells4
theorem flatC_len (l : List Cmd) : (flatC l).length = l.length * 4 := by
  induction l with
  | nil => rfl
  | cons c l ih => simp [flatC, cells4] at ih ⊢; omega
theorem flatC_append (l m : List Cmd) : flatC (l ++ m) = flatC l ++ flatC m := by simp [flatC]
theorem flatC_at (l : List Cmd) : ∀ i, i < l.length → (flatC l)[i * 4]? = some (.int .i64 (cK l i)) ∧ (flatC l)[i * 4 + 1]? = some (.int .i64 (cA l i)) ∧ (flatC l)[i * 4 + 2]? = some (.int .i64 (cB l i)) ∧ (flatC l)[i * 4 + 3]? = some (.int .i32 (cR l i)) := by
  induction l with
  | nil => intro i hi; simp at hi
  | cons c l ih =>
    intro i hi
    have e : flatC (c :: l) = cells4 c ++ flatC l := rfl
    have hl : (cells4 c).length = 4 := rfl
    rw [e]
    cases i with
    | zero => refine ⟨rfl, rfl, rfl, rfl⟩
    | succ i =>
      obtain ⟨h0, h1, h2, h3⟩ := ih i (by simpa using hi)
      have sh : ∀ j, (cells4 c ++ flatC l)[(i + 1) * 4 + j]? = (flatC l)[i * 4 + j]? := fun j => by
        rw [List.getElem?_append_right (by omega), hl]
        congr 1
        omega
      refine ⟨(sh 0).trans h0, (sh 1).trans h1, (sh 2).trans h2, (sh 3).trans h3⟩
theorem flatC_one (l : List Cmd) : ∀ u ∈ flatC l, u.oneCell' = true := by
  intro u hu
  simp only [flatC, List.mem_flatMap] at hu
  obtain ⟨c, _, hc⟩ := hu
  simp [cells4] at hc
  rcases hc with rfl | rfl | rfl | rfl <;> rfl
def szC (c : Cmd) : Nat := (bts c.1 c.2.1 c.2.2.1 c.2.2.2).size
def pdC (c : Cmd) : Int := pads c.1 c.2.1 c.2.2.1 c.2.2.2
def costL (l : List Cmd) : Nat := (l.map szC).sum
def padL (l : List Cmd) : Int := (l.map pdC).sum
theorem pdC_bd (c : Cmd) : 0 ≤ pdC c ∧ pdC c ≤ 2 := by
  unfold pdC pads
  split
  · split
    · omega
    · split <;> omega
  · omega
theorem take_next (l : List Cmd) (i : Nat) (h : i < l.length) : l.take (i + 1) = l.take i ++ [l.getD i d0] := by
  rw [List.take_add_one]
  simp [List.getD, h]
theorem costL_next (l : List Cmd) (i : Nat) (h : i < l.length) : costL (l.take (i + 1)) = costL (l.take i) + (bts (cK l i) (cA l i) (cB l i) (cR l i)).size := by
  rw [take_next l i h]
  simp [costL, szC, cK, cA, cB, cR]
theorem padL_next (l : List Cmd) (i : Nat) (h : i < l.length) : padL (l.take (i + 1)) = padL (l.take i) + pads (cK l i) (cA l i) (cB l i) (cR l i) := by
  rw [take_next l i h]
  simp [padL, pdC, cK, cA, cB, cR]
theorem costL_append (l m : List Cmd) : costL (l ++ m) = costL l + costL m := by simp [costL]
theorem padL_append (l m : List Cmd) : padL (l ++ m) = padL l + padL m := by simp [padL]
theorem costL_bd (l : List Cmd) : costL l ≤ 8 * l.length := by
  induction l with
  | nil => exact Nat.le_refl _
  | cons c l ih =>
    have h : costL (c :: l) = szC c + costL l := rfl
    have : szC c ≤ 8 := bts_size _ _ _ _
    rw [h, List.length_cons]; omega
theorem padL_bd (l : List Cmd) : 0 ≤ padL l ∧ padL l ≤ 2 * l.length := by
  induction l with
  | nil => decide
  | cons c l ih =>
    have h : padL (c :: l) = pdC c + padL l := rfl
    have := pdC_bd c
    rw [h, List.length_cons]; omega
/-- A row of commands that can be read. -/
theorem cmds_row {w : World} {v : Value} {l : List Cmd} (h : Rw w v 4 l.length (flatC l)) : ∃ A cap, v = .slice A l.length cap ∧ (l.length = 0 ∨ ∃ g off, A = some ⟨g, off, none⟩ ∧ ∀ k, k < l.length →
    w.cell? ⟨g, off + k * 4, none⟩ = some (.int .i64 (cK l k)) ∧ w.cell? ⟨g, off + k * 4 + 1, none⟩ = some (.int .i64 (cA l k)) ∧ w.cell? ⟨g, off + k * 4 + 2, none⟩ = some (.int .i64 (cB l k)) ∧ w.cell? ⟨g, off + k * 4 + 3, none⟩ = some (.int .i32 (cR l k))) := by
  obtain ⟨_, A, cap, rfl, h⟩ := h
  refine ⟨A, cap, rfl, ?_⟩
  rcases h with ⟨h, _⟩ | ⟨g, off, rfl, hc⟩
  · exact .inl h
  · refine .inr ⟨g, off, rfl, fun k hk => ?_⟩
    obtain ⟨h0, h1, h2, h3⟩ := flatC_at l k hk
    exact ⟨hc _ _ h0, hc _ _ h1, hc _ _ h2, hc _ _ h3⟩
end Vt
end Go.Proofs.YteafbfgmdknaeaaDoor
