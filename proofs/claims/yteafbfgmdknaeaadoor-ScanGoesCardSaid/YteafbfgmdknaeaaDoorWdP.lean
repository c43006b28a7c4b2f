/- Signs in cells, in plain mathematics: which are shown, which are wide, the cells of each. -/
import Derived.Test.YteafbfgmdknaeaaDoorGlP
namespace Go.Proofs.YteafbfgmdknaeaaDoor
open Go.RowKit Gl
namespace Wd
def spans : List (Int × Int) := [(4352, 4447), (11904, 12350), (12353, 42191), (44032, 55203), (63744, 64255), (65072, 65135), (65281, 65376), (65504, 65510), (127744, 128591), (129280, 129535), (131072, 262141)]
def lo (k : Nat) : Int := (spans.getD k (0, 0)).1
def hi (k : Nat) : Int := (spans.getD k (0, 0)).2
def wid (r : Int) : Bool := decide (4352 ≤ r ∧ r ≤ 4447 ∨ 11904 ≤ r ∧ r ≤ 12350 ∨ 12353 ≤ r ∧ r ≤ 42191 ∨ 44032 ≤ r ∧ r ≤ 55203 ∨ 63744 ≤ r ∧ r ≤ 64255 ∨ 65072 ≤ r ∧ r ≤ 65135 ∨ 65281 ≤ r ∧ r ≤ 65376 ∨ 65504 ≤ r ∧ r ≤ 65510 ∨ 127744 ≤ r ∧ r ≤ 128591 ∨ 129280 ≤ r ∧ r ≤ 129535 ∨ 131072 ≤ r ∧ r ≤ 262141)
def shw (r : Int) : Bool := vld r && decide (32 ≤ r ∧ (r < 127 ∨ 159 < r))
theorem wid_at (r : Int) (k : Nat) (hk : k < 11) (h : k = 0 ∨ hi (k - 1) < r) (h2 : r ≤ hi k) : wid r = decide (lo k ≤ r) := by
  unfold wid
  rw [decide_eq_decide]
  rcases (show k = 0 ∨ k = 1 ∨ k = 2 ∨ k = 3 ∨ k = 4 ∨ k = 5 ∨ k = 6 ∨ k = 7 ∨ k = 8 ∨ k = 9 ∨ k = 10 by omega) with rfl | rfl | rfl | rfl | rfl | rfl | rfl | rfl | rfl | rfl | rfl <;>
    simp [hi, lo, spans] at h h2 ⊢ <;> omega
theorem wid_end (r : Int) (h : hi 10 < r) : wid r = false := by
  simp [hi, spans] at h
  unfold wid
  rw [decide_eq_false_iff_not]
  omega
/-- The cells of a sign, each with its sign and its kind. -/
def cl (r : Int) : List (Int × Int) :=
  if 0 ≤ r ∧ r < 32 then [(94, 0), (r + 64, 0)] else if r = 127 then [(94, 0), (63, 0)] else if shw r = false then [(65533, 0)] else if wid r then [(r, 1), (r, 2)] else [(r, 0)]
def wd (r : Int) : Int := (cl r).length
theorem cl_len (r : Int) : (cl r).length = 1 ∨ (cl r).length = 2 := by
  unfold cl; repeat (split; · simp)
  simp
def row (l : List Int) : List (Int × Int) := l.flatMap cl
/-- Is a cell right? -/
def ok (r k : Int) : Bool := shw r && (if wid r then decide (k = 1 ∨ k = 2) else decide (k = 0))
/-- The cells of a row in memory: of each its sign, and its kind. -/
def flat (l : List (Int × Int)) : List Value := l.flatMap fun c => [.int .i32 c.1, .int .i64 c.2]
end Wd
end Go.Proofs.YteafbfgmdknaeaaDoor
