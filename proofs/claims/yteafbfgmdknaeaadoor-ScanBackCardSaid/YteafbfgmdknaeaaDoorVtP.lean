/- Commands in plain mathematics: which are right, their bytes, their pads; no command's bytes are a beginning of another one's. -/
import Derived.Test.YteafbfgmdknaeaaDoorGlW
import Derived.Test.YteafbfgmdknaeaaDoorWdP
set_option linter.unusedVariables false
namespace Go.Proofs.YteafbfgmdknaeaaDoor
open Go.RowKit Gl
namespace Vt
def isC (k a b r : Int) : Bool :=
  if k = 1 then Wd.shw r && (decide (a = 0) && decide (b = 0))
  else if k = 2 then decide (0 ≤ a ∧ a ≤ 23 ∧ 0 ≤ b ∧ b ≤ 79 ∧ r = 0)
  else if 3 ≤ k ∧ k ≤ 6 then decide (1 ≤ a ∧ a ≤ 80 ∧ b = 0 ∧ r = 0)
  else decide (7 ≤ k ∧ k ≤ 12 ∧ a = 0 ∧ b = 0 ∧ r = 0)
theorem isC_iff (k a b r : Int) : isC k a b r = true ↔ (k = 1 ∧ Wd.shw r = true ∧ a = 0 ∧ b = 0) ∨ (k = 2 ∧ 0 ≤ a ∧ a ≤ 23 ∧ 0 ≤ b ∧ b ≤ 79 ∧ r = 0) ∨ (3 ≤ k ∧ k ≤ 6 ∧ 1 ≤ a ∧ a ≤ 80 ∧ b = 0 ∧ r = 0) ∨ (7 ≤ k ∧ k ≤ 12 ∧ a = 0 ∧ b = 0 ∧ r = 0) := by
  unfold isC
  split
  · simp [*]
  · split
    · simp [*]
    · split
      · simp [*]; omega
      · simp [*]; omega
/-- A number's digits, from 0 to 99. -/
def dg (n : Int) : List Int := if n < 10 then [48 + n] else [48 + n / 10, 48 + n % 10]
def dS (n : Int) : ByteArray := strOfNums (dg n)
/-- The bytes of a command that is no text. -/
def btL (k a b : Int) : List Int :=
  if k = 2 then 27 :: 91 :: (dg (a + 1) ++ 59 :: (dg (b + 1) ++ [72]))
  else if k ≤ 6 then 27 :: 91 :: ((if 1 < a then dg a else []) ++ [62 + k])
  else if k = 7 then [27, 91, 75] else if k = 8 then [27, 91, 74] else if k = 9 then [13] else if k = 10 then [10] else if k = 11 then [8] else [7]
def bts (k a b r : Int) : ByteArray := if isC k a b r then (if k = 1 then putS r else strOfNums (btL k a b)) else ⟨#[]⟩
def err (k a b r : Int) : Int := if isC k a b r then 0 else 1
def pads (k a b r : Int) : Int := if isC k a b r then (if k = 7 then 1 else if k = 8 then 2 else 0) else 0
theorem bts_no {k a b r : Int} (h : isC k a b r = false) : bts k a b r = ⟨#[]⟩ := by unfold bts; rw [h]; rfl
theorem bts_text {a b r : Int} (h : isC 1 a b r = true) : bts 1 a b r = putS r := by unfold bts; rw [h]; rfl
theorem bts_form {k a b r : Int} (h : isC k a b r = true) (hk : k ≠ 1) : bts k a b r = strOfNums (btL k a b) := by unfold bts; rw [h, if_pos rfl, if_neg hk]
theorem shw_vld {r : Int} (h : Wd.shw r = true) : vld r = true ∧ 32 ≤ r ∧ (r < 127 ∨ 159 < r) := by
  unfold Wd.shw at h; simp at h; exact h
theorem dg_len (n : Int) : 1 ≤ (dg n).length ∧ (dg n).length ≤ 2 := by unfold dg; split <;> simp
theorem btL_len (k a b : Int) : 1 ≤ (btL k a b).length ∧ (btL k a b).length ≤ 8 := by
  have h1 := dg_len (a + 1)
  have h2 := dg_len (b + 1)
  have h3 := dg_len a
  unfold btL
  repeat' split
  all_goals simp
  all_goals omega
theorem bts_size (k a b r : Int) : (bts k a b r).size ≤ 8 := by
  unfold bts
  split
  · split
    · have h := ‹isC k a b r = true›
      have hk := ‹k = 1›
      have hs : Wd.shw r = true := by
        rcases (isC_iff k a b r).1 h with h | h | h | h
        · exact h.2.1
        all_goals omega
      have := put_size r (shw_vld hs).1
      omega
    · rw [strOfNums_size]; exact (btL_len k a b).2
  · show 0 ≤ 8; omega
end Vt
end Go.Proofs.YteafbfgmdknaeaaDoor
