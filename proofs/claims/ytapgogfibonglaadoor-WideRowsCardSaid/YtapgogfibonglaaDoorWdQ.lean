/- The cells of a row in plain mathematics: halves stand together, all cells are right. -/
import Derived.Test.YtapgogfibonglaaDoorWdA
namespace Go.Proofs.YtapgogfibonglaaDoor
open Go.RowKit Gl L
namespace Wd
/-- Halves stand together, and all cells are right. -/
def Good (l : List (Int × Int)) : Prop := ∀ j, j < l.length → ok (l.getD j (0, 0)).1 (l.getD j (0, 0)).2 = true ∧ shw (l.getD j (0, 0)).1 = true ∧
  ((l.getD j (0, 0)).2 = 1 → j + 1 < l.length ∧ l.getD (j + 1) (0, 0) = ((l.getD j (0, 0)).1, 2)) ∧ ((l.getD j (0, 0)).2 = 2 → 0 < j ∧ l.getD (j - 1) (0, 0) = ((l.getD j (0, 0)).1, 1))
theorem getD_left {a b : List (Int × Int)} {j : Nat} (h : j < a.length) : (a ++ b).getD j (0, 0) = a.getD j (0, 0) := by
  rw [List.getD_eq_getElem?_getD, List.getD_eq_getElem?_getD, List.getElem?_append_left h]
theorem getD_right {a b : List (Int × Int)} {j : Nat} (h : a.length ≤ j) : (a ++ b).getD j (0, 0) = b.getD (j - a.length) (0, 0) := by
  rw [List.getD_eq_getElem?_getD, List.getD_eq_getElem?_getD, List.getElem?_append_right h]
theorem Good.append {a b : List (Int × Int)} (ha : Good a) (hb : Good b) : Good (a ++ b) := by
  intro j hj
  rw [List.length_append] at hj ⊢
  by_cases h : j < a.length
  · obtain ⟨h1, h2, h3, h4⟩ := ha j h
    rw [getD_left h]
    refine ⟨h1, h2, fun h5 => ?_, fun h5 => ?_⟩
    · obtain ⟨h6, h7⟩ := h3 h5
      exact ⟨by omega, by rw [getD_left h6]; exact h7⟩
    · obtain ⟨h6, h7⟩ := h4 h5
      exact ⟨h6, by rw [getD_left (by omega)]; exact h7⟩
  · obtain ⟨h1, h2, h3, h4⟩ := hb (j - a.length) (by omega)
    rw [getD_right (by omega)]
    refine ⟨h1, h2, fun h5 => ?_, fun h5 => ?_⟩
    · obtain ⟨h6, h7⟩ := h3 h5
      exact ⟨by omega, by rw [getD_right (by omega), show j + 1 - a.length = j - a.length + 1 by omega]; exact h7⟩
    · obtain ⟨h6, h7⟩ := h4 h5
      exact ⟨by omega, by rw [getD_right (by omega), show j - 1 - a.length = j - a.length - 1 by omega]; exact h7⟩
theorem shw_of (r : Int) (h0 : 32 ≤ r) (h : r < 127) : shw r = true := by unfold shw Gl.vld; simp; omega
theorem wid_of (r : Int) (h : r < 4352) : wid r = false := by unfold wid; simp; omega
theorem cl_good (r : Int) : Good (cl r) := by
  by_cases h1 : 0 ≤ r ∧ r < 32
  · rw [cl_ctl h1]
    intro j hj
    have hs := shw_of (r + 64) (by omega) (by omega)
    have hw := wid_of (r + 64) (by omega)
    rcases (show j = 0 ∨ j = 1 by simp at hj; omega) with rfl | rfl
    · exact ⟨(by decide : ok 94 0 = true), (by decide : shw 94 = true), by simp, by simp⟩
    · exact ⟨by simp [ok, hs, hw], by simp [hs], by simp, by simp⟩
  by_cases h2 : r = 127
  · subst h2
    rw [cl_del]
    intro j hj
    rcases (show j = 0 ∨ j = 1 by simp at hj; omega) with rfl | rfl
    · exact ⟨by decide, by decide, by simp, by simp⟩
    · exact ⟨by decide, by decide, by simp, by simp⟩
  cases h3 : shw r
  · rw [cl_bad h1 h2 h3]
    intro j hj
    obtain rfl : j = 0 := by simp at hj; omega
    exact ⟨by decide, by decide, by simp, by simp⟩
  · cases h4 : wid r
    · rw [cl_one h3 h4]
      intro j hj
      obtain rfl : j = 0 := by simp at hj; omega
      exact ⟨by simp [ok, h3, h4], by simp [h3], by simp, by simp⟩
    · rw [cl_wide h3 h4]
      intro j hj
      rcases (show j = 0 ∨ j = 1 by simp at hj; omega) with rfl | rfl
      · exact ⟨by simp [ok, h3, h4], by simp [h3], by simp, by simp⟩
      · exact ⟨by simp [ok, h3, h4], by simp [h3], by simp, by simp⟩
theorem row_good (l : List Int) : Good (row l) := by
  induction l with
  | nil => intro j hj; simp [row] at hj
  | cons a l ih =>
    have e : row (a :: l) = cl a ++ row l := rfl
    rw [e]
    exact (cl_good a).append ih
theorem row_append (a b : List Int) : row (a ++ b) = row a ++ row b := by simp [row]
end Wd
end Go.Proofs.YtapgogfibonglaaDoor
