/- Commands' bytes: from the second one on each is 32 or more. -/
import Derived.Test.YteafbfgmdknaeaaDoorVtP
set_option linter.unusedVariables false
namespace Go.Proofs.YteafbfgmdknaeaaDoor
open Go.RowKit Go.PlainAid
open Gl
namespace Vt
/-- Numbers as bytes, told again. -/
theorem bt_list' (xs : List Int) (hx : ∀ x ∈ xs, 0 ≤ x ∧ x ≤ 255) (j : Nat) (hj : j < xs.length) : bt (strOfNums xs) j = xs.getD j 0 := by
  have h : xs[j]? = some (xs.getD j 0) := by simp [List.getD, hj]
  exact bt_strOf xs j _ h (hx _ (List.mem_of_getElem? h))
theorem dg_bd (n : Int) (h : 0 ≤ n ∧ n ≤ 99) : ∀ x ∈ dg n, 48 ≤ x ∧ x ≤ 57 := by
  intro x hx
  unfold dg at hx
  split at hx
  · simp at hx; omega
  · simp at hx; omega
theorem btL_bd (k a b r : Int) (h : isC k a b r = true) (hk : k ≠ 1) : ∀ x ∈ btL k a b, 0 ≤ x ∧ x ≤ 255 := by
  intro x hx
  have hc := (isC_iff k a b r).1 h
  have d1 := dg_bd (a + 1)
  have d2 := dg_bd (b + 1)
  have d3 := dg_bd a
  unfold btL at hx
  split at hx
  · simp at hx
    rcases hx with hx | hx | hx | hx | hx | hx
    all_goals first | omega | (have := d1 (by omega) x hx; omega) | (have := d2 (by omega) x hx; omega)
  · split at hx
    · simp at hx
      rcases hx with hx | hx | hx | hx
      · omega
      · omega
      · have := d3 (by omega) x hx.2; omega
      · omega
    · repeat' split at hx
      all_goals simp at hx
      all_goals omega
/-- The first byte of what is shown is 32 or more; of another command it is 27 or less. -/
theorem text_first (r : Int) (h : Wd.shw r = true) : 32 ≤ bt (putS r) 0 := by
  obtain ⟨hv, h1, h2⟩ := shw_vld h
  have hv2 := (vld_iff r).1 hv
  rcases put_form r hv with ⟨_, e⟩ | ⟨_, _, e⟩ | ⟨_, _, e⟩ | ⟨_, e⟩
  all_goals (rw [e, bt_strOf _ 0 _ rfl (by omega)]; omega)
theorem text_hi (r : Int) (h : Wd.shw r = true) (j : Nat) (hj : j < (putS r).size) : 32 ≤ bt (putS r) j := by
  obtain ⟨hv, h1, h2⟩ := shw_vld h
  have hv2 := (vld_iff r).1 hv
  rcases put_form r hv with ⟨_, e⟩ | ⟨_, _, e⟩ | ⟨_, _, e⟩ | ⟨_, e⟩
  all_goals
    rw [e, strOfNums_size] at hj
    simp at hj
    rw [e]
  · rcases (show j = 0 by omega) with rfl
    rw [bt_strOf _ 0 _ rfl (by omega)]; omega
  · rcases (show j = 0 ∨ j = 1 by omega) with rfl | rfl
    all_goals (rw [bt_strOf _ _ _ rfl (by omega)]; omega)
  · rcases (show j = 0 ∨ j = 1 ∨ j = 2 by omega) with rfl | rfl | rfl
    all_goals (rw [bt_strOf _ _ _ rfl (by omega)]; omega)
  · rcases (show j = 0 ∨ j = 1 ∨ j = 2 ∨ j = 3 by omega) with rfl | rfl | rfl | rfl
    all_goals (rw [bt_strOf _ _ _ rfl (by omega)]; omega)
/-- Beyond the first one, no byte of a command is below 32. -/
theorem btL_hi (k a b r : Int) (h : isC k a b r = true) (hk : k ≠ 1) (j : Nat) (h1 : 1 ≤ j) (hj : j < (btL k a b).length) : 32 ≤ (btL k a b).getD j 0 := by
  have hc := (isC_iff k a b r).1 h
  have gen : ∀ (x : Int) (l : List Int), (∀ y ∈ l, 32 ≤ y) → ∀ j, 1 ≤ j → j < (x :: l).length → 32 ≤ (x :: l).getD j 0 := by
    intro x l hl j h1 hj
    obtain ⟨i, rfl⟩ : ∃ i, j = i + 1 := ⟨j - 1, by omega⟩
    have hi : i < l.length := by simpa using hj
    have e : (x :: l).getD (i + 1) 0 = l[i] := by simp [List.getD, hi]
    rw [e]
    exact hl _ (List.getElem_mem hi)
  have d1 := dg_bd (a + 1)
  have d2 := dg_bd (b + 1)
  have d3 := dg_bd a
  revert hj
  unfold btL
  split
  · intro hj
    refine gen _ _ ?_ j h1 hj
    intro y hy
    simp at hy
    rcases hy with hx | hx | hx | hx | hx
    all_goals first | omega | (have := d1 (by omega) y hx; omega) | (have := d2 (by omega) y hx; omega)
  · split
    · intro hj
      refine gen _ _ ?_ j h1 hj
      intro y hy
      simp at hy
      rcases hy with hx | hx | hx
      · omega
      · have := d3 (by omega) y hx.2; omega
      · omega
    · repeat' split
      all_goals intro hj
      all_goals refine gen _ _ ?_ j h1 hj
      all_goals simp
theorem bts_hi (k a b r : Int) (h : isC k a b r = true) (j : Nat) (h1 : 1 ≤ j) (hj : j < (bts k a b r).size) : 32 ≤ bt (bts k a b r) j := by
  by_cases hk : k = 1
  · subst hk
    rw [bts_text h] at hj ⊢
    rcases (isC_iff 1 a b r).1 h with hc | hc | hc | hc
    · exact text_hi r hc.2.1 j hj
    all_goals omega
  · rw [bts_form h hk] at hj ⊢
    rw [strOfNums_size] at hj
    rw [bt_list' _ (btL_bd k a b r h hk) j hj]
    exact btL_hi k a b r h hk j h1 hj
theorem bts_one (k a b r : Int) (h : isC k a b r = true) : 1 ≤ (bts k a b r).size := by
  by_cases hk : k = 1
  · subst hk
    rw [bts_text h]
    rcases (isC_iff 1 a b r).1 h with hc | hc | hc | hc
    · exact (put_size r (shw_vld hc.2.1).1).1
    all_goals omega
  · rw [bts_form h hk, strOfNums_size]
    exact (btL_len k a b).1
end Vt
end Go.Proofs.YteafbfgmdknaeaaDoor
