/- The contract of the reference's Is of commands. -/
import Derived.Test.YtkkioajmfkcloaaGreatDoorMVc
set_option linter.unusedVariables false
namespace Go.Proofs.YtkkioajmfkcloaaGreatDoor
open Go.RowKit Gl L Vt
set_option maxHeartbeats 2000000 in
theorem ris5_any (k a b r : Int) (w : World) : Calls Tryz.prog 16 #[.agg #[.int .i64 k, .int .i64 a, .int .i64 b, .int .i32 r]] w fun e w' => e = .returned (.bool (isC k a b r)) ∧ Below w.heap.size w w' := by
  have hw : ∀ x, Below w.heap.size w (w.alloc x) := fun x => (Below.refl _ _).alloc (Nat.le_refl _) x
  by_cases h1 : k = 1
  · subst h1
    have HI := Lib.hid (show isC 1 a b r = (Wd.shw r && (decide (a = 0) && decide (b = 0))) by unfold isC; rw [if_pos rfl])
    cases hs : Wd.shw r
    all_goals
      have hS := Lib.hid hs
      clear hs
      go_enter Tryz.func16, Tryz.ntmps16
      go_wp2_with fail
      refine (rshown_any _ _).mono ?_
      rintro e w1 ⟨rfl, rfl⟩
      rw [hS.out]
      go_wp2
    all_goals go_ret
    all_goals refine ⟨?_, hw _⟩
    all_goals (rw [HI.out, hS.out]; refine ret_bool ?_; rw [Bool.eq_iff_iff]; simp; try omega)
  have b1 : (k == 1) = false := by simpa using h1
  by_cases hr : r = 0
  · subst hr
    by_cases h2 : k = 2
    · subst h2
      have HI := Lib.hid (show isC 2 a b 0 = decide (0 ≤ a ∧ a ≤ 23 ∧ 0 ≤ b ∧ b ≤ 79 ∧ (0 : Int) = 0) by unfold isC; rw [if_neg (by omega), if_pos rfl])
      clear h1 b1
      go_enter Tryz.func16, Tryz.ntmps16
      go_wp2
      all_goals go_ret
      all_goals refine ⟨?_, hw _⟩
      all_goals (rw [HI.out]; refine ret_bool ?_; rw [Bool.eq_iff_iff]; simp; try omega)
    have b2 : (k == 2) = false := by simpa using h2
    by_cases hb : b = 0
    · subst hb
      have HI := Lib.hid (show isC k a 0 0 = (if 3 ≤ k ∧ k ≤ 6 then decide (1 ≤ a ∧ a ≤ 80 ∧ (0 : Int) = 0 ∧ (0 : Int) = 0) else decide (7 ≤ k ∧ k ≤ 12 ∧ a = 0 ∧ (0 : Int) = 0 ∧ (0 : Int) = 0)) by unfold isC; rw [if_neg h1, if_neg h2])
      clear h1 h2
      go_enter Tryz.func16, Tryz.ntmps16
      go_wp2
      all_goals go_ret
      all_goals refine ⟨?_, hw _⟩
      all_goals (rw [HI.out]; refine ret_bool ?_; rw [Bool.eq_iff_iff]; split <;> simp <;> omega)
    · obtain ⟨c1, c2⟩ := neq_b hb
      have HI := Lib.hid (show isC k a b 0 = false by unfold isC; rw [if_neg h1, if_neg h2]; split <;> simp <;> omega)
      clear h1 h2 hb
      go_enter Tryz.func16, Tryz.ntmps16
      go_wp2
      all_goals go_ret
      all_goals refine ⟨?_, hw _⟩
      all_goals (rw [HI.out]; rfl)
  · obtain ⟨c1, c2⟩ := neq_b hr
    have HI := Lib.hid (show isC k a b r = false by unfold isC; rw [if_neg h1]; split <;> (try split) <;> simp <;> omega)
    clear h1 hr
    go_enter Tryz.func16, Tryz.ntmps16
    go_wp2
    all_goals go_ret
    all_goals refine ⟨?_, hw _⟩
    all_goals (rw [HI.out]; rfl)
end Go.Proofs.YtkkioajmfkcloaaGreatDoor
