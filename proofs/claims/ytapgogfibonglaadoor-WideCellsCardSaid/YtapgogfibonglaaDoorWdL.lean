/- The walks of WideCells and WideIs: each returns true, and turns nothing that was there. -/
import Derived.Test.YtapgogfibonglaaDoorWdF
import Derived.Deep.RegionHeld3
set_option linter.unusedVariables false
namespace Go.Proofs.YtapgogfibonglaaDoor
open Go.RowKit Gl L Wd
set_option maxHeartbeats 1000000 in
theorem cells_law (r : Int) (w : World) (S : Spans w 0) : Calls Tryd.prog 3 #[.int .i32 r] w fun e w' => e = .returned (.bool true) ∧ Below w.heap.size w w' := by
  have hl := cl_len r
  go_enter Tryd.func3, Tryd.ntmps3
  go_wp2_with fail
  refine (widths_any _ S).mono ?_
  rintro e w1 ⟨rfl, hw1⟩
  go_wp2_with fail
  refine (cells_any _ _ (S.below hw1)).mono ?_
  rintro e w2 ⟨g, cap, rfl, hr2, hw2⟩
  have hw12 := hw1.trans (hw2.mono hw1.size)
  go_wp2_with fail
  refine (rcells_any _ _).mono ?_
  rintro e w3 ⟨g3, cap3, rfl, hr3, hw3⟩
  have hw13 := hw12.trans (hw3.mono hw12.size)
  go_wp2_with fail
  refine (same2_any _ _ (cl r) (cl r) _ (hr2.below hw3) hr3 (by omega) (by omega)).mono ?_
  rintro e w4 ⟨rfl, hw4⟩
  rw [decide_eq_true rfl]
  have hw14 := hw13.trans (hw4.mono hw13.size)
  go_wp2_with fail
  refine (width_any _ _ (S.below hw14)).mono ?_
  rintro e w5 ⟨rfl, hw5⟩
  have hw15 := hw14.trans (hw5.mono hw14.size)
  go_wp2_with fail
  refine (rwidth_any _ _).mono ?_
  rintro e w6 ⟨rfl, hw6⟩
  have hw16 := hw15.trans (hw6.mono hw15.size)
  go_wp2
  go_ret
  exact ⟨by simp, hw16⟩
theorem keepS {w w1 w2 : World} {n : Nat} {x y : Value} (hb : Below w1.heap.size w1 w2) (h : w1.cell? ⟨n, 0, none⟩ = some x ∧ w1.cell? ⟨n, 1, none⟩ = some y ∧ Below w.heap.size w w1) :
    w2.cell? ⟨n, 0, none⟩ = some x ∧ w2.cell? ⟨n, 1, none⟩ = some y ∧ Below w.heap.size w w2 := by
  obtain ⟨h0, h1, hw⟩ := h
  exact ⟨by rw [old_cell hb _ _ (World.block_lt_of_cell? w1 _ h0)]; exact h0, by rw [old_cell hb _ _ (World.block_lt_of_cell? w1 _ h1)]; exact h1, hw.trans (hb.mono hw.size)⟩
set_option maxHeartbeats 4000000 in
theorem is_law (r k : Int) (w : World) (S : Spans w 0) : Calls Tryd.prog 4 #[.agg #[.int .i32 r, .int .i64 k]] w fun e w' => e = .returned (.bool true) ∧ Below w.heap.size w w' := by
  go_enter Tryd.func4, Tryd.ntmps4
  go_wp2
  go_region_held3 (fun w' => w'.cell? ⟨w.heap.size, 0, none⟩ = some (.int .i32 r) ∧ w'.cell? ⟨w.heap.size, 1, none⟩ = some (.int .i64 k) ∧ Below w.heap.size w w') (first | exact keepS (by assumption) (by assumption) | (go_keep; done) | exact ⟨by simp, by simp, ((Below.refl _ _).alloc (Nat.le_refl _) _).drew⟩)
    (first | (go_at_call 8; refine (widths_any _ ?_).mono ?_; (exact S.below (And.right (And.right (by assumption)))); rintro e w' ⟨rfl, hb⟩)
           | (go_at_call 14; refine (shown_any _ _).mono ?_; rintro e w' ⟨rfl, rfl⟩)
           | (go_at_call 15; refine (rshown_any _ _).mono ?_; rintro e w' ⟨rfl, rfl⟩)
           | (go_at_call 16; refine (wide_any _ _ ?_).mono ?_; (exact S.below (And.right (And.right (by assumption)))); rintro e w' ⟨rfl, hb⟩)
           | (go_at_call 17; refine (rwide_any _ _).mono ?_; rintro e w' ⟨rfl, rfl⟩)
           | (go_at_call 18; refine (wis_any _ _ _ ?_).mono ?_; (exact S.below (And.right (And.right (by assumption)))); rintro e w' ⟨rfl, hb⟩)
           | (go_at_call 19; refine (ris2_any _ _ _).mono ?_; rintro e w' ⟨rfl, hb⟩))
  all_goals go_wp2
  all_goals go_ret
  all_goals refine ⟨by simp, ?_⟩
  all_goals exact And.right (And.right (by assumption))
end Go.Proofs.YtapgogfibonglaaDoor
