/- The statements' examples hold. -/
import Derived.Test.YtapgogfibonglaaDoorWdE
set_option linter.unusedVariables false
namespace Go.Proofs.YtapgogfibonglaaDoor
open Go.RowKit Gl L Wd
namespace Wd
theorem ex_row : row [97, 1, 20013, -1] = [(97, 0), (94, 0), (65, 0), (20013, 1), (20013, 2), (65533, 0)] := by decide +kernel
theorem ex_vals : wd 20013 = 2 ∧ wd 97 = 1 ∧ wid 20013 = true ∧ wid 97 = false ∧ shw 97 = true ∧ shw 127 = false ∧ Wd.ok 97 0 = true ∧ Wd.ok 97 1 = false := by decide +kernel
end Wd
set_option maxRecDepth 100000 in
set_option maxHeartbeats 2000000 in
theorem widths_any (w : World) (S : Spans w 0) : Calls Tryd.prog 8 #[] w fun e w' => e = .returned (.bool true) ∧ Below w.heap.size w w' := by
  have hE := Lib.hid ex_vals
  have hR := Lib.hid ex_row
  go_enter Tryd.func8, Tryd.ntmps8
  go_wp2_with fail
  refine (row_any _ [97, 1, 20013, -1] _ (IsRow.new w .i32 [97, 1, 20013, -1] 21 4) (by decide) (S.below ((Below.refl _ _).alloc (Nat.le_refl _) _))).mono ?_
  rintro e w1 ⟨g1, cap1, rfl, hcap1, hown, hw1⟩
  have hr := Rw.of_owns hown
  rw [hR.out] at hr ⊢
  have hw := ((Below.refl w.heap.size w).alloc (Nat.le_refl _) (.cells #[.int .i32 97, .int .i32 1, .int .i32 20013, .int .i32 (-1)] 21)).trans (hw1.mono (by simp))
  clear hown hw1
  go_wp2_with fail
  refine (same2_any _ _ [(97, 0), (94, 0), (65, 0), (20013, 1), (20013, 2), (65533, 0)] [(97, 0), (94, 0), (65, 0), (20013, 1), (20013, 2), (65533, 0)] _ (hr.alloc _) (Rw.lit w1 #[.int .i32 97, .int .i64 0, .int .i32 94, .int .i64 0, .int .i32 65, .int .i64 0, .int .i32 20013, .int .i64 1, .int .i32 20013, .int .i64 2, .int .i32 65533, .int .i64 0] 29 2 6 6 (by simp)) (by decide) (by decide)).mono ?_
  rintro e w2 ⟨rfl, hw2⟩
  rw [decide_eq_true rfl]
  have hw := (hw.alloc hw.size _).trans (hw2.mono (Nat.le_trans hw.size (by simp)))
  clear hw2 hr
  go_wp2_with fail
  refine (width_any _ _ (S.below hw)).mono ?_
  rintro e w3 ⟨rfl, hw3⟩
  rw [hE.out.1]
  have hw := hw.trans (hw3.mono hw.size)
  clear hw3
  go_wp2_with fail
  refine (width_any _ _ (S.below hw)).mono ?_
  rintro e w4 ⟨rfl, hw3⟩
  rw [hE.out.2.1]
  have hw := hw.trans (hw3.mono hw.size)
  clear hw3
  go_wp2_with fail
  refine (wide_any _ _ (S.below hw)).mono ?_
  rintro e w5 ⟨rfl, hw3⟩
  rw [hE.out.2.2.1]
  have hw := hw.trans (hw3.mono hw.size)
  clear hw3
  go_wp2_with fail
  refine (wide_any _ _ (S.below hw)).mono ?_
  rintro e w6 ⟨rfl, hw3⟩
  rw [hE.out.2.2.2.1]
  have hw := hw.trans (hw3.mono hw.size)
  clear hw3
  go_wp2_with fail
  refine (shown_any _ _).mono ?_
  rintro e w7 ⟨rfl, rfl⟩
  rw [hE.out.2.2.2.2.1]
  go_wp2_with fail
  refine (shown_any _ _).mono ?_
  rintro e w7 ⟨rfl, rfl⟩
  rw [hE.out.2.2.2.2.2.1]
  go_wp2_with fail
  refine (wis_any _ _ _ (S.below hw)).mono ?_
  rintro e w7 ⟨rfl, hw3⟩
  rw [hE.out.2.2.2.2.2.2.1]
  have hw := hw.trans (hw3.mono hw.size)
  clear hw3
  go_wp2_with fail
  refine (wis_any _ _ _ (S.below hw)).mono ?_
  rintro e w8 ⟨rfl, hw3⟩
  rw [hE.out.2.2.2.2.2.2.2]
  have hw := hw.trans (hw3.mono hw.size)
  clear hw3
  go_wp2
  go_ret
  exact ⟨rfl, hw⟩
end Go.Proofs.YtapgogfibonglaaDoor
