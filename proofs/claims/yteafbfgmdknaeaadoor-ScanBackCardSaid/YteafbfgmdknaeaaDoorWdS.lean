/- The contracts of wide's and the reference's Shown: any number. -/
import Derived.Test.YteafbfgmdknaeaaDoorGlI
import Derived.Test.YteafbfgmdknaeaaDoorWdP
set_option linter.unusedVariables false
namespace Go.Proofs.YteafbfgmdknaeaaDoor
open Go.RowKit Gl L Wd
theorem shown_any (r : Int) (w : World) : Calls Tryd.prog 32 #[.int .i32 r] w fun e w' => e = .returned (.bool (shw r)) ∧ w = w' := by
  cases hv : vld r
  all_goals
    have H := Lib.hid hv
    clear hv
    go_enter Tryd.func32, Tryd.ntmps32
    go_wp2_with fail
    refine (is_any _ _).mono ?_
    rintro e w' ⟨rfl, rfl⟩
    rw [H.out]
    go_wp2
  all_goals go_ret
  all_goals refine ⟨ret_bool ?_, rfl⟩
  all_goals unfold shw
  all_goals rw [H.out, Bool.eq_iff_iff]
  all_goals simp
  all_goals omega
theorem rshown_any (r : Int) (w : World) : Calls Tryd.prog 48 #[.int .i32 r] w fun e w' => e = .returned (.bool (shw r)) ∧ w = w' := by
  cases hv : vld r
  all_goals
    have H := Lib.hid hv
    clear hv
    go_enter Tryd.func48, Tryd.ntmps48
    go_wp2_with fail
    refine (ris_any _ _).mono ?_
    rintro e w' ⟨rfl, rfl⟩
    rw [H.out]
    go_wp2
  all_goals go_ret
  all_goals refine ⟨ret_bool ?_, rfl⟩
  all_goals unfold shw
  all_goals rw [H.out, Bool.eq_iff_iff]
  all_goals simp
  all_goals omega
end Go.Proofs.YteafbfgmdknaeaaDoor
