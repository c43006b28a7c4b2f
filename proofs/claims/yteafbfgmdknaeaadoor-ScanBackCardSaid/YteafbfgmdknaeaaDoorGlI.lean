/- The contracts of glyph's and the reference's Is: any number. -/
import Derived.Test.YteafbfgmdknaeaaDoorProg
import Derived.Test.YteafbfgmdknaeaaDoorGlP
namespace Go.Proofs.YteafbfgmdknaeaaDoor
open Go.RowKit Gl L

theorem is_any (r : Int) (w : World) : Calls Tryd.prog 45 #[.int .i32 r] w fun e w' => e = .returned (.bool (vld r)) ∧ w = w' := by
  go_enter Tryd.func45, Tryd.ntmps45
  go_wp2
  all_goals go_ret
  all_goals refine ⟨?_, rfl⟩
  all_goals refine ret_bool ?_
  all_goals rw [Bool.eq_iff_iff, vld_iff]
  all_goals (simp; omega)
theorem ris_any (r : Int) (w : World) : Calls Tryd.prog 49 #[.int .i32 r] w fun e w' => e = .returned (.bool (vld r)) ∧ w = w' := by
  go_enter Tryd.func49, Tryd.ntmps49
  go_wp2
  all_goals go_ret
  all_goals refine ⟨?_, rfl⟩
  all_goals refine ret_bool ?_
  all_goals rw [Bool.eq_iff_iff, vld_iff]
  all_goals (simp; omega)
end Go.Proofs.YteafbfgmdknaeaaDoor
