/- The contracts of glyph's and the reference's Is: any number. -/
import Derived.Test.YtapgogfibonglaaDoorProg
import Derived.Test.YtapgogfibonglaaDoorGlP
namespace Go.Proofs.YtapgogfibonglaaDoor
open Go.RowKit Gl L

theorem is_any (r : Int) (w : World) : Calls Tryd.prog 23 #[.int .i32 r] w fun e w' => e = .returned (.bool (vld r)) ∧ w = w' := by
  go_enter Tryd.func23, Tryd.ntmps23
  go_wp2
  all_goals go_ret
  all_goals refine ⟨?_, rfl⟩
  all_goals refine ret_bool ?_
  all_goals rw [Bool.eq_iff_iff, vld_iff]
  all_goals (simp; omega)
theorem ris_any (r : Int) (w : World) : Calls Tryd.prog 24 #[.int .i32 r] w fun e w' => e = .returned (.bool (vld r)) ∧ w = w' := by
  go_enter Tryd.func24, Tryd.ntmps24
  go_wp2
  all_goals go_ret
  all_goals refine ⟨?_, rfl⟩
  all_goals refine ret_bool ?_
  all_goals rw [Bool.eq_iff_iff, vld_iff]
  all_goals (simp; omega)
end Go.Proofs.YtapgogfibonglaaDoor
