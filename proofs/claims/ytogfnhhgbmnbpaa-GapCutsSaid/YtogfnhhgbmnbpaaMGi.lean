/- The contracts of glyph: first words. -/
import Derived.Test.YtogfnhhgbmnbpaaProg
import Derived.Test.YtogfnhhgbmnbpaaMGp
/- The contracts of glyph's and the reference's Is: any number. -/
namespace Go.Proofs.Ytogfnhhgbmnbpaa
open Go.RowKit Gl L
theorem is_any (r : Int) (w : World) : Calls Try.prog 30 #[.int .i32 r] w fun e w' => e = .returned (.bool (vld r)) ∧ w = w' := by
  go_enter Try.func30, Try.ntmps30
  go_wp2
  all_goals go_ret
  all_goals refine ⟨?_, rfl⟩
  all_goals refine ret_bool ?_
  all_goals rw [Bool.eq_iff_iff, vld_iff]
  all_goals (simp; omega)
theorem ris_any (r : Int) (w : World) : Calls Try.prog 29 #[.int .i32 r] w fun e w' => e = .returned (.bool (vld r)) ∧ w = w' := by
  go_enter Try.func29, Try.ntmps29
  go_wp2
  all_goals go_ret
  all_goals refine ⟨?_, rfl⟩
  all_goals refine ret_bool ?_
  all_goals rw [Bool.eq_iff_iff, vld_iff]
  all_goals (simp; omega)
end Go.Proofs.Ytogfnhhgbmnbpaa
/- The contracts of glyph's and the reference's Put: any number. -/
namespace Go.Proofs.Ytogfnhhgbmnbpaa
open Go.RowKit Gl L
end Go.Proofs.Ytogfnhhgbmnbpaa
