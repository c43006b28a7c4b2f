/- The contracts of glyph: first words. -/
import Derived.Test.YtkkioajmfkcloaaDoorProg
import Derived.Test.YtkkioajmfkcloaaDoorMGp
/- The contracts of glyph's and the reference's Is: any number. -/
namespace Go.Proofs.YtkkioajmfkcloaaDoor
open Go.RowKit Gl L
theorem is_any (r : Int) (w : World) : Calls Tryd.prog 37 #[.int .i32 r] w fun e w' => e = .returned (.bool (vld r)) ∧ w = w' := by
  go_enter Tryd.func37, Tryd.ntmps37
  go_wp2
  all_goals go_ret
  all_goals refine ⟨?_, rfl⟩
  all_goals refine ret_bool ?_
  all_goals rw [Bool.eq_iff_iff, vld_iff]
  all_goals (simp; omega)
theorem ris_any (r : Int) (w : World) : Calls Tryd.prog 73 #[.int .i32 r] w fun e w' => e = .returned (.bool (vld r)) ∧ w = w' := by
  go_enter Tryd.func73, Tryd.ntmps73
  go_wp2
  all_goals go_ret
  all_goals refine ⟨?_, rfl⟩
  all_goals refine ret_bool ?_
  all_goals rw [Bool.eq_iff_iff, vld_iff]
  all_goals (simp; omega)
end Go.Proofs.YtkkioajmfkcloaaDoor
/- The contracts of glyph's and the reference's Put: any number. -/
namespace Go.Proofs.YtkkioajmfkcloaaDoor
open Go.RowKit Gl L
theorem put_any (r : Int) (w : World) : Calls Tryd.prog 67 #[.int .i32 r] w fun e w' => e = .returned (.tuple #[.string (putS r), .int .i64 (putE r)]) ∧ w = w' := by
  cases hv : vld r
  all_goals
    have H := Lib.hid hv
    clear hv
    go_enter Tryd.func67, Tryd.ntmps67
    go_wp2_with fail
    refine (is_any _ _).mono ?_
    rintro e w' ⟨rfl, rfl⟩
    rw [H.out]
    go_wp2
    go_ret2
    exact ⟨by simp [putS, putE, H.out], rfl⟩
end Go.Proofs.YtkkioajmfkcloaaDoor
