/- The contracts of wide's Width and of the reference's Width: any number. -/
import Derived.Test.YtjojbhlhfjaacaaDoorWdB
set_option linter.unusedVariables false
namespace Go.Proofs.YtjojbhlhfjaacaaDoor
open Go.RowKit Gl L Wd
set_option maxHeartbeats 1000000 in
theorem width_any (r : Int) (w : World) (S : Spans w 1) : Calls Tryd.prog 18 #[.int .i32 r] w fun e w' => e = .returned (.int .i64 (wd r)) ∧ Below w.heap.size w w' := by
  go_enter Tryd.func18, Tryd.ntmps18
  go_wp2_with fail
  refine (shape_any _ _ S).mono ?_
  rintro e w1 ⟨rfl, hw1⟩
  unfold two
  go_wp2
  go_ret
  exact ⟨rfl, hw1.alloc hw1.size _⟩
set_option maxHeartbeats 1000000 in
theorem rwidth_any (r : Int) (w : World) : Calls Tryd.prog 27 #[.int .i32 r] w fun e w' => e = .returned (.int .i64 (wd r)) ∧ Below w.heap.size w w' := by
  go_enter Tryd.func27, Tryd.ntmps27
  go_wp2_with fail
  refine (rcells_any _ _).mono ?_
  rintro e w1 ⟨g, cap, rfl, hr, hw1⟩
  go_wp2
  go_ret
  exact ⟨rfl, hw1⟩
end Go.Proofs.YtjojbhlhfjaacaaDoor
