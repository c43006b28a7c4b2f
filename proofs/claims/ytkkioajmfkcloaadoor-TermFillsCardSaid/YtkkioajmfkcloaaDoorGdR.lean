/- The contract of the reference's Same of grids. -/
import Derived.Test.YtkkioajmfkcloaaDoorMGe
import Derived.Deep.RegionHeld3
set_option linter.unusedVariables false
namespace Go.Proofs.YtkkioajmfkcloaaDoor
open Go.RowKit Gl L Wd Gd
set_option maxHeartbeats 1000000 in
theorem gsame_any (a b c d : Int) (v1 v2 : Value) (l1 l2 : List (Int × Int)) (w : World) (h1 : Rw w v1 2 l1.length (flat l1)) (h2 : Rw w v2 2 l2.length (flat l2)) (m1 : l1.length ≤ 1000000000) (m2 : l2.length ≤ 1000000000) (he : a = c ∧ b = d ∧ l1 = l2) :
    Calls Tryd.prog 14 #[.agg #[.int .i64 a, .int .i64 b, v1], .agg #[.int .i64 c, .int .i64 d, v2]] w fun e w' => e = .returned (.bool true) ∧ Below w.heap.size w w' := by
  obtain ⟨rfl, rfl, rfl⟩ := he
  have hb0 : Below w.heap.size w ((w.alloc (.cells #[.int .i64 a, .int .i64 b, v1] 24)).alloc (.cells #[.int .i64 a, .int .i64 b, v2] 24)) := ((Below.refl _ _).alloc (Nat.le_refl _) _).alloc (by simp) _
  go_enter Tryd.func14, Tryd.ntmps14
  go_wp2_with fail
  refine (same2_any _ _ l1 l1 _ (h1.below hb0) (h2.below hb0) m1 m1).mono ?_
  rintro e w1 ⟨rfl, hb1⟩
  rw [decide_eq_true rfl]
  go_wp2
  go_ret
  exact ⟨rfl, hb0.trans (hb1.mono hb0.size)⟩
end Go.Proofs.YtkkioajmfkcloaaDoor
