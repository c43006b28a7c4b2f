/- The contracts of vt's Put: any command. Condition: the table of the kinds with one form as the program lays it. -/
import Derived.Test.YteafbfgmdknaeaaDoorVtT
import Derived.Test.YteafbfgmdknaeaaDoorVtQ
set_option linter.unusedVariables false
namespace Go.Proofs.YteafbfgmdknaeaaDoor
open Go.RowKit Gl L Vt
theorem vput_any (k a b r : Int) (w : World) (F : Forms w 0) : Calls Tryd.prog 14 #[.agg #[.int .i64 k, .int .i64 a, .int .i64 b, .int .i32 r]] w fun e w' => e = .returned (pv k a b r) ∧ Below w.heap.size w w' := by
  have HF := Lib.hid (fun (x : Obj) => F.below ((Below.refl _ _).alloc (Nat.le_refl _) x))
  cases h : isC k a b r
  · have hP := Lib.hid (pv_no h)
    have hT := Lib.hid (fun wz hf => told_any k a b r wz hf)
    have hN := Lib.hid h
    clear h
    go_enter Tryd.func14, Tryd.ntmps14
    go_wp2_with fail
    refine (hT.out _ (HF.out _)).mono ?_
    rintro e w1 ⟨rfl, hw1⟩
    unfold tld
    rw [hN.out]
    have hc1 := old_cell hw1
    have hwb := bl1 hw1
    go_wp2
    go_ret2
    exact ⟨by rw [hP.out]; rfl, hwb.alloc hwb.size _⟩
  · have hP := Lib.hid (pv_yes h)
    have hT := Lib.hid (fun wz hf => told_any k a b r wz hf)
    have hN := Lib.hid h
    clear h
    go_enter Tryd.func14, Tryd.ntmps14
    go_wp2_with fail
    refine (hT.out _ (HF.out _)).mono ?_
    rintro e w1 ⟨rfl, hw1⟩
    unfold tld
    rw [hN.out]
    have hc1 := old_cell hw1
    have hwb := bl1 hw1
    go_wp2
    go_ret2
    exact ⟨by rw [hP.out]; rfl, hwb.alloc hwb.size _⟩
end Go.Proofs.YteafbfgmdknaeaaDoor
