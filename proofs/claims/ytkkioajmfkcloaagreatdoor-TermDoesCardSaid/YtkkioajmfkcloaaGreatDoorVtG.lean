/- The contract of vt's oneForm at what is not right. -/
import Derived.Test.YtkkioajmfkcloaaGreatDoorMVc
set_option linter.unusedVariables false
namespace Go.Proofs.YtkkioajmfkcloaaGreatDoor
open Go.RowKit Gl L Vt
set_option maxHeartbeats 4000000 in
theorem oneForm_no (k a b r : Int) (hk : ¬ (1 ≤ k ∧ k ≤ 6)) (hc : isC k a b r = false) (w : World) (F : Forms w 1) : Calls Tryz.prog 44 #[.agg #[.int .i64 k, .int .i64 a, .int .i64 b, .int .i32 r]] w fun e w' => e = .returned (.tuple #[.agg #[.string (bts k a b r), .int .i64 (pads k a b r)], .bool (isC k a b r)]) ∧ Below w.heap.size w w' := by
  have hlt := World.block_lt_of_cell? w _ F.1
  have hn0 : 0 < w.heap.size := by omega
  obtain ⟨h0, h1, h2, h3, h4, h5, h6, h7, h8, h9, h10, h11⟩ := F
  have i0 := idx0
  have i1 := idx1
  have i2 := idx2
  have i3 := idx3
  have i4 := idx4
  have i5 := idx5
  have hN := Lib.hid hc
  have hE := Lib.hid (bts_no hc)
  have hP := Lib.hid (show pads k a b r = 0 by unfold pads; rw [hc]; rfl)
  go_enter Tryz.func44, Tryz.ntmps44
  go_wp2
  go_rounds 7
  all_goals first
    | (exfalso; rename_i e1 e2 e3 e4; subst e1 e2 e3 e4; exact absurd hN.out (by decide))
    | exact bodyPost_ret (v := .tuple #[.agg #[.string ⟨#[]⟩, .int .i64 0], .bool false]) (by simp [results, Tryz.results44, go_sem]) rfl ⟨by rw [hE.out, hP.out, hN.out], by repeat (first | exact Below.refl _ _ | refine ba ?_ _)⟩
end Go.Proofs.YtkkioajmfkcloaaGreatDoor
