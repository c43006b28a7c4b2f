/- The contract of big; lengths of what is told. -/
import Derived.Test.YtakokmacfdfjhaaDoorGdY
import Derived.Test.YtakokmacfdfjhaaDoorGdT
import Derived.Test.YtakokmacfdfjhaaDoorGdW
import Derived.Test.YtakokmacfdfjhaaDoorGdR
set_option linter.unusedVariables false
namespace Go.Proofs.YtakokmacfdfjhaaDoor
open Go.RowKit Gl L Wd Gd
namespace Gd
theorem right_len {gw gh : Int} {L : List (Int × Int)} (h : right gw gh L) : L.length ≤ 1920 := by
  obtain ⟨W, H, _, _, r⟩ := right_R h
  rw [r.len]; exact Nat.mul_le_mul r.w80 r.h24
theorem putB_place {gw gh : Int} {L : List (Int × Int)} {x y r : Int} (h : putB gw gh L x y r = true) : place gw gh L x y ∧ shw r = true ∧ (wid r && decide (x = gw - 1)) = false := by
  unfold putB at h
  simp only [Bool.and_eq_true, decide_eq_true_eq, Bool.not_eq_true'] at h
  exact ⟨h.1.1, h.1.2, h.2⟩
/-- What is told of a put that may be. -/
theorem putB_nat {gw gh : Int} {L : List (Int × Int)} {x y r : Int} (h : putB gw gh L x y r = true) : ∃ W H X Y : Nat, gw = W ∧ gh = H ∧ x = X ∧ y = Y ∧ R W H L ∧ X < W ∧ Y < H ∧ shw r = true ∧ X + (cl r).length ≤ W ∧ Y * W + W ≤ L.length := by
  obtain ⟨hp, hs, hw⟩ := putB_place h
  obtain ⟨W, H, X, Y, rfl, rfl, rfl, rfl, hR, hX, hY, _, h2⟩ := place_nat hp
  have := (put_fits (r := r) (X := X) (W := W) hs hX).2 hw
  exact ⟨W, H, X, Y, rfl, rfl, rfl, rfl, hR, hX, hY, hs, by omega, h2⟩
theorem putL_len {gw gh : Int} {L : List (Int × Int)} {x y r : Int} (h : putB gw gh L x y r = true) : (putL gw L x y r).length = L.length := by
  obtain ⟨W, H, X, Y, rfl, rfl, rfl, rfl, _, _, _, _, h1, h2⟩ := putB_nat h
  unfold putL
  simp only [Int.toNat_natCast]
  rw [mend_len, splice_len _ _ _ (by omega)]
theorem blankL_len {gw gh : Int} {L : List (Int × Int)} {fr to : Int} (h : blankB gw gh L fr to = true) : (blankL gw L fr to).length = L.length := by
  unfold blankB at h
  simp only [Bool.and_eq_true, decide_eq_true_eq] at h
  unfold blankL
  rw [mend_len, splice_len _ _ _ (by rw [List.length_replicate]; omega)]
theorem fitV_len {gw gh : Int} {L : List (Int × Int)} {fw fh : Int} (h : fitB gw gh L fw fh = true) : (fitV gw gh L fw fh).length ≤ 1920 := by
  unfold fitB at h
  simp only [Bool.and_eq_true, decide_eq_true_eq] at h
  obtain ⟨w', h', rfl, rfl, g2, g80, g1, g24⟩ := sides_of h.2
  unfold fitV
  rw [fitL_len]
  exact Nat.mul_le_mul g80 g24
end Gd
set_option maxHeartbeats 1000000 in
theorem big_any (gw gh : Int) (v : Value) (L : List (Int × Int)) (w : World) (hv : Rw w v 2 L.length (flat L)) :
    Calls Tryd.prog 10 #[.agg #[.int .i64 gw, .int .i64 gh, v]] w fun e w' => e = .returned (.bool (decide (3000 < L.length))) ∧ Below w.heap.size w w' := by
  obtain ⟨A, cap, rfl⟩ : ∃ A cap, v = .slice A L.length cap := ⟨_, _, hv.2.choose_spec.choose_spec.1⟩
  go_enter Tryd.func10, Tryd.ntmps10
  go_wp2
  go_ret
  exact ⟨ret_bool (by rw [decide_eq_decide]; omega), (Below.refl _ _).alloc (Nat.le_refl _) _⟩
end Go.Proofs.YtakokmacfdfjhaaDoor
