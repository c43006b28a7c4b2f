/- The contract of vt's move. -/
import Derived.Test.YteafbfgmdknaeaaDoorVtB
set_option linter.unusedVariables false
namespace Go.Proofs.YteafbfgmdknaeaaDoor
open Go.RowKit Gl L Vt
set_option maxHeartbeats 1000000 in
theorem move_any (k a b r : Int) (hk : 3 ≤ k ∧ k ≤ 6) (w : World) : Calls Tryd.prog 29 #[.agg #[.int .i64 k, .int .i64 a, .int .i64 b, .int .i32 r]] w fun e w' => e = .returned (.tuple #[.agg #[.string (bts k a b r), .int .i64 0], .bool (isC k a b r)]) ∧ Below w.heap.size w w' := by
  cases hc : isC k a b r
  · have hN := Lib.hid hc
    have hE := Lib.hid (bts_no hc)
    have hb : ¬ (1 ≤ a ∧ a ≤ 80 ∧ b = 0 ∧ r = 0) := by
      unfold isC at hc; rw [if_neg (by omega), if_neg (by omega), if_pos (by omega)] at hc; exact of_decide_eq_false hc
    have hs : (a < 1) ∨ (¬ a < 1 ∧ 80 < a) ∨ (¬ a < 1 ∧ ¬ 80 < a ∧ b ≠ 0) ∨ (¬ a < 1 ∧ ¬ 80 < a ∧ b = 0 ∧ r ≠ 0) := by omega
    clear hc hb hk
    rcases hs with h1 | ⟨h1, h2⟩ | ⟨h1, h2, h3⟩ | ⟨h1, h2, rfl, h3⟩
    case inr.inr.inl =>
      obtain ⟨b1, b2⟩ := neq_b h3
      clear h3
      go_enter Tryd.func29, Tryd.ntmps29
      go_wp2
      exact bodyPost_ret (v := .tuple #[.agg #[.string ⟨#[]⟩, .int .i64 0], .bool false]) (by simp [results, Tryd.results29, go_sem]) rfl ⟨by rw [hE.out], bl2 _ _ _⟩
    case inr.inr.inr =>
      obtain ⟨b1, b2⟩ := neq_b h3
      clear h3
      go_enter Tryd.func29, Tryd.ntmps29
      go_wp2
      exact bodyPost_ret (v := .tuple #[.agg #[.string ⟨#[]⟩, .int .i64 0], .bool false]) (by simp [results, Tryd.results29, go_sem]) rfl ⟨by rw [hE.out], bl2 _ _ _⟩
    all_goals
      go_enter Tryd.func29, Tryd.ntmps29
      go_wp2
      exact bodyPost_ret (v := .tuple #[.agg #[.string ⟨#[]⟩, .int .i64 0], .bool false]) (by simp [results, Tryd.results29, go_sem]) rfl ⟨by rw [hE.out], bl2 _ _ _⟩
  · have hN := Lib.hid hc
    obtain ⟨h0, h1, rfl, rfl⟩ : 1 ≤ a ∧ a ≤ 80 ∧ b = 0 ∧ r = 0 := by
      unfold isC at hc; rw [if_neg (by omega), if_neg (by omega), if_pos (by omega)] at hc; exact of_decide_eq_true hc
    have hE := bts_form hc (by omega)
    have c1 := Lib.hid (fun wz => itoa_any a (by omega) (by omega) wz)
    have s1 : (dS a).size ≤ 2 := by unfold dS; rw [strOfNums_size]; exact (dg_len _).2
    have g1 : ¬ a < 1 := by omega
    have g2 : ¬ 80 < a := by omega
    by_cases g : 1 < a
    · have hM := hE.trans (move_bytes k a (by omega) (dS a) (by rw [if_pos g]) 0).symm
      clear hc hE
      rcases (show k = 3 ∨ k = 4 ∨ k = 5 ∨ k = 6 by omega) with rfl | rfl | rfl | rfl
      all_goals
        have HM := Lib.hid hM
        clear hM hk
        go_enter Tryd.func29, Tryd.ntmps29
        go_wp2_with fail
        refine (c1.out _).mono ?_
        rintro e w1 ⟨rfl, rfl⟩
        go_wp2
      · exact bodyPost_ret (v := .tuple #[.agg #[.string (⟨#[27, 91]⟩ ++ dS a ++ (((⟨#[65, 66, 67, 68]⟩ : ByteArray).extract 0 4).extract 0 1)), .int .i64 0], .bool true]) (by simp [results, Tryd.results29, go_sem]) rfl ⟨by rw [show (((⟨#[65, 66, 67, 68]⟩ : ByteArray).extract 0 4).extract 0 1) = strOfNums [62 + 3] by decide, HM.out], bl2 _ _ _⟩
      · exact bodyPost_ret (v := .tuple #[.agg #[.string (⟨#[27, 91]⟩ ++ dS a ++ (((⟨#[65, 66, 67, 68]⟩ : ByteArray).extract 1 4).extract 0 1)), .int .i64 0], .bool true]) (by simp [results, Tryd.results29, go_sem]) rfl ⟨by rw [show (((⟨#[65, 66, 67, 68]⟩ : ByteArray).extract 1 4).extract 0 1) = strOfNums [62 + 4] by decide, HM.out], bl2 _ _ _⟩
      · exact bodyPost_ret (v := .tuple #[.agg #[.string (⟨#[27, 91]⟩ ++ dS a ++ (((⟨#[65, 66, 67, 68]⟩ : ByteArray).extract 2 4).extract 0 1)), .int .i64 0], .bool true]) (by simp [results, Tryd.results29, go_sem]) rfl ⟨by rw [show (((⟨#[65, 66, 67, 68]⟩ : ByteArray).extract 2 4).extract 0 1) = strOfNums [62 + 5] by decide, HM.out], bl2 _ _ _⟩
      · exact bodyPost_ret (v := .tuple #[.agg #[.string (⟨#[27, 91]⟩ ++ dS a ++ (((⟨#[65, 66, 67, 68]⟩ : ByteArray).extract 3 4).extract 0 1)), .int .i64 0], .bool true]) (by simp [results, Tryd.results29, go_sem]) rfl ⟨by rw [show (((⟨#[65, 66, 67, 68]⟩ : ByteArray).extract 3 4).extract 0 1) = strOfNums [62 + 6] by decide, HM.out], bl2 _ _ _⟩
    · have hM := hE.trans (move_bytes k a (by omega) ⟨#[]⟩ (by rw [if_neg g]) 0).symm
      clear hc hE
      rcases (show k = 3 ∨ k = 4 ∨ k = 5 ∨ k = 6 by omega) with rfl | rfl | rfl | rfl
      all_goals
        have HM := Lib.hid hM
        clear hM hk
        go_enter Tryd.func29, Tryd.ntmps29
        go_wp2
      · exact bodyPost_ret (v := .tuple #[.agg #[.string (⟨#[27, 91]⟩ ++ ⟨#[]⟩ ++ (((⟨#[65, 66, 67, 68]⟩ : ByteArray).extract 0 4).extract 0 1)), .int .i64 0], .bool true]) (by simp [results, Tryd.results29, go_sem]) rfl ⟨by rw [show (((⟨#[65, 66, 67, 68]⟩ : ByteArray).extract 0 4).extract 0 1) = strOfNums [62 + 3] by decide, HM.out], bl2 _ _ _⟩
      · exact bodyPost_ret (v := .tuple #[.agg #[.string (⟨#[27, 91]⟩ ++ ⟨#[]⟩ ++ (((⟨#[65, 66, 67, 68]⟩ : ByteArray).extract 1 4).extract 0 1)), .int .i64 0], .bool true]) (by simp [results, Tryd.results29, go_sem]) rfl ⟨by rw [show (((⟨#[65, 66, 67, 68]⟩ : ByteArray).extract 1 4).extract 0 1) = strOfNums [62 + 4] by decide, HM.out], bl2 _ _ _⟩
      · exact bodyPost_ret (v := .tuple #[.agg #[.string (⟨#[27, 91]⟩ ++ ⟨#[]⟩ ++ (((⟨#[65, 66, 67, 68]⟩ : ByteArray).extract 2 4).extract 0 1)), .int .i64 0], .bool true]) (by simp [results, Tryd.results29, go_sem]) rfl ⟨by rw [show (((⟨#[65, 66, 67, 68]⟩ : ByteArray).extract 2 4).extract 0 1) = strOfNums [62 + 5] by decide, HM.out], bl2 _ _ _⟩
      · exact bodyPost_ret (v := .tuple #[.agg #[.string (⟨#[27, 91]⟩ ++ ⟨#[]⟩ ++ (((⟨#[65, 66, 67, 68]⟩ : ByteArray).extract 3 4).extract 0 1)), .int .i64 0], .bool true]) (by simp [results, Tryd.results29, go_sem]) rfl ⟨by rw [show (((⟨#[65, 66, 67, 68]⟩ : ByteArray).extract 3 4).extract 0 1) = strOfNums [62 + 6] by decide, HM.out], bl2 _ _ _⟩
end Go.Proofs.YteafbfgmdknaeaaDoor
