/- The contract of vt's place. -/
import Derived.Test.YteafbfgmdknaeaaDoorVtB
set_option linter.unusedVariables false
namespace Go.Proofs.YteafbfgmdknaeaaDoor
open Go.RowKit Gl L Vt
set_option maxHeartbeats 8000000 in
theorem place_any (k a b r : Int) (w : World) : Calls Tryd.prog 28 #[.agg #[.int .i64 k, .int .i64 a, .int .i64 b, .int .i32 r]] w fun e w' => e = .returned (.tuple #[.agg #[.string (bts 2 a b r), .int .i64 0], .bool (isC 2 a b r)]) ∧ Below w.heap.size w w' := by
  cases hc : isC 2 a b r
  · have hN := Lib.hid hc
    have hE := Lib.hid (bts_no hc)
    have hb : ¬ (0 ≤ a ∧ a ≤ 23 ∧ 0 ≤ b ∧ b ≤ 79 ∧ r = 0) := by
      unfold isC at hc; rw [if_neg (by omega), if_pos rfl] at hc; exact of_decide_eq_false hc
    have hs : (a < 0) ∨ (¬ a < 0 ∧ 24 ≤ a) ∨ (¬ a < 0 ∧ ¬ 24 ≤ a ∧ b < 0) ∨ (¬ a < 0 ∧ ¬ 24 ≤ a ∧ ¬ b < 0 ∧ 80 ≤ b) ∨ (¬ a < 0 ∧ ¬ 24 ≤ a ∧ ¬ b < 0 ∧ ¬ 80 ≤ b ∧ r ≠ 0) := by omega
    clear hc hb
    rcases hs with h1 | ⟨h1, h2⟩ | ⟨h1, h2, h3⟩ | ⟨h1, h2, h3, h4⟩ | ⟨h1, h2, h3, h4, h5⟩
    case inr.inr.inr.inr => 
      obtain ⟨b1, b2⟩ := neq_b h5
      clear h5
      go_enter Tryd.func28, Tryd.ntmps28
      go_wp2
      exact bodyPost_ret (v := .tuple #[.agg #[.string ⟨#[]⟩, .int .i64 0], .bool false]) (by simp [results, Tryd.results28, go_sem]) rfl ⟨by rw [hE.out], bl2 _ _ _⟩
    all_goals
      go_enter Tryd.func28, Tryd.ntmps28
      go_wp2
      exact bodyPost_ret (v := .tuple #[.agg #[.string ⟨#[]⟩, .int .i64 0], .bool false]) (by simp [results, Tryd.results28, go_sem]) rfl ⟨by rw [hE.out], bl2 _ _ _⟩
  · have hN := Lib.hid hc
    have hE := Lib.hid ((bts_form hc (by decide)).trans (go_bytes a b).symm)
    obtain ⟨h0, h1, h2, h3, rfl⟩ : 0 ≤ a ∧ a ≤ 23 ∧ 0 ≤ b ∧ b ≤ 79 ∧ r = 0 := by
      unfold isC at hc; rw [if_neg (by omega), if_pos rfl] at hc; exact of_decide_eq_true hc
    have s1 : (dS (a + 1)).size ≤ 2 := by unfold dS; rw [strOfNums_size]; exact (dg_len _).2
    have s2 : (dS (b + 1)).size ≤ 2 := by unfold dS; rw [strOfNums_size]; exact (dg_len _).2
    have c1 := Lib.hid (fun x h0 h1 wz => itoa_any x h0 h1 wz)
    clear hc
    have g1 : ¬ a < 0 := by omega
    have g2 : ¬ 24 ≤ a := by omega
    have g3 : ¬ b < 0 := by omega
    have g4 : ¬ 80 ≤ b := by omega
    have t1 : ¬ 9223372036854775807 < 2 + (dS (a + 1)).size := by omega
    have t2 : ¬ 9223372036854775807 < 2 + (dS (a + 1)).size + 1 := by omega
    have t3 : ¬ 9223372036854775807 < 2 + (dS (a + 1)).size + 1 + (dS (b + 1)).size := by omega
    have t4 : ¬ 9223372036854775807 < 2 + (dS (a + 1)).size + 1 + (dS (b + 1)).size + 1 := by omega
    clear s1 s2
    generalize dS = D at *
    go_enter Tryd.func28, Tryd.ntmps28
    go_wp2
    have w1 := IntWalk.i64_in (a + 1) (by omega)
    have w2 := IntWalk.i64_in (b + 1) (by omega)
    go_region_with (first | (go_at_call 42; refine (c1.out _ (by omega) (by omega) _).mono ?_; rintro e w1 ⟨rfl, rfl⟩))
    all_goals go_wp2
    all_goals exact bodyPost_ret (v := .tuple #[.agg #[.string (⟨#[27, 91]⟩ ++ D (a + 1) ++ ⟨#[59]⟩ ++ D (b + 1) ++ ⟨#[72]⟩), .int .i64 0], .bool true]) (by simp [results, Tryd.results28, go_sem]) rfl ⟨by rw [hE.out], (bl2 _ _ _).drew⟩
end Go.Proofs.YteafbfgmdknaeaaDoor
