/- vt: oneForm, the reference. -/
import Derived.Test.YtgpebdoafblacaaDoorMVc
/- The contract of vt's oneForm at what is not right. -/
set_option linter.unusedVariables false
namespace Go.Proofs.YtgpebdoafblacaaDoor
open Go.RowKit Gl L Vt
set_option maxHeartbeats 4000000 in
theorem oneForm_no (k a b r : Int) (hk : ¬ (1 ≤ k ∧ k ≤ 6)) (hc : isC k a b r = false) (w : World) (F : Forms w 0) : Calls Tryd.prog 50 #[.agg #[.int .i64 k, .int .i64 a, .int .i64 b, .int .i32 r]] w fun e w' => e = .returned (.tuple #[.agg #[.string (bts k a b r), .int .i64 (pads k a b r)], .bool (isC k a b r)]) ∧ Below w.heap.size w w' := by
  have hlt := World.block_lt_of_cell? w _ F.1
  have hn0 : 0 < w.heap.size := by omega
  obtain ⟨h0, h1, h2, h3, h4, h5, h6, h7, h8, h9, h10, h11⟩ := F
  have i0 := idx0
  have i1 := idx1
  have i2 := idx2
  have i3 := idx3
  have i4 := idx4
  have i5 := idx5
  have hN := Lib.hid hc
  have hE := Lib.hid (bts_no hc)
  have hP := Lib.hid (show pads k a b r = 0 by unfold pads; rw [hc]; rfl)
  go_enter Tryd.func50, Tryd.ntmps50
  go_wp2
  go_rounds 7
  all_goals first
    | (exfalso; rename_i e1 e2 e3 e4; subst e1 e2 e3 e4; exact absurd hN.out (by decide))
    | exact bodyPost_ret (v := .tuple #[.agg #[.string ⟨#[]⟩, .int .i64 0], .bool false]) (by simp [results, Tryd.results50, go_sem]) rfl ⟨by rw [hE.out, hP.out, hN.out], by repeat (first | exact Below.refl _ _ | refine ba ?_ _)⟩
end Go.Proofs.YtgpebdoafblacaaDoor
/- The contract of vt's oneForm at what is right. -/
set_option linter.unusedVariables false
namespace Go.Proofs.YtgpebdoafblacaaDoor
open Go.RowKit Gl L Vt
set_option maxHeartbeats 4000000 in
theorem oneForm_yes (k a b r : Int) (hk : ¬ (1 ≤ k ∧ k ≤ 6)) (hc : isC k a b r = true) (w : World) (F : Forms w 0) : Calls Tryd.prog 50 #[.agg #[.int .i64 k, .int .i64 a, .int .i64 b, .int .i32 r]] w fun e w' => e = .returned (.tuple #[.agg #[.string (bts k a b r), .int .i64 (pads k a b r)], .bool (isC k a b r)]) ∧ Below w.heap.size w w' := by
  have hlt := World.block_lt_of_cell? w _ F.1
  have hn0 : 0 < w.heap.size := by omega
  obtain ⟨h0, h1, h2, h3, h4, h5, h6, h7, h8, h9, h10, h11⟩ := F
  have i0 := idx0
  have i1 := idx1
  have i2 := idx2
  have i3 := idx3
  have i4 := idx4
  have i5 := idx5
  obtain ⟨hk7, hk12, rfl, rfl, rfl⟩ : 7 ≤ k ∧ k ≤ 12 ∧ a = 0 ∧ b = 0 ∧ r = 0 := by
    rcases (isC_iff k a b r).1 hc with h | h | h | h
    · omega
    · omega
    · omega
    · exact h
  rcases (show k = 7 ∨ k = 8 ∨ k = 9 ∨ k = 10 ∨ k = 11 ∨ k = 12 by omega) with rfl | rfl | rfl | rfl | rfl | rfl
  · have hB := Lib.hid (bts_form hc (by decide))
    have hP := Lib.hid (show pads 7 0 0 0 = 1 by unfold pads; rw [hc]; rfl)
    clear hc hk
    go_enter Tryd.func50, Tryd.ntmps50
    go_wp2
    go_rounds 1
    exact bodyPost_ret (v := .tuple #[.agg #[.string ⟨#[27, 91, 75]⟩, .int .i64 1], .bool true]) (by simp [results, Tryd.results50, go_sem]) rfl ⟨by rw [hB.out, hP.out]; rfl, by repeat (first | exact Below.refl _ _ | refine ba ?_ _)⟩
  · have hB := Lib.hid (bts_form hc (by decide))
    have hP := Lib.hid (show pads 8 0 0 0 = 2 by unfold pads; rw [hc]; rfl)
    clear hc hk
    go_enter Tryd.func50, Tryd.ntmps50
    go_wp2
    go_rounds 2
    exact bodyPost_ret (v := .tuple #[.agg #[.string ⟨#[27, 91, 74]⟩, .int .i64 2], .bool true]) (by simp [results, Tryd.results50, go_sem]) rfl ⟨by rw [hB.out, hP.out]; rfl, by repeat (first | exact Below.refl _ _ | refine ba ?_ _)⟩
  · have hB := Lib.hid (bts_form hc (by decide))
    have hP := Lib.hid (show pads 9 0 0 0 = 0 by unfold pads; rw [hc]; rfl)
    clear hc hk
    go_enter Tryd.func50, Tryd.ntmps50
    go_wp2
    go_rounds 3
    exact bodyPost_ret (v := .tuple #[.agg #[.string ⟨#[13]⟩, .int .i64 0], .bool true]) (by simp [results, Tryd.results50, go_sem]) rfl ⟨by rw [hB.out, hP.out]; rfl, by repeat (first | exact Below.refl _ _ | refine ba ?_ _)⟩
  · have hB := Lib.hid (bts_form hc (by decide))
    have hP := Lib.hid (show pads 10 0 0 0 = 0 by unfold pads; rw [hc]; rfl)
    clear hc hk
    go_enter Tryd.func50, Tryd.ntmps50
    go_wp2
    go_rounds 4
    exact bodyPost_ret (v := .tuple #[.agg #[.string ⟨#[10]⟩, .int .i64 0], .bool true]) (by simp [results, Tryd.results50, go_sem]) rfl ⟨by rw [hB.out, hP.out]; rfl, by repeat (first | exact Below.refl _ _ | refine ba ?_ _)⟩
  · have hB := Lib.hid (bts_form hc (by decide))
    have hP := Lib.hid (show pads 11 0 0 0 = 0 by unfold pads; rw [hc]; rfl)
    clear hc hk
    go_enter Tryd.func50, Tryd.ntmps50
    go_wp2
    go_rounds 5
    exact bodyPost_ret (v := .tuple #[.agg #[.string ⟨#[8]⟩, .int .i64 0], .bool true]) (by simp [results, Tryd.results50, go_sem]) rfl ⟨by rw [hB.out, hP.out]; rfl, by repeat (first | exact Below.refl _ _ | refine ba ?_ _)⟩
  · have hB := Lib.hid (bts_form hc (by decide))
    have hP := Lib.hid (show pads 12 0 0 0 = 0 by unfold pads; rw [hc]; rfl)
    clear hc hk
    go_enter Tryd.func50, Tryd.ntmps50
    go_wp2
    go_rounds 6
    exact bodyPost_ret (v := .tuple #[.agg #[.string ⟨#[7]⟩, .int .i64 0], .bool true]) (by simp [results, Tryd.results50, go_sem]) rfl ⟨by rw [hB.out, hP.out]; rfl, by repeat (first | exact Below.refl _ _ | refine ba ?_ _)⟩
end Go.Proofs.YtgpebdoafblacaaDoor
/- The contract of the reference's Is of commands. -/
set_option linter.unusedVariables false
namespace Go.Proofs.YtgpebdoafblacaaDoor
open Go.RowKit Gl L Vt
set_option maxHeartbeats 2000000 in
theorem ris5_any (k a b r : Int) (w : World) : Calls Tryd.prog 34 #[.agg #[.int .i64 k, .int .i64 a, .int .i64 b, .int .i32 r]] w fun e w' => e = .returned (.bool (isC k a b r)) ∧ Below w.heap.size w w' := by
  have hw : ∀ x, Below w.heap.size w (w.alloc x) := fun x => (Below.refl _ _).alloc (Nat.le_refl _) x
  by_cases h1 : k = 1
  · subst h1
    have HI := Lib.hid (show isC 1 a b r = (Wd.shw r && (decide (a = 0) && decide (b = 0))) by unfold isC; rw [if_pos rfl])
    cases hs : Wd.shw r
    all_goals
      have hS := Lib.hid hs
      clear hs
      go_enter Tryd.func34, Tryd.ntmps34
      go_wp2_with fail
      refine (rshown_any _ _).mono ?_
      rintro e w1 ⟨rfl, rfl⟩
      rw [hS.out]
      go_wp2
    all_goals go_ret
    all_goals refine ⟨?_, hw _⟩
    all_goals (rw [HI.out, hS.out]; refine ret_bool ?_; rw [Bool.eq_iff_iff]; simp; try omega)
  have b1 : (k == 1) = false := by simpa using h1
  by_cases hr : r = 0
  · subst hr
    by_cases h2 : k = 2
    · subst h2
      have HI := Lib.hid (show isC 2 a b 0 = decide (0 ≤ a ∧ a ≤ 23 ∧ 0 ≤ b ∧ b ≤ 79 ∧ (0 : Int) = 0) by unfold isC; rw [if_neg (by omega), if_pos rfl])
      clear h1 b1
      go_enter Tryd.func34, Tryd.ntmps34
      go_wp2
      all_goals go_ret
      all_goals refine ⟨?_, hw _⟩
      all_goals (rw [HI.out]; refine ret_bool ?_; rw [Bool.eq_iff_iff]; simp; try omega)
    have b2 : (k == 2) = false := by simpa using h2
    by_cases hb : b = 0
    · subst hb
      have HI := Lib.hid (show isC k a 0 0 = (if 3 ≤ k ∧ k ≤ 6 then decide (1 ≤ a ∧ a ≤ 80 ∧ (0 : Int) = 0 ∧ (0 : Int) = 0) else decide (7 ≤ k ∧ k ≤ 12 ∧ a = 0 ∧ (0 : Int) = 0 ∧ (0 : Int) = 0)) by unfold isC; rw [if_neg h1, if_neg h2])
      clear h1 h2
      go_enter Tryd.func34, Tryd.ntmps34
      go_wp2
      all_goals go_ret
      all_goals refine ⟨?_, hw _⟩
      all_goals (rw [HI.out]; refine ret_bool ?_; rw [Bool.eq_iff_iff]; split <;> simp <;> omega)
    · obtain ⟨c1, c2⟩ := neq_b hb
      have HI := Lib.hid (show isC k a b 0 = false by unfold isC; rw [if_neg h1, if_neg h2]; split <;> simp <;> omega)
      clear h1 h2 hb
      go_enter Tryd.func34, Tryd.ntmps34
      go_wp2
      all_goals go_ret
      all_goals refine ⟨?_, hw _⟩
      all_goals (rw [HI.out]; rfl)
  · obtain ⟨c1, c2⟩ := neq_b hr
    have HI := Lib.hid (show isC k a b r = false by unfold isC; rw [if_neg h1]; split <;> (try split) <;> simp <;> omega)
    clear h1 hr
    go_enter Tryd.func34, Tryd.ntmps34
    go_wp2
    all_goals go_ret
    all_goals refine ⟨?_, hw _⟩
    all_goals (rw [HI.out]; rfl)
end Go.Proofs.YtgpebdoafblacaaDoor
