/- The contracts of both Is: any cell. -/
import Derived.Test.YtakokmacfdfjhaaDoorWdB
import Derived.BigQuiet
set_option linter.unusedVariables false
namespace Go.Proofs.YtakokmacfdfjhaaDoor
open Go.RowKit Gl L Wd
theorem wis_any (r k : Int) (w : World) (S : Spans w 1) : Calls Tryd.prog 34 #[.agg #[.int .i32 r, .int .i64 k]] w fun e w' => e = .returned (.bool (Wd.ok r k)) ∧ Below w.heap.size w w' := by
  cases h3 : shw r
  · have H3 := Lib.hid h3
    clear h3
    go_enter Tryd.func34, Tryd.ntmps34
    go_wp2_with fail
    refine (shown_any _ _).mono ?_
    rintro e w1 ⟨rfl, rfl⟩
    rw [H3.out]
    go_wp2
    go_ret
    exact ⟨ret_bool (by unfold Wd.ok; rw [H3.out]; rfl), (Below.refl _ _).alloc (Nat.le_refl _) _⟩
  · have H3 := Lib.hid h3
    clear h3
    cases h4 : wid r
    all_goals
      have H4 := Lib.hid h4
      clear h4
      go_enter Tryd.func34, Tryd.ntmps34
      go_wp2_with fail
      refine (shown_any _ _).mono ?_
      rintro e w1 ⟨rfl, rfl⟩
      rw [H3.out]
      go_wp2_with fail
      refine (wide_any _ _ (S.below ((Below.refl _ _).alloc (Nat.le_refl _) _))).mono ?_
      rintro e w1 ⟨rfl, hw1⟩
      rw [H4.out]
      have hc1 := old_cell hw1
      go_wp2
      all_goals go_ret
      all_goals refine ⟨ret_bool ?_, ((Below.refl _ _).alloc (Nat.le_refl _) _).trans (hw1.mono (by simp))⟩
      all_goals unfold Wd.ok
      all_goals rw [H3.out, H4.out, Bool.eq_iff_iff]
      all_goals first | (simp; done) | (simp; omega)
theorem ris2_any (r k : Int) (w : World) : Calls Tryd.prog 36 #[.agg #[.int .i32 r, .int .i64 k]] w fun e w' => e = .returned (.bool (Wd.ok r k)) ∧ Below w.heap.size w w' := by
  cases h3 : shw r
  · have H3 := Lib.hid h3
    clear h3
    go_enter Tryd.func36, Tryd.ntmps36
    go_wp2_with fail
    refine (rshown_any _ _).mono ?_
    rintro e w1 ⟨rfl, rfl⟩
    rw [H3.out]
    go_wp2
    go_ret
    exact ⟨ret_bool (by unfold Wd.ok; rw [H3.out]; rfl), (Below.refl _ _).alloc (Nat.le_refl _) _⟩
  · have H3 := Lib.hid h3
    clear h3
    cases h4 : wid r
    all_goals
      have H4 := Lib.hid h4
      clear h4
      go_enter Tryd.func36, Tryd.ntmps36
      go_wp2_with fail
      refine (rshown_any _ _).mono ?_
      rintro e w1 ⟨rfl, rfl⟩
      rw [H3.out]
      go_wp2_with fail
      refine (rwide_any _ _).mono ?_
      rintro e w1 ⟨rfl, rfl⟩
      rw [H4.out]
      go_wp2
      all_goals go_ret
      all_goals refine ⟨ret_bool ?_, (Below.refl _ _).alloc (Nat.le_refl _) _⟩
      all_goals unfold Wd.ok
      all_goals rw [H3.out, H4.out, Bool.eq_iff_iff]
      all_goals first | (simp; done) | (simp; omega)
end Go.Proofs.YtakokmacfdfjhaaDoor
