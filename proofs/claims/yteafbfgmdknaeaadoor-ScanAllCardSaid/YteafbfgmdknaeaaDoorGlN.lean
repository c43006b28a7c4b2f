/- The contract of glyph.Next: any string, the two tables of the library laid. -/
import Derived.Test.YteafbfgmdknaeaaDoorGlF
import Derived.Test.YteafbfgmdknaeaaDoorGlV
namespace Go.Proofs.YteafbfgmdknaeaaDoor
open Go.RowKit Go.PlainAid Gl L
theorem first_any (s : ByteArray) (w : World) (hs : s.size ≤ 9223372036854775807) (h1 : 1 ≤ s.size) :
   Calls Tryd.prog 44 #[.string s] w fun e w' => e = .returned (.tuple #[.int .i32 (decR s 0), .int .i64 (decN s 0)]) ∧ Below w.heap.size w w' := by
  obtain ⟨d1, d2⟩ := dec_bounds s 0 h1
  have hs' := hs
  have n0 := fun ty => run_next_dec (P := Tryd.prog) w s 0 ty h1
  rcases Nat.lt_or_ge (decN s 0) s.size with hd | hd
  · have n1 := fun ty => run_next_dec (P := Tryd.prog) w s (decN s 0) ty (by omega)
    go_enter Tryd.func44, Tryd.ntmps44
    go_wp2
    refine wp_loop_rounds 2 ?_
    rw [rounds_succ]
    go_wp2
    rw [rounds_succ]
    go_wp2
    go_ret2
    exact ⟨rfl, (Below.refl _ _).alloc (Nat.le_refl _) _⟩
  · have n1 := fun ty => run_next_end (P := Tryd.prog) w s (decN s 0) ty (by omega)
    go_enter Tryd.func44, Tryd.ntmps44
    go_wp2
    refine wp_loop_rounds 2 ?_
    rw [rounds_succ]
    go_wp2
    rw [rounds_succ]
    go_wp2
    go_ret2
    exact ⟨ret_2 rfl (v_int (by omega)), (Below.refl _ _).alloc (Nat.le_refl _) _⟩
theorem next_any (s : ByteArray) (w : World) (hs : s.size ≤ maxLen) (T : Tabs w 1 2) :
   Calls Tryd.prog 31 #[.string s] w fun e w' => e = .returned (.tuple #[.int .i32 (nextR s), .int .i64 (nextN s), .int .i64 (nextE s)]) ∧ Below w.heap.size w w' := by
  by_cases h1 : 1 ≤ s.size
  · have hne := ne_empty s h1
    cases hm : moreB s
    all_goals
      have hf : fullB s = !(moreB s) := by simp [fullB, h1]
      rw [hm] at hf
      have HF := Lib.hid hf
      have HM := Lib.hid hm
      clear hf hm
      go_enter Tryd.func31, Tryd.ntmps31
      go_wp2_with fail
      refine (full_any _ _ hs T).mono ?_
      rintro e w1 ⟨rfl, hw1⟩
      rw [HF.out]
      go_wp2_with fail
    · refine (first_any _ _ hs h1).mono ?_
      rintro e w2 ⟨rfl, hw2⟩
      go_wp2_with fail
      go_ret3
      obtain ⟨n1, n2, n3⟩ := next_ok s h1 HM.out
      exact ⟨ret_3 (v_int n1.symm) (v_int (by rw [n2])) (v_int n3.symm), hw1.trans (hw2.mono hw1.size)⟩
    · go_ret3
      obtain ⟨n1, n2, n3⟩ := next_more s h1 HM.out
      exact ⟨ret_3 (v_int n1.symm) (v_int (by rw [n2]; rfl)) (v_int n3.symm), hw1⟩
  · obtain rfl := of_size_zero s (by omega)
    go_enter Tryd.func31, Tryd.ntmps31
    go_wp2
    go_ret3
    exact ⟨rfl, Below.refl _ _⟩
end Go.Proofs.YteafbfgmdknaeaaDoor
