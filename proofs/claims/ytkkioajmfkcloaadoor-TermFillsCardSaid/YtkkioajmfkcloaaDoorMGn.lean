/- The contracts of glyph: what is told next. -/
import Derived.Test.YtkkioajmfkcloaaDoorMGi
import Derived.Test.YtkkioajmfkcloaaDoorMGp
import Derived.BigQuiet
import Derived.Test.YtkkioajmfkcloaaDoorGlF
/- The contracts of the reference's value and whole: strings of 1 to 4 bytes. -/
namespace Go.Proofs.YtkkioajmfkcloaaDoor
open Go.RowKit Go.PlainAid Gl L
end Go.Proofs.YtkkioajmfkcloaaDoor
/- The contracts of the reference's whole, more and Next. -/
namespace Go.Proofs.YtkkioajmfkcloaaDoor
open Go.RowKit Go.PlainAid Gl L
end Go.Proofs.YtkkioajmfkcloaaDoor
/- The contract of glyph.Next: any string, the two tables of the library laid. -/
namespace Go.Proofs.YtkkioajmfkcloaaDoor
open Go.RowKit Go.PlainAid Gl L
theorem first_any (s : ByteArray) (w : World) (hs : s.size ≤ 9223372036854775807) (h1 : 1 ≤ s.size) :
   Calls Tryd.prog 85 #[.string s] w fun e w' => e = .returned (.tuple #[.int .i32 (decR s 0), .int .i64 (decN s 0)]) ∧ Below w.heap.size w w' := by
  obtain ⟨d1, d2⟩ := dec_bounds s 0 h1
  have hs' := hs
  have n0 := fun ty => run_next_dec (P := Tryd.prog) w s 0 ty h1
  rcases Nat.lt_or_ge (decN s 0) s.size with hd | hd
  · have n1 := fun ty => run_next_dec (P := Tryd.prog) w s (decN s 0) ty (by omega)
    go_enter Tryd.func85, Tryd.ntmps85
    go_wp2
    refine wp_loop_rounds 2 ?_
    rw [rounds_succ]
    go_wp2
    rw [rounds_succ]
    go_wp2
    go_ret2
    exact ⟨rfl, (Below.refl _ _).alloc (Nat.le_refl _) _⟩
  · have n1 := fun ty => run_next_end (P := Tryd.prog) w s (decN s 0) ty (by omega)
    go_enter Tryd.func85, Tryd.ntmps85
    go_wp2
    refine wp_loop_rounds 2 ?_
    rw [rounds_succ]
    go_wp2
    rw [rounds_succ]
    go_wp2
    go_ret2
    exact ⟨ret_2 rfl (v_int (by omega)), (Below.refl _ _).alloc (Nat.le_refl _) _⟩
theorem next_any (s : ByteArray) (w : World) (hs : s.size ≤ maxLen) (T : Tabs w 3 4) :
   Calls Tryd.prog 80 #[.string s] w fun e w' => e = .returned (.tuple #[.int .i32 (nextR s), .int .i64 (nextN s), .int .i64 (nextE s)]) ∧ Below w.heap.size w w' := by
  by_cases h1 : 1 ≤ s.size
  · have hne := ne_empty s h1
    cases hm : moreB s
    all_goals
      have hf : fullB s = !(moreB s) := by simp [fullB, h1]
      rw [hm] at hf
      have HF := Lib.hid hf
      have HM := Lib.hid hm
      clear hf hm
      go_enter Tryd.func80, Tryd.ntmps80
      go_wp2_with fail
      refine (full_any _ _ hs T).mono ?_
      rintro e w1 ⟨rfl, hw1⟩
      rw [HF.out]
      go_wp2_with fail
    · refine (first_any _ _ hs h1).mono ?_
      rintro e w2 ⟨rfl, hw2⟩
      go_wp2_with fail
      go_ret3
      obtain ⟨n1, n2, n3⟩ := next_ok s h1 HM.out
      exact ⟨ret_3 (v_int n1.symm) (v_int (by rw [n2])) (v_int n3.symm), hw1.trans (hw2.mono hw1.size)⟩
    · go_ret3
      obtain ⟨n1, n2, n3⟩ := next_more s h1 HM.out
      exact ⟨ret_3 (v_int n1.symm) (v_int (by rw [n2]; rfl)) (v_int n3.symm), hw1⟩
  · obtain rfl := of_size_zero s (by omega)
    go_enter Tryd.func80, Tryd.ntmps80
    go_wp2
    go_ret3
    exact ⟨rfl, Below.refl _ _⟩
end Go.Proofs.YtkkioajmfkcloaaDoor
/- The two tables of the library last as long as what is below stays. -/
set_option linter.unusedVariables false
namespace Go.Proofs.YtkkioajmfkcloaaDoor
open Go.RowKit Go.PlainAid
namespace Gl
theorem Tabs.below {w w' : World} {f a : Nat} (h : Tabs w f a) (hb : Below w.heap.size w w') : Tabs w' f a := by
  have g : ∀ {p : Addr} {v : Value}, w.cell? p = some v → w'.cell? p = some v := fun {p v} h => by
    rw [hb.cell (World.block_lt_of_cell? w _ h)]; exact h
  exact ⟨fun b h0 h1 => g (h.x b h0 h1), g h.a0, g h.a1, g h.a2, g h.a3, g h.a4, g h.a5, g h.a6, g h.a7, g h.a8, g h.a9⟩
end Gl
end Go.Proofs.YtkkioajmfkcloaaDoor
