/- The contract of the statements' own examples of glyph: they are met. -/
import Derived.Test.YtfnmcnbfagnlhaaDoorGlD
import Derived.Test.YtfnmcnbfagnlhaaDoorGlN
set_option linter.unusedVariables false
namespace Go.Proofs.YtfnmcnbfagnlhaaDoor
open Go.RowKit Go.PlainAid Gl L
namespace Gl
theorem ex_put1 : putS 20013 = ⟨#[228, 184, 173]⟩ ∧ putE 20013 = 0 := by decide +kernel
theorem ex_put2 : putS 55296 = ⟨#[]⟩ ∧ putE 55296 = 1 := by decide +kernel
theorem ex_n1 : nextR ⟨#[228, 184, 173, 97]⟩ = 20013 ∧ nextN ⟨#[228, 184, 173, 97]⟩ = 3 ∧ nextE ⟨#[228, 184, 173, 97]⟩ = 0 := by decide +kernel
theorem ex_n2 : nextR ⟨#[228, 184]⟩ = 0 ∧ nextN ⟨#[228, 184]⟩ = 0 ∧ nextE ⟨#[228, 184]⟩ = 3 := by decide +kernel
theorem ex_n3 : nextR ⟨#[]⟩ = 0 ∧ nextN ⟨#[]⟩ = 0 ∧ nextE ⟨#[]⟩ = 6 := by decide +kernel
theorem ex_n4 : nextR ⟨#[255, 97]⟩ = 65533 ∧ nextN ⟨#[255, 97]⟩ = 1 ∧ nextE ⟨#[255, 97]⟩ = 0 := by decide +kernel
theorem ex_d : decL ⟨#[97, 228, 184]⟩ = [97, 65533, 65533] := by decide +kernel
theorem ex_e : runesBytes [97, -1] = ⟨#[97, 239, 191, 189]⟩ := by decide +kernel
theorem ex_v : vld 97 = true ∧ vld 55296 = false := by decide +kernel
theorem Tabs.below {w w' : World} {f a : Nat} (h : Tabs w f a) (hb : Below w.heap.size w w') : Tabs w' f a := by
  have g : ∀ {p : Addr} {v : Value}, w.cell? p = some v → w'.cell? p = some v := fun {p v} h => by
    rw [hb.cell (World.block_lt_of_cell? w _ h)]; exact h
  exact ⟨fun b h0 h1 => g (h.x b h0 h1), g h.a0, g h.a1, g h.a2, g h.a3, g h.a4, g h.a5, g h.a6, g h.a7, g h.a8, g h.a9⟩
end Gl
set_option maxRecDepth 100000 in
set_option maxHeartbeats 2000000 in
theorem glyphs_any (w : World) (T : Tabs w 0 1) :
   Calls Tryd.prog 11 #[] w fun e w' => e = .returned (.bool true) ∧ Below w.heap.size w w' := by
  go_enter Tryd.func11, Tryd.ntmps11
  go_wp2_with fail
  refine (put_any _ _).mono ?_
  rintro e w1 ⟨rfl, rfl⟩
  rw [ex_put1.1, ex_put1.2]
  go_wp2_with fail
  refine (put_any _ _).mono ?_
  rintro e w1 ⟨rfl, rfl⟩
  rw [ex_put2.1, ex_put2.2]
  go_wp2_with fail
  refine (next_any _ _ (by decide) T).mono ?_
  rintro e w1 ⟨rfl, h1⟩
  have T1 := T.below h1
  rw [show (⟨#[228, 184, 173]⟩ ++ ⟨#[97]⟩ : ByteArray) = ⟨#[228, 184, 173, 97]⟩ from by decide +kernel]
  rw [ex_n1.1, ex_n1.2.1, ex_n1.2.2]
  go_wp2_with fail
  refine (next_any _ _ (by decide) T1).mono ?_
  rintro e w2 ⟨rfl, h2⟩
  have T2 := T1.below h2
  rw [show ((⟨#[228, 184, 173]⟩ : ByteArray).extract 0 2) = ⟨#[228, 184]⟩ from by decide +kernel]
  rw [ex_n2.1, ex_n2.2.1, ex_n2.2.2]
  go_wp2_with fail
  refine (next_any _ _ (by decide) T2).mono ?_
  rintro e w3 ⟨rfl, h3⟩
  have T3 := T2.below h3
  rw [ex_n3.1, ex_n3.2.1, ex_n3.2.2]
  go_wp2_with fail
  refine (next_any _ _ (by decide) T3).mono ?_
  rintro e w4 ⟨rfl, h4⟩
  rw [ex_n4.1, ex_n4.2.1, ex_n4.2.2]
  have hw4 := ((h1.trans (h2.mono h1.size)).trans (h3.mono (Nat.le_trans h1.size h2.size))).trans (h4.mono (Nat.le_trans (Nat.le_trans h1.size h2.size) h3.size))
  clear h1 h2 h3 h4 T1 T2 T3
  go_wp2_with fail
  refine (decode_any _ _ (by decide)).mono ?_
  rintro e w5 ⟨v, rfl, hown, h5⟩
  have hr := IsRow.of_owns hown
  rw [ex_d] at hr
  have hw5 := hw4.trans (h5.mono hw4.size)
  go_wp2_with fail
  refine (same_any _ _ [97, 65533, 65533] [97, 65533, 65533] _ (hr.below ((Below.refl _ _).alloc (Nat.le_refl _) _)) (IsRow.new w5 .i32 [97, 65533, 65533] 21 3) (by decide) (by decide)).mono ?_
  rintro e w6 ⟨rfl, h6⟩
  have hw6 := (hw5.alloc hw5.size _).trans (h6.mono (Nat.le_trans hw5.size (by simp)))
  rw [show decide (([97, 65533, 65533] : List Int) = [97, 65533, 65533]) = true from by decide]
  clear h6 hr hown h5
  go_wp2_with fail
  refine (encode_any _ [97, -1] _ (IsRow.new w6 .i32 [97, -1] 21 2)).mono ?_
  rintro e w7 ⟨rfl, rfl⟩
  rw [ex_e]
  have hw7 := hw6.alloc hw6.size (.cells #[.int .i32 97, .int .i32 (-1)] 21)
  go_wp2_with fail
  refine (is_any _ _).mono ?_
  rintro e w8 ⟨rfl, rfl⟩
  rw [ex_v.1]
  go_wp2_with fail
  refine (is_any _ _).mono ?_
  rintro e w8 ⟨rfl, rfl⟩
  rw [ex_v.2]
  go_wp2_with fail
  go_ret
  exact ⟨rfl, hw7⟩
end Go.Proofs.YtfnmcnbfagnlhaaDoor
