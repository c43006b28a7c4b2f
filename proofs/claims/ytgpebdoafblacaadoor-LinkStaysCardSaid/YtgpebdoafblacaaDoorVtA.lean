/- The contracts of strconv's Itoa at 0 to 99, and of the reference's digits. -/
import Derived.Test.YtgpebdoafblacaaDoorMVq
import Derived.Test.YtgpebdoafblacaaDoorProg
import Derived.Lib.ItoaNum
import Derived.Lib.ItoaWalk
import Derived.Lib.Walk
import Derived.BigCall
set_option linter.unusedVariables false
namespace Go.Proofs.YtgpebdoafblacaaDoor
open Go.RowKit Gl L
namespace Vt
theorem dS_nat (i : Nat) : (strOfNums (dg (i : Int))) = dS (i : Int) := rfl
theorem small_lo : ∀ i : Fin 10, Lib.digits36.extract i.val (i.val + 1) = dS (i.val : Int) := by decide +kernel
theorem small_hi : ∀ i : Fin 100, 10 ≤ i.val → Lib.smalls.extract (i.val * 2) (i.val * 2 + 2) = dS (i.val : Int) := by decide +kernel
end Vt
open Vt
set_option maxHeartbeats 2000000 in
set_option maxRecDepth 100000 in
theorem small_any (i : Nat) (h : i < 100) (w : World) : Calls Tryd.prog 58 #[.int .i64 i] w fun e w' => e = .returned (.string (dS i)) ∧ w = w' := by
  go_enter Tryd.func58, Tryd.ntmps58
  go_name_bytes_deep 45 SM hSM
  have eSM : SM = Lib.smalls := by rw [← hSM]; decide +kernel
  subst eSM
  clear hSM
  go_name_bytes_deep 30 DG hDG
  have eDG : DG = Lib.digits36 := by rw [← hDG]; decide +kernel
  subst eDG
  clear hDG
  by_cases h10 : i < 10
  · have hsl : ∀ w, (Instr.slice 9 (.string Lib.digits36) (some (.int .i64 (i : Int))) (some (.int .i64 ((i : Int) + 1))) none).run Tryd.prog w = .ok (.string (Lib.digits36.extract i (i + 1))) w := fun w => by
      rw [run_slice_string w 9 Lib.digits36 .i64 .i64 _ _ Tryd.underlying9 (by omega) (by omega) (by rw [Lib.digits36_size]; omega), show ((i : Int)).toNat = i by omega, show ((i : Int) + 1).toNat = i + 1 by omega]
    go_wp2
    go_ret
    exact ⟨ret_str (small_lo ⟨i, h10⟩), rfl⟩
  · have hsl : ∀ w, (Instr.slice 9 (.string Lib.smalls) (some (.int .i64 ((i : Int) * 2))) (some (.int .i64 ((i : Int) * 2 + 2))) none).run Tryd.prog w = .ok (.string (Lib.smalls.extract (i * 2) (i * 2 + 2))) w := fun w => by
      rw [run_slice_string w 9 Lib.smalls .i64 .i64 _ _ Tryd.underlying9 (by omega) (by omega) (by rw [Lib.smalls_size]; omega), show ((i : Int) * 2).toNat = i * 2 by omega, show ((i : Int) * 2 + 2).toNat = i * 2 + 2 by omega]
    go_wp2
    go_ret
    exact ⟨ret_str (small_hi ⟨i, h⟩ (by show 10 ≤ i; omega)), rfl⟩
theorem formatInt_any (i : Nat) (h : i < 100) (w : World) : Calls Tryd.prog 57 #[.int .i64 i, .int .i64 10] w fun e w' => e = .returned (.string (dS i)) ∧ w = w' := by
  go_enter Tryd.func57, Tryd.ntmps57
  go_wp2_with fail
  refine (small_any i h _).mono ?_
  rintro e w1 ⟨rfl, rfl⟩
  go_wp2
  go_ret
  exact ⟨rfl, rfl⟩
theorem itoaI_any (i : Nat) (h : i < 100) (w : World) : Calls Tryd.prog 56 #[.int .i64 i] w fun e w' => e = .returned (.string (dS i)) ∧ w = w' := by
  go_enter Tryd.func56, Tryd.ntmps56
  go_wp2_with fail
  refine (formatInt_any i h _).mono ?_
  rintro e w1 ⟨rfl, rfl⟩
  go_wp2
  go_ret
  exact ⟨rfl, rfl⟩
theorem itoaN_any (i : Nat) (h : i < 100) (w : World) : Calls Tryd.prog 54 #[.int .i64 i] w fun e w' => e = .returned (.string (dS i)) ∧ w = w' := by
  go_enter Tryd.func54, Tryd.ntmps54
  go_wp2_with fail
  refine (itoaI_any i h _).mono ?_
  rintro e w1 ⟨rfl, rfl⟩
  go_wp2
  go_ret
  exact ⟨rfl, rfl⟩
theorem itoa_any (x : Int) (h0 : 0 ≤ x) (h1 : x < 100) (w : World) : Calls Tryd.prog 54 #[.int .i64 x] w fun e w' => e = .returned (.string (dS x)) ∧ w = w' := by
  obtain ⟨n, rfl⟩ := Int.eq_ofNat_of_zero_le h0
  exact itoaN_any n (by omega) w
theorem rdigits_any (x : Int) (h0 : 0 ≤ x) (h1 : x < 100) (w : World) : Calls Tryd.prog 46 #[.int .i64 x] w fun e w' => e = .returned (.string (dS x)) ∧ Below w.heap.size w w' := by
  have k1 := conv1 (P := Tryd.prog) 54 5 9 Tryd.underlying54 Tryd.underlying5 Tryd.underlying9
  have k2 := conv2 (P := Tryd.prog) 54 5 9 Tryd.underlying54 Tryd.underlying5 Tryd.underlying9
  by_cases hx : x < 10
  · have hd : strOfNums [48 + x] = dS x := by unfold dS dg; rw [if_pos hx]
    go_enter Tryd.func46, Tryd.ntmps46
    go_wp2
    go_ret
    exact ⟨rfl, (Below.refl _ _).alloc (Nat.le_refl _) _⟩
  · have hd : strOfNums [48 + x / 10, 48 + x % 10] = dS x := by unfold dS dg; rw [if_neg hx]
    go_enter Tryd.func46, Tryd.ntmps46
    go_wp2
    go_ret
    exact ⟨rfl, (Below.refl _ _).alloc (Nat.le_refl _) _⟩
end Go.Proofs.YtgpebdoafblacaaDoor
