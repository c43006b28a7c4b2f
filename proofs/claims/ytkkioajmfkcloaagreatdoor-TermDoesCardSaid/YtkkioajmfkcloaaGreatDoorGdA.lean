/- The contracts of the sides, of a row of blanks; rows that were made. -/
import Derived.Test.YtkkioajmfkcloaaGreatDoorMWp
import Derived.Test.YtkkioajmfkcloaaGreatDoorMWc
import Derived.Test.YtkkioajmfkcloaaGreatDoorMLd
import Derived.BigQuiet
set_option linter.unusedVariables false
namespace Go.Proofs.YtkkioajmfkcloaaGreatDoor
open Go.RowKit Gl L Wd Gd
theorem sides_any (a b : Int) (w : World) : Calls Tryz.prog 45 #[.int .i64 a, .int .i64 b] w fun e w' => e = .returned (.bool (sidesB a b)) ∧ w = w' := by
  go_enter Tryz.func45, Tryz.ntmps45
  go_wp2
  all_goals go_ret
  all_goals refine ⟨ret_bool ?_, rfl⟩
  all_goals unfold sidesB
  all_goals rw [Bool.eq_iff_iff]
  all_goals simp
  all_goals omega
theorem rsides_any (a b : Int) (w : World) : Calls Tryz.prog 60 #[.int .i64 a, .int .i64 b] w fun e w' => e = .returned (.bool (sidesB a b)) ∧ w = w' := by
  go_enter Tryz.func60, Tryz.ntmps60
  go_wp2
  all_goals go_ret
  all_goals refine ⟨ret_bool ?_, rfl⟩
  all_goals unfold sidesB
  all_goals rw [Bool.eq_iff_iff]
  all_goals simp
  all_goals omega
/-- v is a row of cells that was made. -/
def Own (B : Nat) (w : World) (v : Value) (l : List (Int × Int)) : Prop := ∃ g cap, v = .slice (some ⟨g, 0, none⟩) l.length cap ∧ l.length ≤ cap ∧ w.ownsRow B 49 2 (.slice (some ⟨g, 0, none⟩) l.length cap) l.length (flat l)
namespace Gd
def half (k n : Nat) : List (Int × Int) := List.replicate k bl ++ List.replicate (n - k) (0, 0)
theorem half_set {k n : Nat} (h : k < n) : (half k n).set k bl = half (k + 1) n := by
  unfold half
  rw [List.set_append_right _ _ (by simp), show n - k = (n - (k + 1)) + 1 by omega]
  simp [List.replicate_succ]
  have : ∀ l : List (Int × Int), List.replicate k bl ++ bl :: l = bl :: (List.replicate k bl ++ l) := fun l => by
    induction k with
    | zero => rfl
    | succ k ih => simp [List.replicate_succ]; exact ih (by omega)
  rw [this]
theorem half_len {k n : Nat} (h : k ≤ n) : (half k n).length = n := by simp [half]; omega
end Gd
set_option maxHeartbeats 1000000 in
theorem blanks_any (n : Nat) (hn : n ≤ 100000) (w : World) (T : Blk w 0) : Calls Tryz.prog 67 #[.int .i64 n] w fun e w' => ∃ v, e = .returned v ∧ Own w.heap.size w' v (List.replicate n bl) ∧ Below w.heap.size w w' := by
  obtain ⟨i0, hi, hz0, hz1, hz2⟩ := info_parts Tryz.info49
  obtain ⟨wm, hmk, hown0, hgr0⟩ := run_make_full (P := Tryz.prog) w w.heap.size 22 49 i0 _ 2 Tryz.underlying22 hi hz0 hz1 .i64 .i64 n (by rw [hz2]; omega) (by unfold maxLen; omega) (Nat.le_refl _)
  have hb0 : Below w.heap.size w wm := (Below.refl _ _).grown hgr0 (Nat.le_refl _) (by simp)
  have e0 : (madeCells (Value.agg #[.int .i32 0, .int .i64 0]).cells (n * 2)).toList = flat (half 0 n) := by
    unfold half; rw [List.replicate_zero, List.nil_append, Nat.sub_zero, flat_rep]; rfl
  rw [e0] at hown0
  go_enter Tryz.func67, Tryz.ntmps67
  go_wp2
  have HM := Lib.hid hmk
  clear hmk e0
  go_loopw [9] (fun i wr => ∃ k : Nat, k ≤ n ∧ i = .int .i64 k ∧ wr.ownsRow w.heap.size 49 2 (.slice (some ⟨w.heap.size, 0, none⟩) n n) n (flat (half k n)) ∧ Below w.heap.size w wr) (fun i _ => n - (intOf i).toNat)
  case atStart => exact ⟨0, Nat.zero_le _, rfl, hown0, hb0⟩
  case round =>
    obtain ⟨k, hk, rfl, hown, hw⟩ := hrel
    obtain ⟨t1, t2⟩ := T.below hw
    by_cases hlt : k < n
    · have HS := Lib.hid (ownsRow_set2 hown (k * 2) (.int .i32 32) (.int .i64 0))
      obtain ⟨x, y, hxy, c1, c2, f1, f2⟩ := own_cells hown k hlt
      have HX := Lib.hid hxy
      clear hxy
      go_wp2
      go_roundw
      case rel =>
        obtain ⟨o1, g1⟩ := HS.out
        refine ⟨k + 1, by omega, by go_num, ?_, below_own hw g1 hown (Nat.le_refl _) hw.size⟩
        rw [← half_set hlt, show bl = (32, 0) from rfl, flat_set]
        exact o1
      case measure => simp [intOf]; omega
    · obtain rfl : k = n := by omega
      clear HM
      go_wp2
      go_ret
      have e1 : half k k = List.replicate k bl := by simp [half]
      rw [e1] at hown
      refine ⟨_, rfl, ⟨w.heap.size, k, ?_⟩, hw⟩
      rw [List.length_replicate]
      exact ⟨rfl, Nat.le_refl _, hown⟩
theorem Own.rw {B : Nat} {w : World} {v : Value} {l : List (Int × Int)} (h : Own B w v l) : Rw w v 2 l.length (flat l) := by
  obtain ⟨g, cap, rfl, _, h⟩ := h
  exact Rw.of_owns h
theorem Own.below {B : Nat} {w w' : World} {v : Value} {l : List (Int × Int)} (h : Own B w v l) (hb : Below w.heap.size w w') : Own B w' v l := by
  obtain ⟨g, cap, rfl, h1, h⟩ := h
  exact ⟨g, cap, rfl, h1, ownsRow_below h hb⟩
theorem Own.mono {B B' : Nat} {w : World} {v : Value} {l : List (Int × Int)} (h : Own B w v l) (hb : B' ≤ B) : Own B' w v l := by
  obtain ⟨g, cap, rfl, h1, h⟩ := h
  exact ⟨g, cap, rfl, h1, ownsRow_mono h hb⟩
end Go.Proofs.YtkkioajmfkcloaaGreatDoor
