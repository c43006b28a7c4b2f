/- The contracts of wide: Cells, Width. -/
import Derived.Test.YtkkioajmfkcloaaGreatDoorMLb
import Derived.Test.YtkkioajmfkcloaaGreatDoorMWa
import Derived.Test.YtkkioajmfkcloaaGreatDoorWdR
/- The contracts of wide's Cells, and of the reference's Cells: any number. -/
set_option linter.unusedVariables false
namespace Go.Proofs.YtkkioajmfkcloaaGreatDoor
open Go.RowKit Gl L Wd
def Fresh2 (w w' : World) (e : Ending) (l : List (Int × Int)) : Prop := ∃ g cap, e = .returned (.slice (some ⟨g, 0, none⟩) l.length cap) ∧ Rw w' (.slice (some ⟨g, 0, none⟩) l.length cap) 2 l.length (flat l) ∧ Below w.heap.size w w'
/-- The same, and the row lies in new memory. -/
def Fresh3 (w w' : World) (e : Ending) (l : List (Int × Int)) : Prop := ∃ g cap, e = .returned (.slice (some ⟨g, 0, none⟩) l.length cap) ∧ Rw w' (.slice (some ⟨g, 0, none⟩) l.length cap) 2 l.length (flat l) ∧ Below w.heap.size w w' ∧ w.heap.size ≤ g
theorem Fresh3.old {w w' : World} {e : Ending} {l : List (Int × Int)} (h : Fresh3 w w' e l) : Fresh2 w w' e l := by
  obtain ⟨g, cap, h1, h2, h3, _⟩ := h
  exact ⟨g, cap, h1, h2, h3⟩
set_option maxHeartbeats 1000000 in
theorem cells_at (r : Int) (w : World) (S : Spans w 2) : Calls Tryz.prog 92 #[.int .i32 r] w fun e w' => Fresh3 w w' e (cl r) := by
  have hf := two_flat r
  rcases cl_len r with hl | hl
  all_goals
    have hw : wd r = (cl r).length := rfl
    rw [hl] at hw hf
    have HL := Lib.hid hl
    have HW := Lib.hid hw
    have HF := Lib.hid hf
    clear hl hw hf
    go_enter Tryz.func92, Tryz.ntmps92
    go_wp2_with fail
    refine (shape_any _ _ S).mono ?_
    rintro e w1 ⟨rfl, hw1⟩
    rw [HW.out]
    unfold two
    go_wp2
    go_ret
    unfold Fresh3
    rw [HL.out, HF.out]
    exact ⟨_, _, rfl, Rw.lit w1 #[.int .i32 (c0 r), .int .i64 (k0 r), .int .i32 (c1 r), .int .i64 (k1 r)] 104 2 _ _ (by simp), hw1.alloc hw1.size _, hw1.size⟩
set_option maxHeartbeats 2000000 in
theorem rcells_at (r : Int) (w : World) : Calls Tryz.prog 64 #[.int .i32 r] w fun e w' => Fresh3 w w' e (cl r) := by
  by_cases h1 : 0 ≤ r ∧ r < 32
  · have hc := Lib.hid (cl_ctl h1)
    go_enter Tryz.func64, Tryz.ntmps64
    go_wp2
    go_ret
    unfold Fresh3
    rw [hc.out]
    exact ⟨_, _, rfl, Rw.lit w #[.int .i32 94, .int .i64 0, .int .i32 (r + 64), .int .i64 0] 49 2 2 _ (by simp), (Below.refl _ _).alloc (Nat.le_refl _) _, Nat.le_refl _⟩
  by_cases h2 : r = 127
  · subst h2
    go_enter Tryz.func64, Tryz.ntmps64
    go_wp2
    go_ret
    unfold Fresh3
    rw [cl_del]
    exact ⟨_, _, rfl, Rw.lit w #[.int .i32 94, .int .i64 0, .int .i32 63, .int .i64 0] 49 2 2 _ (by simp), (Below.refl _ _).alloc (Nat.le_refl _) _, Nat.le_refl _⟩
  have b1 : (r == 127) = false := by simpa using h2
  cases h3 : shw r
  · have hc := Lib.hid (cl_bad h1 h2 h3)
    have H3 := Lib.hid h3
    rcases (show r < 0 ∨ 31 < r by omega) with hr | hr
    all_goals
      clear h1 h2 h3
      go_enter Tryz.func64, Tryz.ntmps64
      go_wp2_with fail
      refine (rshown_any _ _).mono ?_
      rintro e w1 ⟨rfl, rfl⟩
      rw [H3.out]
      go_wp2
      go_ret
      unfold Fresh3
      rw [hc.out]
      exact ⟨_, _, rfl, Rw.lit w #[.int .i32 65533, .int .i64 0] 49 2 1 _ (by simp), (Below.refl _ _).alloc (Nat.le_refl _) _, Nat.le_refl _⟩
  · have hr : 31 < r := by unfold shw at h3; simp at h3; omega
    cases h4 : wid r
    · have hc := Lib.hid (cl_one h3 h4)
      have H3 := Lib.hid h3
      have H4 := Lib.hid h4
      clear h1 h2 h3 h4
      go_enter Tryz.func64, Tryz.ntmps64
      go_wp2_with fail
      refine (rshown_any _ _).mono ?_
      rintro e w1 ⟨rfl, rfl⟩
      rw [H3.out]
      go_wp2_with fail
      refine (rwide_any _ _).mono ?_
      rintro e w1 ⟨rfl, rfl⟩
      rw [H4.out]
      go_wp2
      go_ret
      unfold Fresh3
      rw [hc.out]
      exact ⟨_, _, rfl, Rw.lit w #[.int .i32 r, .int .i64 0] 49 2 1 _ (by simp), (Below.refl _ _).alloc (Nat.le_refl _) _, Nat.le_refl _⟩
    · have hc := Lib.hid (cl_wide h3 h4)
      have H3 := Lib.hid h3
      have H4 := Lib.hid h4
      clear h1 h2 h3 h4
      go_enter Tryz.func64, Tryz.ntmps64
      go_wp2_with fail
      refine (rshown_any _ _).mono ?_
      rintro e w1 ⟨rfl, rfl⟩
      rw [H3.out]
      go_wp2_with fail
      refine (rwide_any _ _).mono ?_
      rintro e w1 ⟨rfl, rfl⟩
      rw [H4.out]
      go_wp2
      go_ret
      unfold Fresh3
      rw [hc.out]
      exact ⟨_, _, rfl, Rw.lit w #[.int .i32 r, .int .i64 1, .int .i32 r, .int .i64 2] 49 2 2 _ (by simp), (Below.refl _ _).alloc (Nat.le_refl _) _, Nat.le_refl _⟩
theorem cells_any (r : Int) (w : World) (S : Spans w 2) : Calls Tryz.prog 92 #[.int .i32 r] w fun e w' => Fresh2 w w' e (cl r) := (cells_at r w S).mono fun _ _ h => h.old
theorem rcells_any (r : Int) (w : World) : Calls Tryz.prog 64 #[.int .i32 r] w fun e w' => Fresh2 w w' e (cl r) := (rcells_at r w).mono fun _ _ h => h.old
end Go.Proofs.YtkkioajmfkcloaaGreatDoor
/- The contracts of wide's Width and of the reference's Width: any number. -/
set_option linter.unusedVariables false
namespace Go.Proofs.YtkkioajmfkcloaaGreatDoor
open Go.RowKit Gl L Wd
set_option maxHeartbeats 1000000 in
theorem width_any (r : Int) (w : World) (S : Spans w 2) : Calls Tryz.prog 76 #[.int .i32 r] w fun e w' => e = .returned (.int .i64 (wd r)) ∧ Below w.heap.size w w' := by
  go_enter Tryz.func76, Tryz.ntmps76
  go_wp2_with fail
  refine (shape_any _ _ S).mono ?_
  rintro e w1 ⟨rfl, hw1⟩
  unfold two
  go_wp2
  go_ret
  exact ⟨rfl, hw1.alloc hw1.size _⟩
set_option maxHeartbeats 1000000 in
theorem rwidth_any (r : Int) (w : World) : Calls Tryz.prog 32 #[.int .i32 r] w fun e w' => e = .returned (.int .i64 (wd r)) ∧ Below w.heap.size w w' := by
  go_enter Tryz.func32, Tryz.ntmps32
  go_wp2_with fail
  refine (rcells_any _ _).mono ?_
  rintro e w1 ⟨g, cap, rfl, hr, hw1⟩
  go_wp2
  go_ret
  exact ⟨rfl, hw1⟩
end Go.Proofs.YtkkioajmfkcloaaGreatDoor
