/- The contracts of wide: Cells, Width. -/
import Derived.Test.YtkkioajmfkcloaaDoorMLb
import Derived.Test.YtkkioajmfkcloaaDoorMWa
import Derived.Test.YtkkioajmfkcloaaDoorWdR
/- The contracts of wide's Cells, and of the reference's Cells: any number. -/
set_option linter.unusedVariables false
namespace Go.Proofs.YtkkioajmfkcloaaDoor
open Go.RowKit Gl L Wd
def Fresh2 (w w' : World) (e : Ending) (l : List (Int × Int)) : Prop := ∃ g cap, e = .returned (.slice (some ⟨g, 0, none⟩) l.length cap) ∧ Rw w' (.slice (some ⟨g, 0, none⟩) l.length cap) 2 l.length (flat l) ∧ Below w.heap.size w w'
/-- The same, and the row lies in new memory. -/
def Fresh3 (w w' : World) (e : Ending) (l : List (Int × Int)) : Prop := ∃ g cap, e = .returned (.slice (some ⟨g, 0, none⟩) l.length cap) ∧ Rw w' (.slice (some ⟨g, 0, none⟩) l.length cap) 2 l.length (flat l) ∧ Below w.heap.size w w' ∧ w.heap.size ≤ g
theorem Fresh3.old {w w' : World} {e : Ending} {l : List (Int × Int)} (h : Fresh3 w w' e l) : Fresh2 w w' e l := by
  obtain ⟨g, cap, h1, h2, h3, _⟩ := h
  exact ⟨g, cap, h1, h2, h3⟩
set_option maxHeartbeats 1000000 in
theorem cells_at (r : Int) (w : World) (S : Spans w 2) : Calls Tryd.prog 28 #[.int .i32 r] w fun e w' => Fresh3 w w' e (cl r) := by
  have hf := two_flat r
  rcases cl_len r with hl | hl
  all_goals
    have hw : wd r = (cl r).length := rfl
    rw [hl] at hw hf
    have HL := Lib.hid hl
    have HW := Lib.hid hw
    have HF := Lib.hid hf
    clear hl hw hf
    go_enter Tryd.func28, Tryd.ntmps28
    go_wp2_with fail
    refine (shape_any _ _ S).mono ?_
    rintro e w1 ⟨rfl, hw1⟩
    rw [HW.out]
    unfold two
    go_wp2
    go_ret
    unfold Fresh3
    rw [HL.out, HF.out]
    exact ⟨_, _, rfl, Rw.lit w1 #[.int .i32 (c0 r), .int .i64 (k0 r), .int .i32 (c1 r), .int .i64 (k1 r)] 72 2 _ _ (by simp), hw1.alloc hw1.size _, hw1.size⟩
theorem cells_any (r : Int) (w : World) (S : Spans w 2) : Calls Tryd.prog 28 #[.int .i32 r] w fun e w' => Fresh2 w w' e (cl r) := (cells_at r w S).mono fun _ _ h => h.old
end Go.Proofs.YtkkioajmfkcloaaDoor
/- The contracts of wide's Width and of the reference's Width: any number. -/
set_option linter.unusedVariables false
namespace Go.Proofs.YtkkioajmfkcloaaDoor
open Go.RowKit Gl L Wd
set_option maxHeartbeats 1000000 in
theorem width_any (r : Int) (w : World) (S : Spans w 2) : Calls Tryd.prog 69 #[.int .i32 r] w fun e w' => e = .returned (.int .i64 (wd r)) ∧ Below w.heap.size w w' := by
  go_enter Tryd.func69, Tryd.ntmps69
  go_wp2_with fail
  refine (shape_any _ _ S).mono ?_
  rintro e w1 ⟨rfl, hw1⟩
  unfold two
  go_wp2
  go_ret
  exact ⟨rfl, hw1.alloc hw1.size _⟩
end Go.Proofs.YtkkioajmfkcloaaDoor
