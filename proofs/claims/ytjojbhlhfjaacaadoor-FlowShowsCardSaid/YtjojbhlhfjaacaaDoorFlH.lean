/- The example that every statement of layer 4 asks first. -/
import Derived.Test.YtjojbhlhfjaacaaDoorFlG
import Derived.BigGuardPart
set_option linter.unusedVariables false
namespace Go.Proofs.YtjojbhlhfjaacaaDoor
open Go.RowKit Gl L Wd Fl
namespace Fl
theorem ex_lay : lk 3 0 4 = 0 ∧ fin 3 0 [97, 97, 20013, 98] = 6 ∧ lay 3 0 [97, 97, 20013, 98] = [0, 1, 3, 5] := by decide +kernel
theorem ex_cells : lk 3 2 1 = 0 ∧ cells 3 2 [20013] = [(32, 0), (20013, 1), (20013, 2)] := by decide +kernel
theorem ex_next : p1 3 5 97 = 5 ∧ p2 3 5 97 = 6 ∧ ck 3 5 = 0 ∧ ck 1 (-1) = 4 ∧ ck 3 10000 = 1 := by decide +kernel
end Fl
/-- What Lay tells, where nothing is wrong. -/
theorem Lays.yes {W w' : World} {e : Ending} {a b : Int} {l : List Int} (h : Lays W w' e a b l) (h0 : lk a b l.length = 0) :
    Below W.heap.size W w' ∧ ∃ g cap, e = .returned (.tuple #[.slice (some ⟨g, 0, none⟩) l.length cap, .int .i64 (fin a.toNat b.toNat l : Nat), .int .i64 0]) ∧ l.length ≤ cap ∧ w'.ownsRow W.heap.size 3 1 (.slice (some ⟨g, 0, none⟩) l.length cap) l.length (ints .i64 (lay a.toNat b.toNat l)) ∧
      IsRow w' (.slice (some ⟨g, 0, none⟩) l.length cap) .i64 (lay a.toNat b.toNat l) := by
  obtain ⟨hb, ⟨h1, _⟩ | ⟨_, v, rfl, hv, ho⟩⟩ := h
  · exact absurd h0 h1
  obtain ⟨g, cap, rfl, hc⟩ := Rw.form_ne ho hv
  have ho' : w'.ownsRow W.heap.size 3 1 (.slice (some ⟨g, 0, none⟩) l.length cap) (lay a.toNat b.toNat l).length (ints .i64 (lay a.toNat b.toNat l)) := by rw [lay_len]; exact ho
  exact ⟨hb, g, cap, rfl, hc, ho, IsRow.of_owns ho'⟩
theorem Lays.no {W w' : World} {e : Ending} {a b : Int} {l : List Int} (h : Lays W w' e a b l) (h0 : lk a b l.length ≠ 0) :
    Below W.heap.size W w' ∧ e = .returned (.tuple #[.slice none 0 0, .int .i64 0, .int .i64 (lk a b l.length)]) := by
  obtain ⟨hb, ⟨_, h1⟩ | ⟨h1, _⟩⟩ := h
  · exact ⟨hb, h1⟩
  · exact absurd h1 h0
/-- What Cells tells, where nothing is wrong. -/
theorem Celd.yes {W w' : World} {e : Ending} {a b : Int} {l : List Int} (h : Celd W w' e a b l) (h0 : lk a b l.length = 0) :
    Below W.heap.size W w' ∧ ∃ g cap, e = .returned (.tuple #[.slice (some ⟨g, 0, none⟩) (cells a.toNat b.toNat l).length cap, .int .i64 0]) ∧ (cells a.toNat b.toNat l).length ≤ cap ∧ Rw w' (.slice (some ⟨g, 0, none⟩) (cells a.toNat b.toNat l).length cap) 2 (cells a.toNat b.toNat l).length (flat (cells a.toNat b.toNat l)) := by
  obtain ⟨hb, ⟨h1, _⟩ | ⟨_, v, rfl, hv, ho⟩⟩ := h
  · exact absurd h0 h1
  obtain ⟨g, cap, rfl, hc⟩ := Rw.form_ne ho hv
  exact ⟨hb, g, cap, rfl, hc, Rw.of_owns ho⟩
theorem Celd.no {W w' : World} {e : Ending} {a b : Int} {l : List Int} (h : Celd W w' e a b l) (h0 : lk a b l.length ≠ 0) :
    Below W.heap.size W w' ∧ e = .returned (.tuple #[.slice none 0 0, .int .i64 (lk a b l.length)]) := by
  obtain ⟨hb, ⟨_, h1⟩ | ⟨h1, _⟩⟩ := h
  · exact ⟨hb, h1⟩
  · exact absurd h1 h0
theorem lay_ex (w : World) (S : Spans w 1) : Calls Tryd.prog 12 #[.int .i64 3, .int .i64 0, .slice (some ⟨w.heap.size, 0, none⟩) 4 4] (w.alloc (.cells #[.int .i32 97, .int .i32 97, .int .i32 20013, .int .i32 98] 21)) fun e w' =>
    Below w.heap.size w w' ∧ ∃ g cap, e = .returned (.tuple #[.slice (some ⟨g, 0, none⟩) 4 cap, .int .i64 6, .int .i64 0]) ∧ IsRow w' (.slice (some ⟨g, 0, none⟩) 4 cap) .i64 [0, 1, 3, 5] := by
  have hb0 : Below w.heap.size w (w.alloc (.cells #[.int .i32 97, .int .i32 97, .int .i32 20013, .int .i32 98] 21)) := (Below.refl _ _).alloc (Nat.le_refl _) _
  refine (lay_any 3 0 _ [97, 97, 20013, 98] _ (IsRow.new w .i32 [97, 97, 20013, 98] 21 4) (by decide) (S.below hb0)).mono ?_
  intro e w' h
  obtain ⟨h1, g, cap, rfl, h2, h3, h4⟩ := h.yes ex_lay.1
  refine ⟨hb0.trans (h1.mono hb0.size), g, cap, ?_, ?_⟩
  · have e1 := ex_lay.2.1
    show Ending.returned (.tuple #[_, .int .i64 (fin 3 0 [97, 97, 20013, 98] : Nat), _]) = _
    rw [e1]
    rfl
  · have e1 := ex_lay.2.2
    have h5 : IsRow w' (.slice (some ⟨g, 0, none⟩) 4 cap) .i64 (lay 3 0 [97, 97, 20013, 98]) := h4
    rw [e1] at h5
    exact h5
theorem cells_ex (w : World) (S : Spans w 1) (T : Blk w 0) : Calls Tryd.prog 15 #[.int .i64 3, .int .i64 2, .slice (some ⟨w.heap.size, 0, none⟩) 1 1] (w.alloc (.cells #[.int .i32 20013] 21)) fun e w' =>
    Below w.heap.size w w' ∧ ∃ g cap, e = .returned (.tuple #[.slice (some ⟨g, 0, none⟩) 3 cap, .int .i64 0]) ∧ Rw w' (.slice (some ⟨g, 0, none⟩) 3 cap) 2 3 (flat [(32, 0), (20013, 1), (20013, 2)]) := by
  have hb0 : Below w.heap.size w (w.alloc (.cells #[.int .i32 20013] 21)) := (Below.refl _ _).alloc (Nat.le_refl _) _
  refine (cellsF_any 3 2 _ [20013] _ (IsRow.new w .i32 [20013] 21 1) (by decide) (S.below hb0) (T.below hb0)).mono ?_
  intro e w' h
  obtain ⟨h1, g, cap, rfl, h2, h3⟩ := h.yes ex_cells.1
  have e1 := ex_cells.2
  have h5 : Rw w' (.slice (some ⟨g, 0, none⟩) (cells 3 2 [20013]).length cap) 2 (cells 3 2 [20013]).length (flat (cells 3 2 [20013])) := h3
  refine ⟨hb0.trans (h1.mono hb0.size), g, cap, ?_, ?_⟩
  · show Ending.returned (.tuple #[.slice _ (cells 3 2 [20013]).length _, _]) = _
    rw [e1]
    rfl
  · rw [e1] at h5
    exact h5
set_option maxRecDepth 100000 in
set_option maxHeartbeats 4000000 in
theorem flows_any (w : World) (S : Spans w 1) (T : Blk w 0) : Calls Tryd.prog 11 #[] w fun e w' => e = .returned (.bool true) ∧ Below w.heap.size w w' := by
  have EN := Lib.hid ex_next
  have HL := Lib.hid (lay_ex w S)
  go_enter Tryd.func11, Tryd.ntmps11
  go_wp2_with fail
  refine HL.out.mono ?_
  rintro e w1 ⟨hb1, gp, capp, rfl, hP⟩
  have HX := Lib.hid (cells_ex w1 (S.below hb1) (T.below hb1))
  go_wp2_with fail
  refine HX.out.mono ?_
  rintro e w2 ⟨hb2, gc, capc, rfl, hC⟩
  have hP := hP.below hb2
  have hb2 := hb1.trans (hb2.mono hb1.size)
  clear hb1
  go_wp2_with fail
  refine (next_any 3 5 97 _ (S.below hb2)).mono ?_
  rintro e w3 ⟨rfl, hb3⟩
  rw [EN.out.1, EN.out.2.1, EN.out.2.2.1]
  have hP := hP.below hb3
  have hC := hC.below hb3
  have hb3 := hb2.trans (hb3.mono hb2.size)
  clear hb2
  go_wp2_with fail
  refine (next_any 1 (-1) 97 _ (S.below hb3)).mono ?_
  rintro e w4 ⟨rfl, hb4⟩
  rw [EN.out.2.2.2.1]
  have hP := hP.below hb4
  have hC := hC.below hb4
  have hb4 := hb3.trans (hb4.mono hb3.size)
  clear hb3
  go_wp2_with fail
  refine (next_any 3 10000 97 _ (S.below hb4)).mono ?_
  rintro e w5 ⟨rfl, hb5⟩
  rw [EN.out.2.2.2.2]
  have hP := hP.below hb5
  have hC := hC.below hb5
  have hb5 := hb4.trans (hb5.mono hb4.size)
  clear hb4
  have hP := hP.below ((Below.refl w5.heap.size w5).alloc (Nat.le_refl _) (.cells #[.int .i64 0, .int .i64 1, .int .i64 3, .int .i64 5] 3))
  have hN := IsRow.new w5 .i64 [0, 1, 3, 5] 3 4
  go_wp2_with fail
  refine (same4_any _ _ [0, 1, 3, 5] [0, 1, 3, 5] _ hP hN (by decide) (by decide)).mono ?_
  rintro e w6 ⟨rfl, hb6⟩
  rw [decide_eq_true rfl]
  have hw6 := (hb5.alloc hb5.size (.cells #[.int .i64 0, .int .i64 1, .int .i64 3, .int .i64 5] 3)).trans (hb6.mono (by have := hb5.size; simp; omega))
  have hC := (hC.alloc (.cells #[.int .i64 0, .int .i64 1, .int .i64 3, .int .i64 5] 3)).below hb6
  have hC := hC.alloc (.cells #[.int .i32 32, .int .i64 0, .int .i32 20013, .int .i64 1, .int .i32 20013, .int .i64 2] 40)
  have hN2 := Rw.lit w6 #[.int .i32 32, .int .i64 0, .int .i32 20013, .int .i64 1, .int .i32 20013, .int .i64 2] 40 2 3 3 (by simp)
  clear hP hN hb6
  go_wp2_with fail
  refine (same2_any _ _ [(32, 0), (20013, 1), (20013, 2)] [(32, 0), (20013, 1), (20013, 2)] _ hC hN2 (by decide) (by decide)).mono ?_
  rintro e w7 ⟨rfl, hb7⟩
  rw [decide_eq_true rfl]
  have hw7 := (hw6.alloc hw6.size _).trans (hb7.mono (by have := hw6.size; simp; omega))
  go_wp2
  go_ret
  exact ⟨rfl, hw7⟩
end Go.Proofs.YtjojbhlhfjaacaaDoor
