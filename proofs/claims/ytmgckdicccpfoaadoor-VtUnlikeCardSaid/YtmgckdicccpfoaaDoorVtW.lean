/- The walk of VtUnlike. Condition: the table of the kinds with one form as the program lays it. -/
import Derived.Test.YtmgckdicccpfoaaDoorVtM
import Derived.Test.YtmgckdicccpfoaaDoorVtX
set_option linter.unusedVariables false
namespace Go.Proofs.YtmgckdicccpfoaaDoor
open Go.RowKit Go.PlainAid Gl L Vt
namespace Vt
/-- The cells of a command in a block. -/
def Bx (w : World) (n : Nat) (k a b r : Int) : Prop := w.cell? ⟨n, 0, none⟩ = some (.int .i64 k) ∧ w.cell? ⟨n, 1, none⟩ = some (.int .i64 a) ∧ w.cell? ⟨n, 2, none⟩ = some (.int .i64 b) ∧ w.cell? ⟨n, 3, none⟩ = some (.int .i32 r)
theorem Bx.below {w1 w2 : World} {n : Nat} {k a b r : Int} (h : Bx w1 n k a b r) (hb : Below w1.heap.size w1 w2) : Bx w2 n k a b r := by
  obtain ⟨h0, h1, h2, h3⟩ := h
  have hk : ∀ o v, w1.cell? ⟨n, o, none⟩ = some v → w2.cell? ⟨n, o, none⟩ = some v := fun o v hv => by
    rw [old_cell hb _ _ (World.block_lt_of_cell? w1 _ hv)]; exact hv
  exact ⟨hk _ _ h0, hk _ _ h1, hk _ _ h2, hk _ _ h3⟩
theorem held8 {w w1 w2 : World} {n m : Nat} {x y z u x' y' z' u' : Value} (hb : Below w1.heap.size w1 w2) (h : w1.cell? ⟨n, 0, none⟩ = some x ∧ w1.cell? ⟨n, 1, none⟩ = some y ∧ w1.cell? ⟨n, 2, none⟩ = some z ∧ w1.cell? ⟨n, 3, none⟩ = some u ∧ w1.cell? ⟨m, 0, none⟩ = some x' ∧ w1.cell? ⟨m, 1, none⟩ = some y' ∧ w1.cell? ⟨m, 2, none⟩ = some z' ∧ w1.cell? ⟨m, 3, none⟩ = some u' ∧ Hv w w1) :
    w2.cell? ⟨n, 0, none⟩ = some x ∧ w2.cell? ⟨n, 1, none⟩ = some y ∧ w2.cell? ⟨n, 2, none⟩ = some z ∧ w2.cell? ⟨n, 3, none⟩ = some u ∧ w2.cell? ⟨m, 0, none⟩ = some x' ∧ w2.cell? ⟨m, 1, none⟩ = some y' ∧ w2.cell? ⟨m, 2, none⟩ = some z' ∧ w2.cell? ⟨m, 3, none⟩ = some u' ∧ Hv w w2 := by
  obtain ⟨h0, h1, h2, h3, h4, h5, h6, h7, hw⟩ := h
  have hk : ∀ n o v, w1.cell? ⟨n, o, none⟩ = some v → w2.cell? ⟨n, o, none⟩ = some v := fun n o v hv => by
    rw [old_cell hb _ _ (World.block_lt_of_cell? w1 _ hv)]; exact hv
  exact ⟨hk _ _ _ h0, hk _ _ _ h1, hk _ _ _ h2, hk _ _ _ h3, hk _ _ _ h4, hk _ _ _ h5, hk _ _ _ h6, hk _ _ _ h7, hw.below hb⟩
theorem bl1' {w w1 : World} {x y : Obj} (hw : Below ((w.alloc x).alloc y).heap.size ((w.alloc x).alloc y) w1) : Below w.heap.size w w1 := ((((Below.refl _ _).alloc (Nat.le_refl _) _).alloc (by simp) _)).trans (hw.mono (by simp; omega))
end Vt
set_option maxHeartbeats 8000000 in
theorem unlike_both (k a b r k' a' b' r' : Int) (h : isC k a b r = true) (h' : isC k' a' b' r' = true) (hle : (bts k a b r).size ≤ (bts k' a' b' r').size) (w : World) (F : Forms w 0) : Calls Tryd.prog 5 #[.agg #[.int .i64 k, .int .i64 a, .int .i64 b, .int .i32 r], .agg #[.int .i64 k', .int .i64 a', .int .i64 b', .int .i32 r']] w fun e w' => e = .returned (.bool true) ∧ Below w.heap.size w w' := by
  have HF := Lib.hid (fun x y => (F.alloc x).alloc y)
  clear F
  have hP := pv_yes h
  have hP' := pv_yes h'
  have hB : (((bts k' a' b' r').extract 0 (bts k a b r).size).toList == (bts k a b r).toList) = decide (k = k' ∧ a = a' ∧ b = b' ∧ r = r') := by
    by_cases he : k = k' ∧ a = a' ∧ b = b' ∧ r = r'
    · rw [decide_eq_true he]
      obtain ⟨rfl, rfl, rfl, rfl⟩ := he
      rw [str_eq_of_toList]
      refine decide_eq_true ?_
      exact ByteArray.ext (by simp)
    · rw [decide_eq_false he]
      exact bts_ext k a b r k' a' b' r' h h' hle he
  have hsz := bts_size k' a' b' r'
  generalize bts k a b r = S at *
  generalize bts k' a' b' r' = T at *
  clear h h'
  have hd : decide ((T.size : Int) < (S.size : Int)) = false := decide_eq_false (by omega)
  have hle2 : (S.size : Int) ≤ (T.size : Int) := by omega
  by_cases he : k = k' ∧ a = a' ∧ b = b' ∧ r = r'
  · rw [decide_eq_true he] at hB
    obtain ⟨rfl, rfl, rfl, rfl⟩ := he
    have HP := Lib.hid hP
    have HP' := Lib.hid hP'
    clear hP hP'
    go_enter Tryd.func5, Tryd.ntmps5
    go_wp2_with fail
    refine (vput_any _ _ _ _ _ (HF.out _ _)).mono ?_
    rintro e w1 ⟨rfl, hw1⟩
    rw [HP.out]
    have F1 := Lib.hid ((HF.out _ _).below hw1)
    have hc1 := old_cell hw1
    go_wp2_with fail
    refine (vput_any _ _ _ _ _ F1.out).mono ?_
    rintro e w2 ⟨rfl, hw2⟩
    rw [HP'.out]
    have F2 := Lib.hid (F1.out.below hw2)
    have h2 := hw1.trans (hw2.mono hw1.size)
    clear hc1
    have hc2 := old_cell h2
    go_wp2
    have x0 : w2.cell? ⟨w.heap.size, 0, none⟩ = some (.int .i64 k) := by rw [hc2 _ _ (by first | (simp; done) | (simp; omega))]; simp
    have x1 : w2.cell? ⟨w.heap.size, 1, none⟩ = some (.int .i64 a) := by rw [hc2 _ _ (by first | (simp; done) | (simp; omega))]; simp
    have x2 : w2.cell? ⟨w.heap.size, 2, none⟩ = some (.int .i64 b) := by rw [hc2 _ _ (by first | (simp; done) | (simp; omega))]; simp
    have x3 : w2.cell? ⟨w.heap.size, 3, none⟩ = some (.int .i32 r) := by rw [hc2 _ _ (by first | (simp; done) | (simp; omega))]; simp
    have x4 : w2.cell? ⟨w.heap.size + 1, 0, none⟩ = some (.int .i64 k) := by rw [hc2 _ _ (by first | (simp; done) | (simp; omega))]; simp
    have x5 : w2.cell? ⟨w.heap.size + 1, 1, none⟩ = some (.int .i64 a) := by rw [hc2 _ _ (by first | (simp; done) | (simp; omega))]; simp
    have x6 : w2.cell? ⟨w.heap.size + 1, 2, none⟩ = some (.int .i64 b) := by rw [hc2 _ _ (by first | (simp; done) | (simp; omega))]; simp
    have x7 : w2.cell? ⟨w.heap.size + 1, 3, none⟩ = some (.int .i32 r) := by rw [hc2 _ _ (by first | (simp; done) | (simp; omega))]; simp
    have hv := Lib.hid (show Hv w w2.drew from ⟨Vt.Forms.drew F2.out, below_drew (bl1' h2)⟩)
    clear hc2 F2 h2 hw2 F1 hw1 HF
    go_region_held3 (fun w' => w'.cell? ⟨w.heap.size, 0, none⟩ = some (.int .i64 k) ∧ w'.cell? ⟨w.heap.size, 1, none⟩ = some (.int .i64 a) ∧ w'.cell? ⟨w.heap.size, 2, none⟩ = some (.int .i64 b) ∧ w'.cell? ⟨w.heap.size, 3, none⟩ = some (.int .i32 r) ∧ w'.cell? ⟨w.heap.size + 1, 0, none⟩ = some (.int .i64 k) ∧ w'.cell? ⟨w.heap.size + 1, 1, none⟩ = some (.int .i64 a) ∧ w'.cell? ⟨w.heap.size + 1, 2, none⟩ = some (.int .i64 b) ∧ w'.cell? ⟨w.heap.size + 1, 3, none⟩ = some (.int .i32 r) ∧ Hv w w') (first | exact held8 (by assumption) (by assumption) | (go_keep; done) | exact ⟨by simpa using x0, by simpa using x1, by simpa using x2, by simpa using x3, by simpa using x4, by simpa using x5, by simpa using x6, by simpa using x7, hv.out⟩)
      (first | (go_at_call 10; refine (ex_any _ ?_).mono ?_; (exact And.left (And.right (And.right (And.right (And.right (And.right (And.right (And.right (And.right ((by assumption))))))))))); rintro e w' ⟨rfl, hb⟩))
    all_goals go_wp2
    all_goals go_ret
    all_goals refine ⟨by simp, ?_⟩
    all_goals exact And.right (And.right (And.right (And.right (And.right (And.right (And.right (And.right (And.right ((by assumption))))))))))
  · rw [decide_eq_false he] at hB
    have hs : (k == k') = false ∨ ((k == k') = true ∧ (a == a') = false) ∨ ((k == k') = true ∧ (a == a') = true ∧ (b == b') = false) ∨ ((k == k') = true ∧ (a == a') = true ∧ (b == b') = true ∧ (r == r') = false) := by
      simp only [beq_eq_false_iff_ne, beq_iff_eq]; omega
    clear he
    have HP := Lib.hid hP
    have HP' := Lib.hid hP'
    clear hP hP'
    rcases hs with d1 | ⟨d1, d2⟩ | ⟨d1, d2, d3⟩ | ⟨d1, d2, d3, d4⟩
    all_goals
      go_enter Tryd.func5, Tryd.ntmps5
      go_wp2_with fail
      refine (vput_any _ _ _ _ _ (HF.out _ _)).mono ?_
      rintro e w1 ⟨rfl, hw1⟩
      rw [HP.out]
      have F1 := Lib.hid ((HF.out _ _).below hw1)
      have hc1 := old_cell hw1
      go_wp2_with fail
      refine (vput_any _ _ _ _ _ F1.out).mono ?_
      rintro e w2 ⟨rfl, hw2⟩
      rw [HP'.out]
      have F2 := Lib.hid (F1.out.below hw2)
      have h2 := hw1.trans (hw2.mono hw1.size)
      clear hc1
      have hc2 := old_cell h2
      go_wp2
      have x0 : w2.cell? ⟨w.heap.size, 0, none⟩ = some (.int .i64 k) := by rw [hc2 _ _ (by first | (simp; done) | (simp; omega))]; simp
      have x1 : w2.cell? ⟨w.heap.size, 1, none⟩ = some (.int .i64 a) := by rw [hc2 _ _ (by first | (simp; done) | (simp; omega))]; simp
      have x2 : w2.cell? ⟨w.heap.size, 2, none⟩ = some (.int .i64 b) := by rw [hc2 _ _ (by first | (simp; done) | (simp; omega))]; simp
      have x3 : w2.cell? ⟨w.heap.size, 3, none⟩ = some (.int .i32 r) := by rw [hc2 _ _ (by first | (simp; done) | (simp; omega))]; simp
      have x4 : w2.cell? ⟨w.heap.size + 1, 0, none⟩ = some (.int .i64 k') := by rw [hc2 _ _ (by first | (simp; done) | (simp; omega))]; simp
      have x5 : w2.cell? ⟨w.heap.size + 1, 1, none⟩ = some (.int .i64 a') := by rw [hc2 _ _ (by first | (simp; done) | (simp; omega))]; simp
      have x6 : w2.cell? ⟨w.heap.size + 1, 2, none⟩ = some (.int .i64 b') := by rw [hc2 _ _ (by first | (simp; done) | (simp; omega))]; simp
      have x7 : w2.cell? ⟨w.heap.size + 1, 3, none⟩ = some (.int .i32 r') := by rw [hc2 _ _ (by first | (simp; done) | (simp; omega))]; simp
      have hv := Lib.hid (show Hv w w2.drew from ⟨Vt.Forms.drew F2.out, below_drew (bl1' h2)⟩)
      clear hc2 F2 h2 hw2 F1 hw1 HF
      go_region_held3 (fun w' => w'.cell? ⟨w.heap.size, 0, none⟩ = some (.int .i64 k) ∧ w'.cell? ⟨w.heap.size, 1, none⟩ = some (.int .i64 a) ∧ w'.cell? ⟨w.heap.size, 2, none⟩ = some (.int .i64 b) ∧ w'.cell? ⟨w.heap.size, 3, none⟩ = some (.int .i32 r) ∧ w'.cell? ⟨w.heap.size + 1, 0, none⟩ = some (.int .i64 k') ∧ w'.cell? ⟨w.heap.size + 1, 1, none⟩ = some (.int .i64 a') ∧ w'.cell? ⟨w.heap.size + 1, 2, none⟩ = some (.int .i64 b') ∧ w'.cell? ⟨w.heap.size + 1, 3, none⟩ = some (.int .i32 r') ∧ Hv w w') (first | exact held8 (by assumption) (by assumption) | (go_keep; done) | exact ⟨by simpa using x0, by simpa using x1, by simpa using x2, by simpa using x3, by simpa using x4, by simpa using x5, by simpa using x6, by simpa using x7, hv.out⟩)
        (first | (go_at_call 10; refine (ex_any _ ?_).mono ?_; (exact And.left (And.right (And.right (And.right (And.right (And.right (And.right (And.right (And.right ((by assumption))))))))))); rintro e w' ⟨rfl, hb⟩))
      all_goals go_wp2
      all_goals go_ret
      all_goals refine ⟨by simp, ?_⟩
      all_goals exact And.right (And.right (And.right (And.right (And.right (And.right (And.right (And.right (And.right ((by assumption))))))))))
set_option maxHeartbeats 4000000 in
theorem unlike_law (k a b r k' a' b' r' : Int) (w : World) (F : Forms w 0) : Calls Tryd.prog 5 #[.agg #[.int .i64 k, .int .i64 a, .int .i64 b, .int .i32 r], .agg #[.int .i64 k', .int .i64 a', .int .i64 b', .int .i32 r']] w fun e w' => e = .returned (.bool true) ∧ Below w.heap.size w w' := by
  have HF := Lib.hid (fun x y => (F.alloc x).alloc y)
  cases h : isC k a b r
  · have HP := Lib.hid (pv_no h)
    clear F h
    go_enter Tryd.func5, Tryd.ntmps5
    go_wp2_with fail
    refine (vput_any _ _ _ _ _ (HF.out _ _)).mono ?_
    rintro e w1 ⟨rfl, hw1⟩
    rw [HP.out]
    have F1 := Lib.hid ((HF.out _ _).below hw1)
    have hc1 := old_cell hw1
    go_wp2_with fail
    refine (vput_any _ _ _ _ _ F1.out).mono ?_
    rintro e w2 ⟨rfl, hw2⟩
    unfold pv
    have F2 := Lib.hid (F1.out.below hw2)
    have h2 := hw1.trans (hw2.mono hw1.size)
    go_wp2_with fail
    refine (ex_any _ F2.out).mono ?_
    rintro e w3 ⟨rfl, hw3⟩
    have h3 := h2.trans (hw3.mono h2.size)
    go_wp2
    go_ret
    exact ⟨rfl, bl1' h3⟩
  cases h' : isC k' a' b' r'
  · have HP := Lib.hid (pv_yes h)
    have HP' := Lib.hid (pv_no h')
    clear F h h'
    go_enter Tryd.func5, Tryd.ntmps5
    go_wp2_with fail
    refine (vput_any _ _ _ _ _ (HF.out _ _)).mono ?_
    rintro e w1 ⟨rfl, hw1⟩
    rw [HP.out]
    have F1 := Lib.hid ((HF.out _ _).below hw1)
    have hc1 := old_cell hw1
    go_wp2_with fail
    refine (vput_any _ _ _ _ _ F1.out).mono ?_
    rintro e w2 ⟨rfl, hw2⟩
    rw [HP'.out]
    have F2 := Lib.hid (F1.out.below hw2)
    have h2 := hw1.trans (hw2.mono hw1.size)
    go_wp2_with fail
    refine (ex_any _ F2.out).mono ?_
    rintro e w3 ⟨rfl, hw3⟩
    have h3 := h2.trans (hw3.mono h2.size)
    go_wp2
    go_ret
    exact ⟨rfl, bl1' h3⟩
  by_cases hle : (bts k a b r).size ≤ (bts k' a' b' r').size
  · exact unlike_both k a b r k' a' b' r' h h' hle w F
  · have HP := Lib.hid (pv_yes h)
    have HP' := Lib.hid (pv_yes h')
    have hsz := bts_size k a b r
    have hsz' := bts_size k' a' b' r'
    have hd : decide (((bts k' a' b' r').size : Int) < ((bts k a b r).size : Int)) = true := decide_eq_true (by omega)
    have hd2 : (bts k' a' b' r').size < (bts k a b r).size := by omega
    clear F h h' hle
    go_enter Tryd.func5, Tryd.ntmps5
    go_wp2_with fail
    refine (vput_any _ _ _ _ _ (HF.out _ _)).mono ?_
    rintro e w1 ⟨rfl, hw1⟩
    rw [HP.out]
    have F1 := Lib.hid ((HF.out _ _).below hw1)
    have hc1 := old_cell hw1
    go_wp2_with fail
    refine (vput_any _ _ _ _ _ F1.out).mono ?_
    rintro e w2 ⟨rfl, hw2⟩
    rw [HP'.out]
    have F2 := Lib.hid (F1.out.below hw2)
    have h2 := hw1.trans (hw2.mono hw1.size)
    generalize bts k a b r = S at *
    generalize bts k' a' b' r' = T at *
    go_wp2_with fail
    refine (ex_any _ F2.out).mono ?_
    rintro e w3 ⟨rfl, hw3⟩
    have h3 := h2.trans (hw3.mono h2.size)
    go_wp2
    go_ret
    exact ⟨rfl, bl1' h3⟩
end Go.Proofs.YtmgckdicccpfoaaDoor
