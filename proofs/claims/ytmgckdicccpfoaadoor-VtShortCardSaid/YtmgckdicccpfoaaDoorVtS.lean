/- The walk of VtShort. Condition: the table of the kinds with one form as the program lays it. -/
import Derived.Test.YtmgckdicccpfoaaDoorVtM
import Derived.Test.YtmgckdicccpfoaaDoorVtU
set_option linter.unusedVariables false
namespace Go.Proofs.YtmgckdicccpfoaaDoor
open Go.RowKit Go.PlainAid Gl L Vt
theorem text_size (a b r : Int) (h : isC 1 a b r = true) : (bts 1 a b r).size ≤ 4 := by
  rw [bts_text h]
  rcases (isC_iff 1 a b r).1 h with h | h | h | h
  · exact (put_size r (shw_vld h.2.1).1).2
  all_goals omega
set_option maxHeartbeats 4000000 in
theorem short_law (k a b r : Int) (w : World) (F : Forms w 0) : Calls Tryd.prog 6 #[.agg #[.int .i64 k, .int .i64 a, .int .i64 b, .int .i32 r]] w fun e w' => e = .returned (.bool true) ∧ Below w.heap.size w w' := by
  have HF := Lib.hid (fun x => F.alloc x)
  clear F
  cases h : isC k a b r
  · have hP := Lib.hid (pv_no h)
    have hN := Lib.hid h
    clear h
    go_enter Tryd.func6, Tryd.ntmps6
    go_wp2_with fail
    refine (vput_any _ _ _ _ _ (HF.out _)).mono ?_
    rintro e w1 ⟨rfl, hw1⟩
    rw [hP.out]
    have F1 := Lib.hid ((HF.out _).below hw1)
    have hc1 := old_cell hw1
    go_wp2_with fail
    refine (ex_any _ F1.out).mono ?_
    rintro e w2 ⟨rfl, hw2⟩
    have F2 := Lib.hid (F1.out.below hw2)
    have h2 := hw1.trans (hw2.mono hw1.size)
    clear hc1
    have hc2 := old_cell h2
    go_wp2_with fail
    refine (vis_any _ _ _ _ _ F2.out).mono ?_
    rintro e w3 ⟨rfl, hw3⟩
    rw [hN.out]
    have h3 := h2.trans (hw3.mono h2.size)
    go_wp2
    go_ret
    exact ⟨rfl, bl1 h3⟩
  · have hP := Lib.hid (pv_yes h)
    have hN := Lib.hid h
    have h8 := bts_size k a b r
    have h1 := bts_one k a b r h
    have hi := Lib.hid (fun j hj1 hj2 => bts_hi k a b r h j hj1 hj2)
    have h4 : k = 1 → (bts k a b r).size ≤ 4 := fun e => by subst e; exact text_size a b r h
    have H4 := Lib.hid h4
    clear h h4
    generalize bts k a b r = S at *
    go_enter Tryd.func6, Tryd.ntmps6
    go_wp2_with fail
    refine (vput_any _ _ _ _ _ (HF.out _)).mono ?_
    rintro e w1 ⟨rfl, hw1⟩
    rw [hP.out]
    have F1 := Lib.hid ((HF.out _).below hw1)
    have hc1 := old_cell hw1
    have hz1 : w.heap.size < w1.heap.size := by have := hw1.size; simp at this; omega
    have hb := get_bt S
    go_wp2
    go_loopw [5] (fun i wr => ∃ j : Nat, 1 ≤ j ∧ j ≤ S.size ∧ i = .int .i64 j ∧ wr = w1) (fun i _ => S.size - (intOf i).toNat)
    case atStart => exact ⟨1, by omega, h1, rfl, rfl⟩
    case round =>
      obtain ⟨j, hj1, hj2, rfl, rfl⟩ := hrel
      by_cases hlt : j < S.size
      · have hge := hi.out j hj1 hlt
        have hd : decide (bt S j < 32) = false := decide_eq_false (by omega)
        go_wp2
        go_roundw
        case rel => exact ⟨j + 1, by omega, by omega, by go_num, trivial⟩
        case measure => simp [intOf]; omega
      · obtain rfl : j = S.size := by omega
        clear hlt hj1 hj2 hb
        by_cases hk : k = 1
        · have s4 := H4.out hk
          have s5 : decide ((S.size : Int) ≤ 4) = true := decide_eq_true (by omega)
          subst hk
          go_wp2_with fail
          refine (ex_any _ F1.out).mono ?_
          rintro e w2 ⟨rfl, hw2⟩
          have F2 := Lib.hid (F1.out.below hw2)
          have h2 := hw1.trans (hw2.mono hw1.size)
          clear hc1
          have hc2 := old_cell h2
          go_wp2_with fail
          refine (vis_any _ _ _ _ _ F2.out).mono ?_
          rintro e w3 ⟨rfl, hw3⟩
          rw [hN.out]
          have h3 := h2.trans (hw3.mono h2.size)
          clear hc2
          have hc3 := old_cell h3
          go_wp2
          go_ret
          exact ⟨rfl, bl1 h3⟩
        · have bk : (k == 1) = false := by simpa using hk
          have bk2 : (k != 1) = true := by rw [bne, bk]; rfl
          clear hk
          go_wp2_with fail
          refine (ex_any _ F1.out).mono ?_
          rintro e w2 ⟨rfl, hw2⟩
          have F2 := Lib.hid (F1.out.below hw2)
          have h2 := hw1.trans (hw2.mono hw1.size)
          clear hc1
          have hc2 := old_cell h2
          go_wp2_with fail
          refine (vis_any _ _ _ _ _ F2.out).mono ?_
          rintro e w3 ⟨rfl, hw3⟩
          rw [hN.out]
          have h3 := h2.trans (hw3.mono h2.size)
          clear hc2
          have hc3 := old_cell h3
          go_wp2
          go_ret
          exact ⟨rfl, bl1 h3⟩
end Go.Proofs.YtmgckdicccpfoaaDoor
