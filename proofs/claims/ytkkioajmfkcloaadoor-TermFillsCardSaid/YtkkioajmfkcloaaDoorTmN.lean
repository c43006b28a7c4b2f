/- The reference's within, Is and New of a terminal. -/
import Derived.Test.YtkkioajmfkcloaaDoorTmI
import Derived.Test.YtkkioajmfkcloaaDoorMGe
set_option linter.unusedVariables false
namespace Go.Proofs.YtkkioajmfkcloaaDoor
open Go.RowKit Gl L Wd Gd Tm Vt
theorem rwithin_any (n m : Int) (w : World) : Calls Tryd.prog 19 #[.int .i64 n, .int .i64 m] w fun e w' => e = .returned (.int .i64 (wi n m)) ∧ w = w' := by
  rcases (show n < 0 ∨ 0 ≤ n ∧ n ≤ m ∨ 0 ≤ n ∧ m < n by omega) with h | ⟨h1, h2⟩ | ⟨h1, h2⟩
  · rw [show wi n m = 0 by unfold wi; rw [if_pos h]]
    go_enter Tryd.func19, Tryd.ntmps19
    go_wp2
    all_goals first | (exfalso; omega) | (go_ret; exact ⟨rfl, rfl⟩)
  · rw [wi_id n m ⟨h1, h2⟩]
    go_enter Tryd.func19, Tryd.ntmps19
    go_wp2
    all_goals first | (exfalso; omega) | (go_ret; exact ⟨rfl, rfl⟩)
  · rw [show wi n m = m by unfold wi; rw [if_neg (by omega), if_pos h2]]
    go_enter Tryd.func19, Tryd.ntmps19
    go_wp2
    all_goals first | (exfalso; omega) | (go_ret; exact ⟨rfl, rfl⟩)
set_option maxHeartbeats 4000000 in
theorem rtis_any (gw gh x y : Int) (k : Bool) (l : List (Int × Int)) (A : Option Addr) (cap : Nat) (W : World) (hv : Rc W (.slice A l.length cap) l) (hm : l.length ≤ maxLen) :
    Calls Tryd.prog 17 #[.agg #[.int .i64 gw, .int .i64 gh, .slice A l.length cap, .int .i64 x, .int .i64 y, .bool k]] W fun e w' => e = .returned (.bool (decide (rt ⟨gw, gh, l, x, y, k⟩))) ∧ Below W.heap.size W w' := by
  have V := Lib.hid (((Lv.start W).row hv).box (Nat.le_refl _) #[.int .i64 gw, .int .i64 gh, .slice A l.length cap, .int .i64 x, .int .i64 y, .bool k] 26)
  clear hv
  by_cases hr : right gw gh l
  · have hs := hr.1
    have HR := Lib.hid hr
    by_cases hp : 0 ≤ x ∧ x < gw ∧ 0 ≤ y ∧ y < gh
    · obtain ⟨p1, p2, p3, p4⟩ := hp
      have d1 : decide (0 ≤ x) = true := by rw [decide_eq_true_iff]; omega
      have d2 : decide (x < gw) = true := by rw [decide_eq_true_iff]; omega
      have d3 : decide (0 ≤ y) = true := by rw [decide_eq_true_iff]; omega
      have d4 : decide (y < gh) = true := by rw [decide_eq_true_iff]; omega
      have hrt : rt ⟨gw, gh, l, x, y, k⟩ ↔ (k = true → x = gw - 1) := ⟨fun h => h.2.2.2.2.2, fun h => ⟨hr, p1, p2, p3, p4, h⟩⟩
      cases k
      · have HY := Lib.hid (show rt ⟨gw, gh, l, x, y, false⟩ from hrt.2 (fun h => by cases h))
        clear hrt hr
        go_enter Tryd.func17, Tryd.ntmps17
        go_wp2_with fail
        refine (ris_grid_any gw gh _ l _ (V.out.rws 0 _ rfl).rw hm).mono ?_
        rintro e w1 ⟨rfl, hb1⟩
        rw [decide_eq_true HR.out]
        replace V := Lib.hid (V.out.call hb1 (Nat.le_refl _))
        have gp := V.out.bks 0 _ rfl
        dsimp only at gp
        obtain ⟨⟨pa, pb, pc, pd, pe, pf⟩, -, pz⟩ := blk6 gp
        clear gp hb1
        go_wp2
        go_ret
        exact ⟨ret_bool (by rw [decide_eq_true HY.out]), V.out.below⟩
      · by_cases hx : x = gw - 1
        · have HY := Lib.hid (show rt ⟨gw, gh, l, x, y, true⟩ from hrt.2 (fun _ => hx))
          have b1 : (x == gw - 1) = true := by rw [beq_iff_eq]; exact hx
          clear hrt hr hx
          go_enter Tryd.func17, Tryd.ntmps17
          go_wp2_with fail
          refine (ris_grid_any gw gh _ l _ (V.out.rws 0 _ rfl).rw hm).mono ?_
          rintro e w1 ⟨rfl, hb1⟩
          rw [decide_eq_true HR.out]
          replace V := Lib.hid (V.out.call hb1 (Nat.le_refl _))
          have gp := V.out.bks 0 _ rfl
          dsimp only at gp
          obtain ⟨⟨pa, pb, pc, pd, pe, pf⟩, -, pz⟩ := blk6 gp
          clear gp hb1
          go_wp2
          go_ret
          exact ⟨ret_bool (by rw [decide_eq_true HY.out]), V.out.below⟩
        · have HY := Lib.hid (show ¬ rt ⟨gw, gh, l, x, y, true⟩ from fun h => hx (hrt.1 h rfl))
          have b1 : (x == gw - 1) = false := by rw [beq_eq_false_iff_ne]; exact hx
          clear hrt hr hx
          go_enter Tryd.func17, Tryd.ntmps17
          go_wp2_with fail
          refine (ris_grid_any gw gh _ l _ (V.out.rws 0 _ rfl).rw hm).mono ?_
          rintro e w1 ⟨rfl, hb1⟩
          rw [decide_eq_true HR.out]
          replace V := Lib.hid (V.out.call hb1 (Nat.le_refl _))
          have gp := V.out.bks 0 _ rfl
          dsimp only at gp
          obtain ⟨⟨pa, pb, pc, pd, pe, pf⟩, -, pz⟩ := blk6 gp
          clear gp hb1
          go_wp2
          go_ret
          exact ⟨ret_bool (by rw [decide_eq_false HY.out]), V.out.below⟩
    · have HY := Lib.hid (show ¬ rt ⟨gw, gh, l, x, y, k⟩ from fun h => hp ⟨h.2.1, h.2.2.1, h.2.2.2.1, h.2.2.2.2.1⟩)
      rcases (show x < 0 ∨ 0 ≤ x ∧ gw ≤ x ∨ 0 ≤ x ∧ x < gw ∧ y < 0 ∨ 0 ≤ x ∧ x < gw ∧ 0 ≤ y ∧ gh ≤ y by omega) with h | ⟨h1, h⟩ | ⟨h1, h2, h⟩ | ⟨h1, h2, h3, h⟩
      all_goals
        clear hp hr
        go_enter Tryd.func17, Tryd.ntmps17
        go_wp2_with fail
        refine (ris_grid_any gw gh _ l _ (V.out.rws 0 _ rfl).rw hm).mono ?_
        rintro e w1 ⟨rfl, hb1⟩
        rw [decide_eq_true HR.out]
        replace V := Lib.hid (V.out.call hb1 (Nat.le_refl _))
        have gp := V.out.bks 0 _ rfl
        dsimp only at gp
        obtain ⟨⟨pa, pb, pc, pd, pe, pf⟩, -, pz⟩ := blk6 gp
        clear gp hb1
        go_wp2
        all_goals first | (exfalso; omega) | (go_ret; exact ⟨ret_bool (by rw [decide_eq_false HY.out]), V.out.below⟩)
  · have HR := Lib.hid hr
    have HY := Lib.hid (show ¬ rt ⟨gw, gh, l, x, y, k⟩ from fun h => hr h.1)
    clear hr
    go_enter Tryd.func17, Tryd.ntmps17
    go_wp2_with fail
    refine (ris_grid_any gw gh _ l _ (V.out.rws 0 _ rfl).rw hm).mono ?_
    rintro e w1 ⟨rfl, hb1⟩
    rw [decide_eq_false HR.out]
    replace V := Lib.hid (V.out.call hb1 (Nat.le_refl _))
    clear hb1
    go_wp2
    go_ret
    exact ⟨ret_bool (by rw [decide_eq_false HY.out]), V.out.below⟩
end Go.Proofs.YtkkioajmfkcloaaDoor
