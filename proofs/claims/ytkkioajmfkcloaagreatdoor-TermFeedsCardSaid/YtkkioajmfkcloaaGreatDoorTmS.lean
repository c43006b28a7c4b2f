/- The reference's Do of a terminal. -/
import Derived.Test.YtkkioajmfkcloaaGreatDoorTmN
import Derived.Test.YtkkioajmfkcloaaGreatDoorTmR
import Derived.Test.YtkkioajmfkcloaaGreatDoorMGe
import Derived.Test.YtkkioajmfkcloaaGreatDoorMGv
import Derived.Test.YtkkioajmfkcloaaGreatDoorMVr
import Derived.Deep.Cut
set_option linter.unusedVariables false
namespace Go.Proofs.YtkkioajmfkcloaaGreatDoor
open Go.RowKit Gl L Wd Gd Tm Vt
set_option maxHeartbeats 8000000 in
theorem rdo_no1 (gw gh x y K a b r : Int) (k : Bool) (l : List (Int × Int)) (hr : ¬ rt ⟨gw, gh, l, x, y, k⟩) (A : Option Addr) (cap : Nat) (W : World) (hv : Rc W (.slice A l.length cap) l) (hm : l.length ≤ maxLen) :
    Calls Tryz.prog 7 #[.agg #[.int .i64 gw, .int .i64 gh, .slice A l.length cap, .int .i64 x, .int .i64 y, .bool k], .agg #[.int .i64 K, .int .i64 a, .int .i64 b, .int .i32 r]] W fun e w' => DO (decide (rt ⟨gw, gh, l, x, y, k⟩) && isR (K, a, b, r)) 1 W.heap.size (.slice A l.length cap) l w' e (doT ⟨gw, gh, l, x, y, k⟩ (K, a, b, r)) ∧ Below W.heap.size W w' := by
  have HV0 := Lib.hid hv
  have V := Lib.hid (((((Lv.start W).row hv).box (Nat.le_refl _) #[.int .i64 gw, .int .i64 gh, .slice A l.length cap, .int .i64 x, .int .i64 y, .bool k] 26).box (Nat.le_refl _) #[.int .i64 K, .int .i64 a, .int .i64 b, .int .i32 r] 28).box (Nat.le_refl _) #[.int .i64 0, .int .i64 0, .slice none 0 0, .int .i64 0, .int .i64 0, .bool false] 26)
  clear hv
  have HR := Lib.hid hr
  have HNO := Lib.hid (show (decide (rt ⟨gw, gh, l, x, y, k⟩) && isR (K, a, b, r)) = false by rw [decide_eq_false hr]; rfl)
  clear hr
  go_enter Tryz.func7, Tryz.ntmps7
  go_wp2_with fail
  refine (rtis_any gw gh x y k l A cap _ (V.out.rws 0 _ rfl) hm).mono ?_
  rintro e w1 ⟨rfl, hb1⟩
  rw [decide_eq_false HR.out]
  replace V := Lib.hid (V.out.call hb1 (Nat.le_refl _))
  clear hb1
  have gz := V.out.bks 0 _ rfl
  dsimp only at gz
  rw [two_size] at gz
  obtain ⟨⟨k0, k1, k2, k3, k4, k5⟩, ⟨e0, e1, e2, e3, e4, e5⟩, z2⟩ := blk6 gz
  clear gz
  go_wp2
  refine bodyPost_ret (v := .tuple #[.agg #[.int .i64 0, .int .i64 0, .slice none 0 0, .int .i64 0, .int .i64 0, .bool false], .int .i64 1]) (by simp [results, Tryz.results7, go_sem, *]) rfl ⟨DO.no HNO.out rfl, ?_⟩
  have HB := V.out.below
  repeat (first | (with_reducible exact HB) | refine Below.setCell ?_ (by simp; omega) _)
set_option maxHeartbeats 8000000 in
theorem rdo_no2 (gw gh x y K a b r : Int) (k : Bool) (l : List (Int × Int)) (hr : rt ⟨gw, gh, l, x, y, k⟩) (hc : isR (K, a, b, r) = false) (A : Option Addr) (cap : Nat) (W : World) (hv : Rc W (.slice A l.length cap) l) (hm : l.length ≤ maxLen) :
    Calls Tryz.prog 7 #[.agg #[.int .i64 gw, .int .i64 gh, .slice A l.length cap, .int .i64 x, .int .i64 y, .bool k], .agg #[.int .i64 K, .int .i64 a, .int .i64 b, .int .i32 r]] W fun e w' => DO (decide (rt ⟨gw, gh, l, x, y, k⟩) && isR (K, a, b, r)) 1 W.heap.size (.slice A l.length cap) l w' e (doT ⟨gw, gh, l, x, y, k⟩ (K, a, b, r)) ∧ Below W.heap.size W w' := by
  have HV0 := Lib.hid hv
  have V := Lib.hid (((((Lv.start W).row hv).box (Nat.le_refl _) #[.int .i64 gw, .int .i64 gh, .slice A l.length cap, .int .i64 x, .int .i64 y, .bool k] 26).box (Nat.le_refl _) #[.int .i64 K, .int .i64 a, .int .i64 b, .int .i32 r] 28).box (Nat.le_refl _) #[.int .i64 0, .int .i64 0, .slice none 0 0, .int .i64 0, .int .i64 0, .bool false] 26)
  clear hv
  have HR := Lib.hid hr
  have HC := Lib.hid hc
  have HNO := Lib.hid (show (decide (rt ⟨gw, gh, l, x, y, k⟩) && isR (K, a, b, r)) = false by rw [hc, Bool.and_false])
  clear hr hc
  go_enter Tryz.func7, Tryz.ntmps7
  go_wp2_with fail
  refine (rtis_any gw gh x y k l A cap _ (V.out.rws 0 _ rfl) hm).mono ?_
  rintro e w1 ⟨rfl, hb1⟩
  rw [decide_eq_true HR.out]
  replace V := Lib.hid (V.out.call hb1 (Nat.le_refl _))
  clear hb1
  have gc := V.out.bks 1 _ rfl
  dsimp only at gc
  rw [one_size] at gc
  have q0 := cell_of_row _ _ 0 _ _ (0, 0) gc
  have q1 := cell_of_row _ _ 1 _ _ (0, 0) gc
  have q2 := cell_of_row _ _ 2 _ _ (0, 0) gc
  have q3 := cell_of_row _ _ 3 _ _ (0, 0) gc
  have qz := lt_of_block gc
  go_wp2_with fail
  refine (ris5_any K a b r _).mono ?_
  rintro e w2 ⟨rfl, hb2⟩
  rw [show isC K a b r = false from HC.out]
  replace V := Lib.hid (V.out.call hb2 (Nat.le_refl _))
  clear hb2 gc q0 q1 q2 q3 qz
  have gz := V.out.bks 0 _ rfl
  dsimp only at gz
  rw [two_size] at gz
  obtain ⟨⟨k0, k1, k2, k3, k4, k5⟩, ⟨e0, e1, e2, e3, e4, e5⟩, z2⟩ := blk6 gz
  clear gz
  go_wp2
  refine bodyPost_ret (v := .tuple #[.agg #[.int .i64 0, .int .i64 0, .slice none 0 0, .int .i64 0, .int .i64 0, .bool false], .int .i64 1]) (by simp [results, Tryz.results7, go_sem, *]) rfl ⟨DO.no HNO.out rfl, ?_⟩
  have HB := V.out.below
  repeat (first | (with_reducible exact HB) | refine Below.setCell ?_ (by simp; omega) _)
set_option maxHeartbeats 8000000 in
theorem rdo_1 (gw gh x y a b r : Int) (k : Bool) (l : List (Int × Int)) (hr : rt ⟨gw, gh, l, x, y, k⟩) (hc : isR (1, a, b, r) = true) (A : Option Addr) (cap : Nat) (W : World) (hv : Rc W (.slice A l.length cap) l) (hm : l.length ≤ maxLen) :
    Calls Tryz.prog 7 #[.agg #[.int .i64 gw, .int .i64 gh, .slice A l.length cap, .int .i64 x, .int .i64 y, .bool k], .agg #[.int .i64 1, .int .i64 a, .int .i64 b, .int .i32 r]] W fun e w' => DO (decide (rt ⟨gw, gh, l, x, y, k⟩) && isR (1, a, b, r)) 1 W.heap.size (.slice A l.length cap) l w' e (doT ⟨gw, gh, l, x, y, k⟩ (1, a, b, r)) ∧ Below W.heap.size W w' := by
  have HV0 := Lib.hid hv
  have V := Lib.hid (((((Lv.start W).row hv).box (Nat.le_refl _) #[.int .i64 gw, .int .i64 gh, .slice A l.length cap, .int .i64 x, .int .i64 y, .bool k] 26).box (Nat.le_refl _) #[.int .i64 1, .int .i64 a, .int .i64 b, .int .i32 r] 28).box (Nat.le_refl _) #[.int .i64 0, .int .i64 0, .slice none 0 0, .int .i64 0, .int .i64 0, .bool false] 26)
  clear hv
  have HR := Lib.hid hr
  have HC := Lib.hid hc
  have HYES := Lib.hid (show (decide (rt ⟨gw, gh, l, x, y, k⟩) && isR (1, a, b, r)) = true by rw [hc, decide_eq_true hr]; rfl)
  have hca := (isC_iff 1 a b r).1 hc
  have hsd := hr.1.1
  have hl1 := right_len hr.1
  have hx0 := hr.2.1
  have hx1 := hr.2.2.1
  have hy0 := hr.2.2.2.1
  have hy1 := hr.2.2.2.2.1
  simp only at hsd hl1 hx0 hx1 hy0 hy1
  have hR0 := Lib.hid hr.1
  have hm1 : 0 ≤ y * gw := Int.mul_nonneg hy0 (by omega)
  have hm2 : y * gw ≤ 23 * 80 := Int.mul_le_mul (by omega) (by omega) (by omega) (by omega)
  have hm3 : 0 ≤ (y + 1) * gw := Int.mul_nonneg (by omega) (by omega)
  have hm4 : (y + 1) * gw ≤ 24 * 80 := Int.mul_le_mul (by omega) (by omega) (by omega) (by omega)
  have hm5 : 0 ≤ gw * gh := Int.mul_nonneg (by omega) (by omega)
  have hm6 : gw * gh ≤ 80 * 24 := Int.mul_le_mul (by omega) (by omega) (by omega) (by omega)
  have HS := Lib.hid (show shw r = true by rcases hca with h | h | h | h; exact h.2.1; all_goals omega)
  obtain ⟨⟨uw, uh, ul, ux, uy, uk⟩, hu⟩ : ∃ u : Trm, tx ⟨gw, gh, l, x, y, k⟩ r = u := ⟨_, rfl⟩
  have HU := Lib.hid hu
  have HD := Lib.hid (show doT ⟨gw, gh, l, x, y, k⟩ (1, a, b, r) = ⟨uw, uh, ul, ux, uy, uk⟩ by rw [← hu]; rfl)
  clear hu
  rw [HD.out]
  clear hr hc hca
  go_enter Tryz.func7, Tryz.ntmps7
  go_wp2_with fail
  refine (rtis_any gw gh x y k l A cap _ (V.out.rws 0 _ rfl) hm).mono ?_
  rintro e w1 ⟨rfl, hb1⟩
  rw [decide_eq_true HR.out]
  replace V := Lib.hid (V.out.call hb1 (Nat.le_refl _))
  clear hb1
  have gc := V.out.bks 1 _ rfl
  dsimp only at gc
  rw [one_size] at gc
  have q0 := cell_of_row _ _ 0 _ _ (0, 0) gc
  have q1 := cell_of_row _ _ 1 _ _ (0, 0) gc
  have q2 := cell_of_row _ _ 2 _ _ (0, 0) gc
  have q3 := cell_of_row _ _ 3 _ _ (0, 0) gc
  have qz := lt_of_block gc
  go_wp2_with fail
  refine (ris5_any 1 a b r _).mono ?_
  rintro e w2 ⟨rfl, hb2⟩
  rw [show isC 1 a b r = true from HC.out]
  replace V := Lib.hid (V.out.call hb2 (Nat.le_refl _))
  clear hb2 gc q0 q1 q2 q3 qz
  have gc := V.out.bks 1 _ rfl
  dsimp only at gc
  rw [one_size] at gc
  have q0 := cell_of_row _ _ 0 _ _ (0, 0) gc
  have q1 := cell_of_row _ _ 1 _ _ (0, 0) gc
  have q2 := cell_of_row _ _ 2 _ _ (0, 0) gc
  have q3 := cell_of_row _ _ 3 _ _ (0, 0) gc
  have qz := lt_of_block gc
  have gt := V.out.bks 2 _ rfl
  dsimp only at gt
  have gz := V.out.bks 0 _ rfl
  dsimp only at gz
  rw [two_size] at gz
  have KT := Lib.hid gt
  have KZ := Lib.hid gz
  obtain ⟨⟨c0, c1, c2, c3, c4, c5⟩, ⟨f0, f1, f2, f3, f4, f5⟩, z0⟩ := blk6 gt
  have hz2 : W.heap.size + 1 + 1 + 1 ≤ w2.heap.size := by have := lt_of_block gz; omega
  have HB := Lib.hid V.out.below
  clear gc gt gz
  go_wp2_with fail
  refine (rtext_any gw gh x y r k l HR.out HS.out A cap _ (HV0.out.below HB.out)).mono ?_
  rintro e w3 ⟨ho, hb3⟩
  rw [HU.out] at ho
  have hB3 := HB.out.trans (hb3.mono HB.out.size)
  obtain ⟨A3, cap3, rfl, hk⟩ := ho.op (HV0.out.below hB3)
  dsimp only at hk
  have gz := carry hb3 KZ.out
  have HK := Lib.hid (hk.mono (B' := W.heap.size + 1 + 1 + 1) (by omega))
  have HB3 := Lib.hid hB3
  clear ho hk hb3 hB3 c0 c1 c2 c3 c4 c5 f0 f1 f2 f3 f4 f5 z0
  obtain ⟨⟨k0, k1, k2, k3, k4, k5⟩, ⟨e0, e1, e2, e3, e4, e5⟩, z2⟩ := blk6 gz
  clear gz
  go_wp2
  refine bodyPost_ret (v := .tuple #[.agg #[.int .i64 uw, .int .i64 uh, .slice A3 ul.length cap3, .int .i64 ux, .int .i64 uy, .bool uk], .int .i64 0]) (by simp [results, Tryz.results7, go_sem, *]) rfl ⟨DO.yes HYES.out (rfl) rfl ?_, ?_⟩
  · refine Kp.mono (B := W.heap.size + 1 + 1 + 1) ?_ (by omega)
    have HO' := HK.out
    repeat (first | (with_reducible exact HO') | refine Kp.set1 ?_ _ _ _ (by omega))
  · have HB' := HB3.out
    repeat (first | (with_reducible exact HB') | refine Below.setCell ?_ (by simp; omega) _)
set_option maxHeartbeats 8000000 in
theorem rdo_2 (gw gh x y a b r : Int) (k : Bool) (l : List (Int × Int)) (hr : rt ⟨gw, gh, l, x, y, k⟩) (hc : isR (2, a, b, r) = true) (A : Option Addr) (cap : Nat) (W : World) (hv : Rc W (.slice A l.length cap) l) (hm : l.length ≤ maxLen) :
    Calls Tryz.prog 7 #[.agg #[.int .i64 gw, .int .i64 gh, .slice A l.length cap, .int .i64 x, .int .i64 y, .bool k], .agg #[.int .i64 2, .int .i64 a, .int .i64 b, .int .i32 r]] W fun e w' => DO (decide (rt ⟨gw, gh, l, x, y, k⟩) && isR (2, a, b, r)) 1 W.heap.size (.slice A l.length cap) l w' e (doT ⟨gw, gh, l, x, y, k⟩ (2, a, b, r)) ∧ Below W.heap.size W w' := by
  have HV0 := Lib.hid hv
  have V := Lib.hid (((((Lv.start W).row hv).box (Nat.le_refl _) #[.int .i64 gw, .int .i64 gh, .slice A l.length cap, .int .i64 x, .int .i64 y, .bool k] 26).box (Nat.le_refl _) #[.int .i64 2, .int .i64 a, .int .i64 b, .int .i32 r] 28).box (Nat.le_refl _) #[.int .i64 0, .int .i64 0, .slice none 0 0, .int .i64 0, .int .i64 0, .bool false] 26)
  clear hv
  have HR := Lib.hid hr
  have HC := Lib.hid hc
  have HYES := Lib.hid (show (decide (rt ⟨gw, gh, l, x, y, k⟩) && isR (2, a, b, r)) = true by rw [hc, decide_eq_true hr]; rfl)
  have hca := (isC_iff 2 a b r).1 hc
  have hsd := hr.1.1
  have hl1 := right_len hr.1
  have hx0 := hr.2.1
  have hx1 := hr.2.2.1
  have hy0 := hr.2.2.2.1
  have hy1 := hr.2.2.2.2.1
  simp only at hsd hl1 hx0 hx1 hy0 hy1
  have hR0 := Lib.hid hr.1
  have hm1 : 0 ≤ y * gw := Int.mul_nonneg hy0 (by omega)
  have hm2 : y * gw ≤ 23 * 80 := Int.mul_le_mul (by omega) (by omega) (by omega) (by omega)
  have hm3 : 0 ≤ (y + 1) * gw := Int.mul_nonneg (by omega) (by omega)
  have hm4 : (y + 1) * gw ≤ 24 * 80 := Int.mul_le_mul (by omega) (by omega) (by omega) (by omega)
  have hm5 : 0 ≤ gw * gh := Int.mul_nonneg (by omega) (by omega)
  have hm6 : gw * gh ≤ 80 * 24 := Int.mul_le_mul (by omega) (by omega) (by omega) (by omega)
  have hab : 0 ≤ a ∧ a ≤ 100 ∧ 0 ≤ b ∧ b ≤ 100 := by omega
  have HD := Lib.hid (show doT ⟨gw, gh, l, x, y, k⟩ (2, a, b, r) = ⟨gw, gh, l, wi b (gw - 1), wi a (gh - 1), false⟩ from rfl)
  rw [HD.out]
  clear hr hc hca
  go_enter Tryz.func7, Tryz.ntmps7
  go_wp2_with fail
  refine (rtis_any gw gh x y k l A cap _ (V.out.rws 0 _ rfl) hm).mono ?_
  rintro e w1 ⟨rfl, hb1⟩
  rw [decide_eq_true HR.out]
  replace V := Lib.hid (V.out.call hb1 (Nat.le_refl _))
  clear hb1
  have gc := V.out.bks 1 _ rfl
  dsimp only at gc
  rw [one_size] at gc
  have q0 := cell_of_row _ _ 0 _ _ (0, 0) gc
  have q1 := cell_of_row _ _ 1 _ _ (0, 0) gc
  have q2 := cell_of_row _ _ 2 _ _ (0, 0) gc
  have q3 := cell_of_row _ _ 3 _ _ (0, 0) gc
  have qz := lt_of_block gc
  go_wp2_with fail
  refine (ris5_any 2 a b r _).mono ?_
  rintro e w2 ⟨rfl, hb2⟩
  rw [show isC 2 a b r = true from HC.out]
  replace V := Lib.hid (V.out.call hb2 (Nat.le_refl _))
  clear hb2 gc q0 q1 q2 q3 qz
  have gc := V.out.bks 1 _ rfl
  dsimp only at gc
  rw [one_size] at gc
  have q0 := cell_of_row _ _ 0 _ _ (0, 0) gc
  have q1 := cell_of_row _ _ 1 _ _ (0, 0) gc
  have q2 := cell_of_row _ _ 2 _ _ (0, 0) gc
  have q3 := cell_of_row _ _ 3 _ _ (0, 0) gc
  have qz := lt_of_block gc
  have gt := V.out.bks 2 _ rfl
  dsimp only at gt
  have gz := V.out.bks 0 _ rfl
  dsimp only at gz
  rw [two_size] at gz
  have KT := Lib.hid gt
  have KZ := Lib.hid gz
  obtain ⟨⟨c0, c1, c2, c3, c4, c5⟩, ⟨f0, f1, f2, f3, f4, f5⟩, z0⟩ := blk6 gt
  have hz2 : W.heap.size + 1 + 1 + 1 ≤ w2.heap.size := by have := lt_of_block gz; omega
  have HB := Lib.hid V.out.below
  clear gc gt gz
  go_wp2_with fail
  refine (rwithin_any b (gw - 1) _).mono ?_
  rintro e w7 ⟨rfl, rfl⟩
  go_wp2_with fail
  refine (rwithin_any a (gh - 1) _).mono ?_
  rintro e w7 ⟨rfl, rfl⟩
  generalize hX : wi b (gw - 1) = X
  generalize hY : wi a (gh - 1) = Y
  have HX := Lib.hid hX
  have HY := Lib.hid hY
  clear hX hY
  go_upto_region 35 with fail
  obtain ⟨w5, hw5⟩ : ∃ w5, w5 = (((w2.setCell ⟨W.heap.size, 5, none⟩ (.bool false)).setCell ⟨W.heap.size, 3, none⟩ (.int .i64 X)).setCell ⟨W.heap.size, 4, none⟩ (.int .i64 Y)) := ⟨_, rfl⟩
  rw [← hw5]
  have gt : w5.heap[W.heap.size]? = some (.cells #[.int .i64 gw, .int .i64 gh, .slice A l.length cap, .int .i64 X, .int .i64 Y, .bool false] 26 (0, 0)) := by rw [hw5]; exact heap_setCell_same _ _ 4 _ _ _ (heap_setCell_same _ _ 3 _ _ _ (heap_setCell_same _ _ 5 _ _ _ KT.out))
  have gz : w5.heap[W.heap.size + 1 + 1]? = some (.cells #[.int .i64 0, .int .i64 0, .slice none 0 0, .int .i64 0, .int .i64 0, .bool false] 26 (0, 0)) := by
    rw [hw5]
    repeat rw [heap_setCell_other _ _ _ _ (by simp; omega)]
    exact KZ.out
  have HB5 := Lib.hid (show Below W.heap.size W w5 by
    rw [hw5]
    have HB' := HB.out
    repeat (first | (with_reducible exact HB') | refine Below.setCell ?_ (by simp) _))
  have HK5 := Lib.hid (show Kp (W.heap.size + 1 + 1 + 1) (.slice A l.length cap) l w5 (.slice A l.length cap) (l) by
    exact Kp.same)
  clear hw5 c0 c1 c2 c3 c4 c5 f0 f1 f2 f3 f4 f5 z0
  obtain ⟨⟨c0, c1, c2, c3, c4, c5⟩, ⟨f0, f1, f2, f3, f4, f5⟩, z0⟩ := blk6 gt
  obtain ⟨⟨k0, k1, k2, k3, k4, k5⟩, ⟨e0, e1, e2, e3, e4, e5⟩, z2⟩ := blk6 gz
  clear gt gz
  go_wp2
  refine bodyPost_ret (v := .tuple #[.agg #[.int .i64 gw, .int .i64 gh, .slice A l.length cap, .int .i64 X, .int .i64 Y, .bool false], .int .i64 0]) (by simp [results, Tryz.results7, go_sem, *]) rfl ⟨DO.yes HYES.out (by rw [HX.out, HY.out]) rfl ?_, ?_⟩
  · refine Kp.mono (B := W.heap.size + 1 + 1 + 1) ?_ (by omega)
    have HO' := HK5.out
    repeat (first | (with_reducible exact HO') | refine Kp.set1 ?_ _ _ _ (by omega))
  · have HB' := HB5.out
    repeat (first | (with_reducible exact HB') | refine Below.setCell ?_ (by simp; omega) _)
set_option maxHeartbeats 8000000 in
theorem rdo_3 (gw gh x y a b r : Int) (k : Bool) (l : List (Int × Int)) (hr : rt ⟨gw, gh, l, x, y, k⟩) (hc : isR (3, a, b, r) = true) (A : Option Addr) (cap : Nat) (W : World) (hv : Rc W (.slice A l.length cap) l) (hm : l.length ≤ maxLen) :
    Calls Tryz.prog 7 #[.agg #[.int .i64 gw, .int .i64 gh, .slice A l.length cap, .int .i64 x, .int .i64 y, .bool k], .agg #[.int .i64 3, .int .i64 a, .int .i64 b, .int .i32 r]] W fun e w' => DO (decide (rt ⟨gw, gh, l, x, y, k⟩) && isR (3, a, b, r)) 1 W.heap.size (.slice A l.length cap) l w' e (doT ⟨gw, gh, l, x, y, k⟩ (3, a, b, r)) ∧ Below W.heap.size W w' := by
  have HV0 := Lib.hid hv
  have V := Lib.hid (((((Lv.start W).row hv).box (Nat.le_refl _) #[.int .i64 gw, .int .i64 gh, .slice A l.length cap, .int .i64 x, .int .i64 y, .bool k] 26).box (Nat.le_refl _) #[.int .i64 3, .int .i64 a, .int .i64 b, .int .i32 r] 28).box (Nat.le_refl _) #[.int .i64 0, .int .i64 0, .slice none 0 0, .int .i64 0, .int .i64 0, .bool false] 26)
  clear hv
  have HR := Lib.hid hr
  have HC := Lib.hid hc
  have HYES := Lib.hid (show (decide (rt ⟨gw, gh, l, x, y, k⟩) && isR (3, a, b, r)) = true by rw [hc, decide_eq_true hr]; rfl)
  have hca := (isC_iff 3 a b r).1 hc
  have hsd := hr.1.1
  have hl1 := right_len hr.1
  have hx0 := hr.2.1
  have hx1 := hr.2.2.1
  have hy0 := hr.2.2.2.1
  have hy1 := hr.2.2.2.2.1
  simp only at hsd hl1 hx0 hx1 hy0 hy1
  have hR0 := Lib.hid hr.1
  have hm1 : 0 ≤ y * gw := Int.mul_nonneg hy0 (by omega)
  have hm2 : y * gw ≤ 23 * 80 := Int.mul_le_mul (by omega) (by omega) (by omega) (by omega)
  have hm3 : 0 ≤ (y + 1) * gw := Int.mul_nonneg (by omega) (by omega)
  have hm4 : (y + 1) * gw ≤ 24 * 80 := Int.mul_le_mul (by omega) (by omega) (by omega) (by omega)
  have hm5 : 0 ≤ gw * gh := Int.mul_nonneg (by omega) (by omega)
  have hm6 : gw * gh ≤ 80 * 24 := Int.mul_le_mul (by omega) (by omega) (by omega) (by omega)
  have hab : 0 ≤ a ∧ a ≤ 100 ∧ 0 ≤ b ∧ b ≤ 100 := by omega
  have HD := Lib.hid (show doT ⟨gw, gh, l, x, y, k⟩ (3, a, b, r) = ⟨gw, gh, l, wi x (gw - 1), wi (y - a) (gh - 1), false⟩ from by rw [wi_id x (gw - 1) (by omega)]; rfl)
  rw [HD.out]
  clear hr hc hca
  go_enter Tryz.func7, Tryz.ntmps7
  go_wp2_with fail
  refine (rtis_any gw gh x y k l A cap _ (V.out.rws 0 _ rfl) hm).mono ?_
  rintro e w1 ⟨rfl, hb1⟩
  rw [decide_eq_true HR.out]
  replace V := Lib.hid (V.out.call hb1 (Nat.le_refl _))
  clear hb1
  have gc := V.out.bks 1 _ rfl
  dsimp only at gc
  rw [one_size] at gc
  have q0 := cell_of_row _ _ 0 _ _ (0, 0) gc
  have q1 := cell_of_row _ _ 1 _ _ (0, 0) gc
  have q2 := cell_of_row _ _ 2 _ _ (0, 0) gc
  have q3 := cell_of_row _ _ 3 _ _ (0, 0) gc
  have qz := lt_of_block gc
  go_wp2_with fail
  refine (ris5_any 3 a b r _).mono ?_
  rintro e w2 ⟨rfl, hb2⟩
  rw [show isC 3 a b r = true from HC.out]
  replace V := Lib.hid (V.out.call hb2 (Nat.le_refl _))
  clear hb2 gc q0 q1 q2 q3 qz
  have gc := V.out.bks 1 _ rfl
  dsimp only at gc
  rw [one_size] at gc
  have q0 := cell_of_row _ _ 0 _ _ (0, 0) gc
  have q1 := cell_of_row _ _ 1 _ _ (0, 0) gc
  have q2 := cell_of_row _ _ 2 _ _ (0, 0) gc
  have q3 := cell_of_row _ _ 3 _ _ (0, 0) gc
  have qz := lt_of_block gc
  have gt := V.out.bks 2 _ rfl
  dsimp only at gt
  have gz := V.out.bks 0 _ rfl
  dsimp only at gz
  rw [two_size] at gz
  have KT := Lib.hid gt
  have KZ := Lib.hid gz
  obtain ⟨⟨c0, c1, c2, c3, c4, c5⟩, ⟨f0, f1, f2, f3, f4, f5⟩, z0⟩ := blk6 gt
  have hz2 : W.heap.size + 1 + 1 + 1 ≤ w2.heap.size := by have := lt_of_block gz; omega
  have HB := Lib.hid V.out.below
  clear gc gt gz
  go_wp2_with fail
  refine (rwithin_any x (gw - 1) _).mono ?_
  rintro e w7 ⟨rfl, rfl⟩
  go_wp2_with fail
  refine (rwithin_any (y - a) (gh - 1) _).mono ?_
  rintro e w7 ⟨rfl, rfl⟩
  generalize hX : wi x (gw - 1) = X
  generalize hY : wi (y - a) (gh - 1) = Y
  have HX := Lib.hid hX
  have HY := Lib.hid hY
  clear hX hY
  go_upto_region 35 with fail
  obtain ⟨w5, hw5⟩ : ∃ w5, w5 = (((w2.setCell ⟨W.heap.size, 5, none⟩ (.bool false)).setCell ⟨W.heap.size, 3, none⟩ (.int .i64 X)).setCell ⟨W.heap.size, 4, none⟩ (.int .i64 Y)) := ⟨_, rfl⟩
  rw [← hw5]
  have gt : w5.heap[W.heap.size]? = some (.cells #[.int .i64 gw, .int .i64 gh, .slice A l.length cap, .int .i64 X, .int .i64 Y, .bool false] 26 (0, 0)) := by rw [hw5]; exact heap_setCell_same _ _ 4 _ _ _ (heap_setCell_same _ _ 3 _ _ _ (heap_setCell_same _ _ 5 _ _ _ KT.out))
  have gz : w5.heap[W.heap.size + 1 + 1]? = some (.cells #[.int .i64 0, .int .i64 0, .slice none 0 0, .int .i64 0, .int .i64 0, .bool false] 26 (0, 0)) := by
    rw [hw5]
    repeat rw [heap_setCell_other _ _ _ _ (by simp; omega)]
    exact KZ.out
  have HB5 := Lib.hid (show Below W.heap.size W w5 by
    rw [hw5]
    have HB' := HB.out
    repeat (first | (with_reducible exact HB') | refine Below.setCell ?_ (by simp) _))
  have HK5 := Lib.hid (show Kp (W.heap.size + 1 + 1 + 1) (.slice A l.length cap) l w5 (.slice A l.length cap) (l) by
    exact Kp.same)
  clear hw5 c0 c1 c2 c3 c4 c5 f0 f1 f2 f3 f4 f5 z0
  obtain ⟨⟨c0, c1, c2, c3, c4, c5⟩, ⟨f0, f1, f2, f3, f4, f5⟩, z0⟩ := blk6 gt
  obtain ⟨⟨k0, k1, k2, k3, k4, k5⟩, ⟨e0, e1, e2, e3, e4, e5⟩, z2⟩ := blk6 gz
  clear gt gz
  go_wp2
  refine bodyPost_ret (v := .tuple #[.agg #[.int .i64 gw, .int .i64 gh, .slice A l.length cap, .int .i64 X, .int .i64 Y, .bool false], .int .i64 0]) (by simp [results, Tryz.results7, go_sem, *]) rfl ⟨DO.yes HYES.out (by rw [HX.out, HY.out]) rfl ?_, ?_⟩
  · refine Kp.mono (B := W.heap.size + 1 + 1 + 1) ?_ (by omega)
    have HO' := HK5.out
    repeat (first | (with_reducible exact HO') | refine Kp.set1 ?_ _ _ _ (by omega))
  · have HB' := HB5.out
    repeat (first | (with_reducible exact HB') | refine Below.setCell ?_ (by simp; omega) _)
set_option maxHeartbeats 8000000 in
theorem rdo_4 (gw gh x y a b r : Int) (k : Bool) (l : List (Int × Int)) (hr : rt ⟨gw, gh, l, x, y, k⟩) (hc : isR (4, a, b, r) = true) (A : Option Addr) (cap : Nat) (W : World) (hv : Rc W (.slice A l.length cap) l) (hm : l.length ≤ maxLen) :
    Calls Tryz.prog 7 #[.agg #[.int .i64 gw, .int .i64 gh, .slice A l.length cap, .int .i64 x, .int .i64 y, .bool k], .agg #[.int .i64 4, .int .i64 a, .int .i64 b, .int .i32 r]] W fun e w' => DO (decide (rt ⟨gw, gh, l, x, y, k⟩) && isR (4, a, b, r)) 1 W.heap.size (.slice A l.length cap) l w' e (doT ⟨gw, gh, l, x, y, k⟩ (4, a, b, r)) ∧ Below W.heap.size W w' := by
  have HV0 := Lib.hid hv
  have V := Lib.hid (((((Lv.start W).row hv).box (Nat.le_refl _) #[.int .i64 gw, .int .i64 gh, .slice A l.length cap, .int .i64 x, .int .i64 y, .bool k] 26).box (Nat.le_refl _) #[.int .i64 4, .int .i64 a, .int .i64 b, .int .i32 r] 28).box (Nat.le_refl _) #[.int .i64 0, .int .i64 0, .slice none 0 0, .int .i64 0, .int .i64 0, .bool false] 26)
  clear hv
  have HR := Lib.hid hr
  have HC := Lib.hid hc
  have HYES := Lib.hid (show (decide (rt ⟨gw, gh, l, x, y, k⟩) && isR (4, a, b, r)) = true by rw [hc, decide_eq_true hr]; rfl)
  have hca := (isC_iff 4 a b r).1 hc
  have hsd := hr.1.1
  have hl1 := right_len hr.1
  have hx0 := hr.2.1
  have hx1 := hr.2.2.1
  have hy0 := hr.2.2.2.1
  have hy1 := hr.2.2.2.2.1
  simp only at hsd hl1 hx0 hx1 hy0 hy1
  have hR0 := Lib.hid hr.1
  have hm1 : 0 ≤ y * gw := Int.mul_nonneg hy0 (by omega)
  have hm2 : y * gw ≤ 23 * 80 := Int.mul_le_mul (by omega) (by omega) (by omega) (by omega)
  have hm3 : 0 ≤ (y + 1) * gw := Int.mul_nonneg (by omega) (by omega)
  have hm4 : (y + 1) * gw ≤ 24 * 80 := Int.mul_le_mul (by omega) (by omega) (by omega) (by omega)
  have hm5 : 0 ≤ gw * gh := Int.mul_nonneg (by omega) (by omega)
  have hm6 : gw * gh ≤ 80 * 24 := Int.mul_le_mul (by omega) (by omega) (by omega) (by omega)
  have hab : 0 ≤ a ∧ a ≤ 100 ∧ 0 ≤ b ∧ b ≤ 100 := by omega
  have HD := Lib.hid (show doT ⟨gw, gh, l, x, y, k⟩ (4, a, b, r) = ⟨gw, gh, l, wi x (gw - 1), wi (y + a) (gh - 1), false⟩ from by rw [wi_id x (gw - 1) (by omega)]; rfl)
  rw [HD.out]
  clear hr hc hca
  go_enter Tryz.func7, Tryz.ntmps7
  go_wp2_with fail
  refine (rtis_any gw gh x y k l A cap _ (V.out.rws 0 _ rfl) hm).mono ?_
  rintro e w1 ⟨rfl, hb1⟩
  rw [decide_eq_true HR.out]
  replace V := Lib.hid (V.out.call hb1 (Nat.le_refl _))
  clear hb1
  have gc := V.out.bks 1 _ rfl
  dsimp only at gc
  rw [one_size] at gc
  have q0 := cell_of_row _ _ 0 _ _ (0, 0) gc
  have q1 := cell_of_row _ _ 1 _ _ (0, 0) gc
  have q2 := cell_of_row _ _ 2 _ _ (0, 0) gc
  have q3 := cell_of_row _ _ 3 _ _ (0, 0) gc
  have qz := lt_of_block gc
  go_wp2_with fail
  refine (ris5_any 4 a b r _).mono ?_
  rintro e w2 ⟨rfl, hb2⟩
  rw [show isC 4 a b r = true from HC.out]
  replace V := Lib.hid (V.out.call hb2 (Nat.le_refl _))
  clear hb2 gc q0 q1 q2 q3 qz
  have gc := V.out.bks 1 _ rfl
  dsimp only at gc
  rw [one_size] at gc
  have q0 := cell_of_row _ _ 0 _ _ (0, 0) gc
  have q1 := cell_of_row _ _ 1 _ _ (0, 0) gc
  have q2 := cell_of_row _ _ 2 _ _ (0, 0) gc
  have q3 := cell_of_row _ _ 3 _ _ (0, 0) gc
  have qz := lt_of_block gc
  have gt := V.out.bks 2 _ rfl
  dsimp only at gt
  have gz := V.out.bks 0 _ rfl
  dsimp only at gz
  rw [two_size] at gz
  have KT := Lib.hid gt
  have KZ := Lib.hid gz
  obtain ⟨⟨c0, c1, c2, c3, c4, c5⟩, ⟨f0, f1, f2, f3, f4, f5⟩, z0⟩ := blk6 gt
  have hz2 : W.heap.size + 1 + 1 + 1 ≤ w2.heap.size := by have := lt_of_block gz; omega
  have HB := Lib.hid V.out.below
  clear gc gt gz
  go_wp2_with fail
  refine (rwithin_any x (gw - 1) _).mono ?_
  rintro e w7 ⟨rfl, rfl⟩
  go_wp2_with fail
  refine (rwithin_any (y + a) (gh - 1) _).mono ?_
  rintro e w7 ⟨rfl, rfl⟩
  generalize hX : wi x (gw - 1) = X
  generalize hY : wi (y + a) (gh - 1) = Y
  have HX := Lib.hid hX
  have HY := Lib.hid hY
  clear hX hY
  go_upto_region 35 with fail
  obtain ⟨w5, hw5⟩ : ∃ w5, w5 = (((w2.setCell ⟨W.heap.size, 5, none⟩ (.bool false)).setCell ⟨W.heap.size, 3, none⟩ (.int .i64 X)).setCell ⟨W.heap.size, 4, none⟩ (.int .i64 Y)) := ⟨_, rfl⟩
  rw [← hw5]
  have gt : w5.heap[W.heap.size]? = some (.cells #[.int .i64 gw, .int .i64 gh, .slice A l.length cap, .int .i64 X, .int .i64 Y, .bool false] 26 (0, 0)) := by rw [hw5]; exact heap_setCell_same _ _ 4 _ _ _ (heap_setCell_same _ _ 3 _ _ _ (heap_setCell_same _ _ 5 _ _ _ KT.out))
  have gz : w5.heap[W.heap.size + 1 + 1]? = some (.cells #[.int .i64 0, .int .i64 0, .slice none 0 0, .int .i64 0, .int .i64 0, .bool false] 26 (0, 0)) := by
    rw [hw5]
    repeat rw [heap_setCell_other _ _ _ _ (by simp; omega)]
    exact KZ.out
  have HB5 := Lib.hid (show Below W.heap.size W w5 by
    rw [hw5]
    have HB' := HB.out
    repeat (first | (with_reducible exact HB') | refine Below.setCell ?_ (by simp) _))
  have HK5 := Lib.hid (show Kp (W.heap.size + 1 + 1 + 1) (.slice A l.length cap) l w5 (.slice A l.length cap) (l) by
    exact Kp.same)
  clear hw5 c0 c1 c2 c3 c4 c5 f0 f1 f2 f3 f4 f5 z0
  obtain ⟨⟨c0, c1, c2, c3, c4, c5⟩, ⟨f0, f1, f2, f3, f4, f5⟩, z0⟩ := blk6 gt
  obtain ⟨⟨k0, k1, k2, k3, k4, k5⟩, ⟨e0, e1, e2, e3, e4, e5⟩, z2⟩ := blk6 gz
  clear gt gz
  go_wp2
  refine bodyPost_ret (v := .tuple #[.agg #[.int .i64 gw, .int .i64 gh, .slice A l.length cap, .int .i64 X, .int .i64 Y, .bool false], .int .i64 0]) (by simp [results, Tryz.results7, go_sem, *]) rfl ⟨DO.yes HYES.out (by rw [HX.out, HY.out]) rfl ?_, ?_⟩
  · refine Kp.mono (B := W.heap.size + 1 + 1 + 1) ?_ (by omega)
    have HO' := HK5.out
    repeat (first | (with_reducible exact HO') | refine Kp.set1 ?_ _ _ _ (by omega))
  · have HB' := HB5.out
    repeat (first | (with_reducible exact HB') | refine Below.setCell ?_ (by simp; omega) _)
set_option maxHeartbeats 8000000 in
theorem rdo_5 (gw gh x y a b r : Int) (k : Bool) (l : List (Int × Int)) (hr : rt ⟨gw, gh, l, x, y, k⟩) (hc : isR (5, a, b, r) = true) (A : Option Addr) (cap : Nat) (W : World) (hv : Rc W (.slice A l.length cap) l) (hm : l.length ≤ maxLen) :
    Calls Tryz.prog 7 #[.agg #[.int .i64 gw, .int .i64 gh, .slice A l.length cap, .int .i64 x, .int .i64 y, .bool k], .agg #[.int .i64 5, .int .i64 a, .int .i64 b, .int .i32 r]] W fun e w' => DO (decide (rt ⟨gw, gh, l, x, y, k⟩) && isR (5, a, b, r)) 1 W.heap.size (.slice A l.length cap) l w' e (doT ⟨gw, gh, l, x, y, k⟩ (5, a, b, r)) ∧ Below W.heap.size W w' := by
  have HV0 := Lib.hid hv
  have V := Lib.hid (((((Lv.start W).row hv).box (Nat.le_refl _) #[.int .i64 gw, .int .i64 gh, .slice A l.length cap, .int .i64 x, .int .i64 y, .bool k] 26).box (Nat.le_refl _) #[.int .i64 5, .int .i64 a, .int .i64 b, .int .i32 r] 28).box (Nat.le_refl _) #[.int .i64 0, .int .i64 0, .slice none 0 0, .int .i64 0, .int .i64 0, .bool false] 26)
  clear hv
  have HR := Lib.hid hr
  have HC := Lib.hid hc
  have HYES := Lib.hid (show (decide (rt ⟨gw, gh, l, x, y, k⟩) && isR (5, a, b, r)) = true by rw [hc, decide_eq_true hr]; rfl)
  have hca := (isC_iff 5 a b r).1 hc
  have hsd := hr.1.1
  have hl1 := right_len hr.1
  have hx0 := hr.2.1
  have hx1 := hr.2.2.1
  have hy0 := hr.2.2.2.1
  have hy1 := hr.2.2.2.2.1
  simp only at hsd hl1 hx0 hx1 hy0 hy1
  have hR0 := Lib.hid hr.1
  have hm1 : 0 ≤ y * gw := Int.mul_nonneg hy0 (by omega)
  have hm2 : y * gw ≤ 23 * 80 := Int.mul_le_mul (by omega) (by omega) (by omega) (by omega)
  have hm3 : 0 ≤ (y + 1) * gw := Int.mul_nonneg (by omega) (by omega)
  have hm4 : (y + 1) * gw ≤ 24 * 80 := Int.mul_le_mul (by omega) (by omega) (by omega) (by omega)
  have hm5 : 0 ≤ gw * gh := Int.mul_nonneg (by omega) (by omega)
  have hm6 : gw * gh ≤ 80 * 24 := Int.mul_le_mul (by omega) (by omega) (by omega) (by omega)
  have hab : 0 ≤ a ∧ a ≤ 100 ∧ 0 ≤ b ∧ b ≤ 100 := by omega
  have HD := Lib.hid (show doT ⟨gw, gh, l, x, y, k⟩ (5, a, b, r) = ⟨gw, gh, l, wi (x + a) (gw - 1), wi y (gh - 1), false⟩ from by rw [wi_id y (gh - 1) (by omega)]; rfl)
  rw [HD.out]
  clear hr hc hca
  go_enter Tryz.func7, Tryz.ntmps7
  go_wp2_with fail
  refine (rtis_any gw gh x y k l A cap _ (V.out.rws 0 _ rfl) hm).mono ?_
  rintro e w1 ⟨rfl, hb1⟩
  rw [decide_eq_true HR.out]
  replace V := Lib.hid (V.out.call hb1 (Nat.le_refl _))
  clear hb1
  have gc := V.out.bks 1 _ rfl
  dsimp only at gc
  rw [one_size] at gc
  have q0 := cell_of_row _ _ 0 _ _ (0, 0) gc
  have q1 := cell_of_row _ _ 1 _ _ (0, 0) gc
  have q2 := cell_of_row _ _ 2 _ _ (0, 0) gc
  have q3 := cell_of_row _ _ 3 _ _ (0, 0) gc
  have qz := lt_of_block gc
  go_wp2_with fail
  refine (ris5_any 5 a b r _).mono ?_
  rintro e w2 ⟨rfl, hb2⟩
  rw [show isC 5 a b r = true from HC.out]
  replace V := Lib.hid (V.out.call hb2 (Nat.le_refl _))
  clear hb2 gc q0 q1 q2 q3 qz
  have gc := V.out.bks 1 _ rfl
  dsimp only at gc
  rw [one_size] at gc
  have q0 := cell_of_row _ _ 0 _ _ (0, 0) gc
  have q1 := cell_of_row _ _ 1 _ _ (0, 0) gc
  have q2 := cell_of_row _ _ 2 _ _ (0, 0) gc
  have q3 := cell_of_row _ _ 3 _ _ (0, 0) gc
  have qz := lt_of_block gc
  have gt := V.out.bks 2 _ rfl
  dsimp only at gt
  have gz := V.out.bks 0 _ rfl
  dsimp only at gz
  rw [two_size] at gz
  have KT := Lib.hid gt
  have KZ := Lib.hid gz
  obtain ⟨⟨c0, c1, c2, c3, c4, c5⟩, ⟨f0, f1, f2, f3, f4, f5⟩, z0⟩ := blk6 gt
  have hz2 : W.heap.size + 1 + 1 + 1 ≤ w2.heap.size := by have := lt_of_block gz; omega
  have HB := Lib.hid V.out.below
  clear gc gt gz
  go_wp2_with fail
  refine (rwithin_any (x + a) (gw - 1) _).mono ?_
  rintro e w7 ⟨rfl, rfl⟩
  go_wp2_with fail
  refine (rwithin_any y (gh - 1) _).mono ?_
  rintro e w7 ⟨rfl, rfl⟩
  generalize hX : wi (x + a) (gw - 1) = X
  generalize hY : wi y (gh - 1) = Y
  have HX := Lib.hid hX
  have HY := Lib.hid hY
  clear hX hY
  go_upto_region 35 with fail
  obtain ⟨w5, hw5⟩ : ∃ w5, w5 = (((w2.setCell ⟨W.heap.size, 5, none⟩ (.bool false)).setCell ⟨W.heap.size, 3, none⟩ (.int .i64 X)).setCell ⟨W.heap.size, 4, none⟩ (.int .i64 Y)) := ⟨_, rfl⟩
  rw [← hw5]
  have gt : w5.heap[W.heap.size]? = some (.cells #[.int .i64 gw, .int .i64 gh, .slice A l.length cap, .int .i64 X, .int .i64 Y, .bool false] 26 (0, 0)) := by rw [hw5]; exact heap_setCell_same _ _ 4 _ _ _ (heap_setCell_same _ _ 3 _ _ _ (heap_setCell_same _ _ 5 _ _ _ KT.out))
  have gz : w5.heap[W.heap.size + 1 + 1]? = some (.cells #[.int .i64 0, .int .i64 0, .slice none 0 0, .int .i64 0, .int .i64 0, .bool false] 26 (0, 0)) := by
    rw [hw5]
    repeat rw [heap_setCell_other _ _ _ _ (by simp; omega)]
    exact KZ.out
  have HB5 := Lib.hid (show Below W.heap.size W w5 by
    rw [hw5]
    have HB' := HB.out
    repeat (first | (with_reducible exact HB') | refine Below.setCell ?_ (by simp) _))
  have HK5 := Lib.hid (show Kp (W.heap.size + 1 + 1 + 1) (.slice A l.length cap) l w5 (.slice A l.length cap) (l) by
    exact Kp.same)
  clear hw5 c0 c1 c2 c3 c4 c5 f0 f1 f2 f3 f4 f5 z0
  obtain ⟨⟨c0, c1, c2, c3, c4, c5⟩, ⟨f0, f1, f2, f3, f4, f5⟩, z0⟩ := blk6 gt
  obtain ⟨⟨k0, k1, k2, k3, k4, k5⟩, ⟨e0, e1, e2, e3, e4, e5⟩, z2⟩ := blk6 gz
  clear gt gz
  go_wp2
  refine bodyPost_ret (v := .tuple #[.agg #[.int .i64 gw, .int .i64 gh, .slice A l.length cap, .int .i64 X, .int .i64 Y, .bool false], .int .i64 0]) (by simp [results, Tryz.results7, go_sem, *]) rfl ⟨DO.yes HYES.out (by rw [HX.out, HY.out]) rfl ?_, ?_⟩
  · refine Kp.mono (B := W.heap.size + 1 + 1 + 1) ?_ (by omega)
    have HO' := HK5.out
    repeat (first | (with_reducible exact HO') | refine Kp.set1 ?_ _ _ _ (by omega))
  · have HB' := HB5.out
    repeat (first | (with_reducible exact HB') | refine Below.setCell ?_ (by simp; omega) _)
set_option maxHeartbeats 8000000 in
theorem rdo_6 (gw gh x y a b r : Int) (k : Bool) (l : List (Int × Int)) (hr : rt ⟨gw, gh, l, x, y, k⟩) (hc : isR (6, a, b, r) = true) (A : Option Addr) (cap : Nat) (W : World) (hv : Rc W (.slice A l.length cap) l) (hm : l.length ≤ maxLen) :
    Calls Tryz.prog 7 #[.agg #[.int .i64 gw, .int .i64 gh, .slice A l.length cap, .int .i64 x, .int .i64 y, .bool k], .agg #[.int .i64 6, .int .i64 a, .int .i64 b, .int .i32 r]] W fun e w' => DO (decide (rt ⟨gw, gh, l, x, y, k⟩) && isR (6, a, b, r)) 1 W.heap.size (.slice A l.length cap) l w' e (doT ⟨gw, gh, l, x, y, k⟩ (6, a, b, r)) ∧ Below W.heap.size W w' := by
  have HV0 := Lib.hid hv
  have V := Lib.hid (((((Lv.start W).row hv).box (Nat.le_refl _) #[.int .i64 gw, .int .i64 gh, .slice A l.length cap, .int .i64 x, .int .i64 y, .bool k] 26).box (Nat.le_refl _) #[.int .i64 6, .int .i64 a, .int .i64 b, .int .i32 r] 28).box (Nat.le_refl _) #[.int .i64 0, .int .i64 0, .slice none 0 0, .int .i64 0, .int .i64 0, .bool false] 26)
  clear hv
  have HR := Lib.hid hr
  have HC := Lib.hid hc
  have HYES := Lib.hid (show (decide (rt ⟨gw, gh, l, x, y, k⟩) && isR (6, a, b, r)) = true by rw [hc, decide_eq_true hr]; rfl)
  have hca := (isC_iff 6 a b r).1 hc
  have hsd := hr.1.1
  have hl1 := right_len hr.1
  have hx0 := hr.2.1
  have hx1 := hr.2.2.1
  have hy0 := hr.2.2.2.1
  have hy1 := hr.2.2.2.2.1
  simp only at hsd hl1 hx0 hx1 hy0 hy1
  have hR0 := Lib.hid hr.1
  have hm1 : 0 ≤ y * gw := Int.mul_nonneg hy0 (by omega)
  have hm2 : y * gw ≤ 23 * 80 := Int.mul_le_mul (by omega) (by omega) (by omega) (by omega)
  have hm3 : 0 ≤ (y + 1) * gw := Int.mul_nonneg (by omega) (by omega)
  have hm4 : (y + 1) * gw ≤ 24 * 80 := Int.mul_le_mul (by omega) (by omega) (by omega) (by omega)
  have hm5 : 0 ≤ gw * gh := Int.mul_nonneg (by omega) (by omega)
  have hm6 : gw * gh ≤ 80 * 24 := Int.mul_le_mul (by omega) (by omega) (by omega) (by omega)
  have hab : 0 ≤ a ∧ a ≤ 100 ∧ 0 ≤ b ∧ b ≤ 100 := by omega
  have HD := Lib.hid (show doT ⟨gw, gh, l, x, y, k⟩ (6, a, b, r) = ⟨gw, gh, l, wi (x - a) (gw - 1), wi y (gh - 1), false⟩ from by rw [wi_id y (gh - 1) (by omega)]; rfl)
  rw [HD.out]
  clear hr hc hca
  go_enter Tryz.func7, Tryz.ntmps7
  go_wp2_with fail
  refine (rtis_any gw gh x y k l A cap _ (V.out.rws 0 _ rfl) hm).mono ?_
  rintro e w1 ⟨rfl, hb1⟩
  rw [decide_eq_true HR.out]
  replace V := Lib.hid (V.out.call hb1 (Nat.le_refl _))
  clear hb1
  have gc := V.out.bks 1 _ rfl
  dsimp only at gc
  rw [one_size] at gc
  have q0 := cell_of_row _ _ 0 _ _ (0, 0) gc
  have q1 := cell_of_row _ _ 1 _ _ (0, 0) gc
  have q2 := cell_of_row _ _ 2 _ _ (0, 0) gc
  have q3 := cell_of_row _ _ 3 _ _ (0, 0) gc
  have qz := lt_of_block gc
  go_wp2_with fail
  refine (ris5_any 6 a b r _).mono ?_
  rintro e w2 ⟨rfl, hb2⟩
  rw [show isC 6 a b r = true from HC.out]
  replace V := Lib.hid (V.out.call hb2 (Nat.le_refl _))
  clear hb2 gc q0 q1 q2 q3 qz
  have gc := V.out.bks 1 _ rfl
  dsimp only at gc
  rw [one_size] at gc
  have q0 := cell_of_row _ _ 0 _ _ (0, 0) gc
  have q1 := cell_of_row _ _ 1 _ _ (0, 0) gc
  have q2 := cell_of_row _ _ 2 _ _ (0, 0) gc
  have q3 := cell_of_row _ _ 3 _ _ (0, 0) gc
  have qz := lt_of_block gc
  have gt := V.out.bks 2 _ rfl
  dsimp only at gt
  have gz := V.out.bks 0 _ rfl
  dsimp only at gz
  rw [two_size] at gz
  have KT := Lib.hid gt
  have KZ := Lib.hid gz
  obtain ⟨⟨c0, c1, c2, c3, c4, c5⟩, ⟨f0, f1, f2, f3, f4, f5⟩, z0⟩ := blk6 gt
  have hz2 : W.heap.size + 1 + 1 + 1 ≤ w2.heap.size := by have := lt_of_block gz; omega
  have HB := Lib.hid V.out.below
  clear gc gt gz
  go_wp2_with fail
  refine (rwithin_any (x - a) (gw - 1) _).mono ?_
  rintro e w7 ⟨rfl, rfl⟩
  go_wp2_with fail
  refine (rwithin_any y (gh - 1) _).mono ?_
  rintro e w7 ⟨rfl, rfl⟩
  generalize hX : wi (x - a) (gw - 1) = X
  generalize hY : wi y (gh - 1) = Y
  have HX := Lib.hid hX
  have HY := Lib.hid hY
  clear hX hY
  go_upto_region 35 with fail
  obtain ⟨w5, hw5⟩ : ∃ w5, w5 = (((w2.setCell ⟨W.heap.size, 5, none⟩ (.bool false)).setCell ⟨W.heap.size, 3, none⟩ (.int .i64 X)).setCell ⟨W.heap.size, 4, none⟩ (.int .i64 Y)) := ⟨_, rfl⟩
  rw [← hw5]
  have gt : w5.heap[W.heap.size]? = some (.cells #[.int .i64 gw, .int .i64 gh, .slice A l.length cap, .int .i64 X, .int .i64 Y, .bool false] 26 (0, 0)) := by rw [hw5]; exact heap_setCell_same _ _ 4 _ _ _ (heap_setCell_same _ _ 3 _ _ _ (heap_setCell_same _ _ 5 _ _ _ KT.out))
  have gz : w5.heap[W.heap.size + 1 + 1]? = some (.cells #[.int .i64 0, .int .i64 0, .slice none 0 0, .int .i64 0, .int .i64 0, .bool false] 26 (0, 0)) := by
    rw [hw5]
    repeat rw [heap_setCell_other _ _ _ _ (by simp; omega)]
    exact KZ.out
  have HB5 := Lib.hid (show Below W.heap.size W w5 by
    rw [hw5]
    have HB' := HB.out
    repeat (first | (with_reducible exact HB') | refine Below.setCell ?_ (by simp) _))
  have HK5 := Lib.hid (show Kp (W.heap.size + 1 + 1 + 1) (.slice A l.length cap) l w5 (.slice A l.length cap) (l) by
    exact Kp.same)
  clear hw5 c0 c1 c2 c3 c4 c5 f0 f1 f2 f3 f4 f5 z0
  obtain ⟨⟨c0, c1, c2, c3, c4, c5⟩, ⟨f0, f1, f2, f3, f4, f5⟩, z0⟩ := blk6 gt
  obtain ⟨⟨k0, k1, k2, k3, k4, k5⟩, ⟨e0, e1, e2, e3, e4, e5⟩, z2⟩ := blk6 gz
  clear gt gz
  go_wp2
  refine bodyPost_ret (v := .tuple #[.agg #[.int .i64 gw, .int .i64 gh, .slice A l.length cap, .int .i64 X, .int .i64 Y, .bool false], .int .i64 0]) (by simp [results, Tryz.results7, go_sem, *]) rfl ⟨DO.yes HYES.out (by rw [HX.out, HY.out]) rfl ?_, ?_⟩
  · refine Kp.mono (B := W.heap.size + 1 + 1 + 1) ?_ (by omega)
    have HO' := HK5.out
    repeat (first | (with_reducible exact HO') | refine Kp.set1 ?_ _ _ _ (by omega))
  · have HB' := HB5.out
    repeat (first | (with_reducible exact HB') | refine Below.setCell ?_ (by simp; omega) _)
set_option maxHeartbeats 8000000 in
theorem rdo_7 (gw gh x y a b r : Int) (k : Bool) (l : List (Int × Int)) (hr : rt ⟨gw, gh, l, x, y, k⟩) (hc : isR (7, a, b, r) = true) (A : Option Addr) (cap : Nat) (W : World) (hv : Rc W (.slice A l.length cap) l) (hm : l.length ≤ maxLen) :
    Calls Tryz.prog 7 #[.agg #[.int .i64 gw, .int .i64 gh, .slice A l.length cap, .int .i64 x, .int .i64 y, .bool k], .agg #[.int .i64 7, .int .i64 a, .int .i64 b, .int .i32 r]] W fun e w' => DO (decide (rt ⟨gw, gh, l, x, y, k⟩) && isR (7, a, b, r)) 1 W.heap.size (.slice A l.length cap) l w' e (doT ⟨gw, gh, l, x, y, k⟩ (7, a, b, r)) ∧ Below W.heap.size W w' := by
  have HV0 := Lib.hid hv
  have V := Lib.hid (((((Lv.start W).row hv).box (Nat.le_refl _) #[.int .i64 gw, .int .i64 gh, .slice A l.length cap, .int .i64 x, .int .i64 y, .bool k] 26).box (Nat.le_refl _) #[.int .i64 7, .int .i64 a, .int .i64 b, .int .i32 r] 28).box (Nat.le_refl _) #[.int .i64 0, .int .i64 0, .slice none 0 0, .int .i64 0, .int .i64 0, .bool false] 26)
  clear hv
  have HR := Lib.hid hr
  have HC := Lib.hid hc
  have HYES := Lib.hid (show (decide (rt ⟨gw, gh, l, x, y, k⟩) && isR (7, a, b, r)) = true by rw [hc, decide_eq_true hr]; rfl)
  have hca := (isC_iff 7 a b r).1 hc
  have hsd := hr.1.1
  have hl1 := right_len hr.1
  have hx0 := hr.2.1
  have hx1 := hr.2.2.1
  have hy0 := hr.2.2.2.1
  have hy1 := hr.2.2.2.2.1
  simp only at hsd hl1 hx0 hx1 hy0 hy1
  have hR0 := Lib.hid hr.1
  have hbm := blank_may hr
  simp only at hbm
  have HBM := Lib.hid hbm
  clear hbm
  have hm1 : 0 ≤ y * gw := Int.mul_nonneg hy0 (by omega)
  have hm2 : y * gw ≤ 23 * 80 := Int.mul_le_mul (by omega) (by omega) (by omega) (by omega)
  have hm3 : 0 ≤ (y + 1) * gw := Int.mul_nonneg (by omega) (by omega)
  have hm4 : (y + 1) * gw ≤ 24 * 80 := Int.mul_le_mul (by omega) (by omega) (by omega) (by omega)
  have hm5 : 0 ≤ gw * gh := Int.mul_nonneg (by omega) (by omega)
  have hm6 : gw * gh ≤ 80 * 24 := Int.mul_le_mul (by omega) (by omega) (by omega) (by omega)
  have HD := Lib.hid (show doT ⟨gw, gh, l, x, y, k⟩ (7, a, b, r) = ⟨gw, gh, blankL gw l (y * gw + x) ((y + 1) * gw), wi x (gw - 1), wi y (gh - 1), false⟩ from by rw [wi_id x (gw - 1) (by omega), wi_id y (gh - 1) (by omega)]; rfl)
  rw [HD.out]
  clear hr hc hca
  go_enter Tryz.func7, Tryz.ntmps7
  go_wp2_with fail
  refine (rtis_any gw gh x y k l A cap _ (V.out.rws 0 _ rfl) hm).mono ?_
  rintro e w1 ⟨rfl, hb1⟩
  rw [decide_eq_true HR.out]
  replace V := Lib.hid (V.out.call hb1 (Nat.le_refl _))
  clear hb1
  have gc := V.out.bks 1 _ rfl
  dsimp only at gc
  rw [one_size] at gc
  have q0 := cell_of_row _ _ 0 _ _ (0, 0) gc
  have q1 := cell_of_row _ _ 1 _ _ (0, 0) gc
  have q2 := cell_of_row _ _ 2 _ _ (0, 0) gc
  have q3 := cell_of_row _ _ 3 _ _ (0, 0) gc
  have qz := lt_of_block gc
  go_wp2_with fail
  refine (ris5_any 7 a b r _).mono ?_
  rintro e w2 ⟨rfl, hb2⟩
  rw [show isC 7 a b r = true from HC.out]
  replace V := Lib.hid (V.out.call hb2 (Nat.le_refl _))
  clear hb2 gc q0 q1 q2 q3 qz
  have gc := V.out.bks 1 _ rfl
  dsimp only at gc
  rw [one_size] at gc
  have q0 := cell_of_row _ _ 0 _ _ (0, 0) gc
  have q1 := cell_of_row _ _ 1 _ _ (0, 0) gc
  have q2 := cell_of_row _ _ 2 _ _ (0, 0) gc
  have q3 := cell_of_row _ _ 3 _ _ (0, 0) gc
  have qz := lt_of_block gc
  have gt := V.out.bks 2 _ rfl
  dsimp only at gt
  have gz := V.out.bks 0 _ rfl
  dsimp only at gz
  rw [two_size] at gz
  have KT := Lib.hid gt
  have KZ := Lib.hid gz
  obtain ⟨⟨c0, c1, c2, c3, c4, c5⟩, ⟨f0, f1, f2, f3, f4, f5⟩, z0⟩ := blk6 gt
  have hz2 : W.heap.size + 1 + 1 + 1 ≤ w2.heap.size := by have := lt_of_block gz; omega
  have HB := Lib.hid V.out.below
  clear gc gt gz
  go_upto_region 24 with fail
  obtain ⟨w4, hw4⟩ : ∃ w4, w4 = w2.setCell ⟨W.heap.size, 5, none⟩ (.bool false) := ⟨_, rfl⟩
  rw [← hw4]
  have gt := (show w4.heap[W.heap.size]? = some (.cells #[.int .i64 gw, .int .i64 gh, .slice A l.length cap, .int .i64 x, .int .i64 y, .bool false] 26 (0, 0)) by rw [hw4]; exact heap_setCell_same _ _ 5 _ _ _ KT.out)
  have KZ := Lib.hid (show w4.heap[W.heap.size + 1 + 1]? = some (.cells #[.int .i64 0, .int .i64 0, .slice none 0 0, .int .i64 0, .int .i64 0, .bool false] 26 (0, 0)) by rw [hw4]; exact (heap_setCell_other _ _ _ _ (by simp; omega)).trans KZ.out)
  have HB := Lib.hid (show Below W.heap.size W w4 by rw [hw4]; exact HB.out.setCell (by simp) _)
  have hz2 : W.heap.size + 1 + 1 + 1 ≤ w4.heap.size := by rw [hw4]; simp; omega
  clear hw4 c0 c1 c2 c3 c4 c5 f0 f1 f2 f3 f4 f5 z0 q0 q1 q2 q3 qz
  have KT := Lib.hid gt
  obtain ⟨⟨c0, c1, c2, c3, c4, c5⟩, ⟨f0, f1, f2, f3, f4, f5⟩, z0⟩ := blk6 gt
  clear gt
  go_wp2_with fail
  refine (rblank_any gw gh (y * gw + x) ((y + 1) * gw) _ l _ (HV0.out.below HB.out).rw (by unfold maxLen; omega)).mono ?_
  rintro e w3 ⟨ho, hb3⟩
  obtain ⟨v', rfl, hown⟩ := ho.is HBM.out.1
  obtain ⟨g, cap', rfl, hcap', hrow⟩ := hown
  have HB3 := Lib.hid (HB.out.trans (hb3.mono HB.out.size))
  have HO := Lib.hid ((Own.sh rfl hcap' hrow).mono (B' := W.heap.size + 1 + 1 + 1) (by omega))
  have gt := carry hb3 KT.out
  have KZ := Lib.hid (carry hb3 KZ.out)
  have KT := Lib.hid gt
  clear ho hrow hb3 c0 c1 c2 c3 c4 c5 f0 f1 f2 f3 f4 f5 z0
  obtain ⟨⟨c0, c1, c2, c3, c4, c5⟩, ⟨f0, f1, f2, f3, f4, f5⟩, z0⟩ := blk6 gt
  clear gt
  generalize hN : (blankL gw l (y * gw + x) ((y + 1) * gw)).length = N at *
  go_wp2_with fail
  refine (rwithin_any x (gw - 1) _).mono ?_
  rintro e w7 ⟨rfl, rfl⟩
  go_wp2_with fail
  refine (rwithin_any y (gh - 1) _).mono ?_
  rintro e w7 ⟨rfl, rfl⟩
  generalize hX : wi x (gw - 1) = X
  generalize hY : wi y (gh - 1) = Y
  have HX := Lib.hid hX
  have HY := Lib.hid hY
  clear hX hY
  go_upto_region 35 with fail
  obtain ⟨w5, hw5⟩ : ∃ w5, w5 = (((((w3.setCell ⟨W.heap.size, 0, none⟩ (.int .i64 gw)).setCell ⟨W.heap.size, 1, none⟩ (.int .i64 gh)).setCell ⟨W.heap.size, 2, none⟩ (.slice (some ⟨g, 0, none⟩) N cap')).setCell ⟨W.heap.size, 3, none⟩ (.int .i64 X)).setCell ⟨W.heap.size, 4, none⟩ (.int .i64 Y)) := ⟨_, rfl⟩
  rw [← hw5]
  have gt : w5.heap[W.heap.size]? = some (.cells #[.int .i64 gw, .int .i64 gh, .slice (some ⟨g, 0, none⟩) N cap', .int .i64 X, .int .i64 Y, .bool false] 26 (0, 0)) := by rw [hw5]; exact heap_setCell_same _ _ 4 _ _ _ (heap_setCell_same _ _ 3 _ _ _ (heap_setCell_same _ _ 2 _ _ _ (heap_setCell_same _ _ 1 _ _ _ (heap_setCell_same _ _ 0 _ _ _ KT.out))))
  have gz : w5.heap[W.heap.size + 1 + 1]? = some (.cells #[.int .i64 0, .int .i64 0, .slice none 0 0, .int .i64 0, .int .i64 0, .bool false] 26 (0, 0)) := by
    rw [hw5]
    repeat rw [heap_setCell_other _ _ _ _ (by simp; omega)]
    exact KZ.out
  have HB5 := Lib.hid (show Below W.heap.size W w5 by
    rw [hw5]
    have HB' := HB3.out
    repeat (first | (with_reducible exact HB') | refine Below.setCell ?_ (by simp) _))
  have HK5 := Lib.hid (show Kp (W.heap.size + 1 + 1 + 1) (.slice A l.length cap) l w5 (.slice (some ⟨g, 0, none⟩) N cap') (blankL gw l (y * gw + x) ((y + 1) * gw)) by
    rw [hw5]; have HO' : Kp (W.heap.size + 1 + 1 + 1) (.slice A l.length cap) l w3 (.slice (some ⟨g, 0, none⟩) N cap') (blankL gw l (y * gw + x) ((y + 1) * gw)) := .inr HO.out; repeat (first | (with_reducible exact HO') | refine Kp.set1 ?_ _ _ _ (by omega)))
  clear hw5 c0 c1 c2 c3 c4 c5 f0 f1 f2 f3 f4 f5 z0
  obtain ⟨⟨c0, c1, c2, c3, c4, c5⟩, ⟨f0, f1, f2, f3, f4, f5⟩, z0⟩ := blk6 gt
  obtain ⟨⟨k0, k1, k2, k3, k4, k5⟩, ⟨e0, e1, e2, e3, e4, e5⟩, z2⟩ := blk6 gz
  clear gt gz
  go_wp2
  refine bodyPost_ret (v := .tuple #[.agg #[.int .i64 gw, .int .i64 gh, .slice (some ⟨g, 0, none⟩) N cap', .int .i64 X, .int .i64 Y, .bool false], .int .i64 0]) (by simp [results, Tryz.results7, go_sem, *]) rfl ⟨DO.yes HYES.out (by rw [HX.out, HY.out]) rfl ?_, ?_⟩
  · refine Kp.mono (B := W.heap.size + 1 + 1 + 1) ?_ (by omega)
    have HO' := HK5.out
    repeat (first | (with_reducible exact HO') | refine Kp.set1 ?_ _ _ _ (by omega))
  · have HB' := HB5.out
    repeat (first | (with_reducible exact HB') | refine Below.setCell ?_ (by simp; omega) _)
set_option maxHeartbeats 8000000 in
theorem rdo_8 (gw gh x y a b r : Int) (k : Bool) (l : List (Int × Int)) (hr : rt ⟨gw, gh, l, x, y, k⟩) (hc : isR (8, a, b, r) = true) (A : Option Addr) (cap : Nat) (W : World) (hv : Rc W (.slice A l.length cap) l) (hm : l.length ≤ maxLen) :
    Calls Tryz.prog 7 #[.agg #[.int .i64 gw, .int .i64 gh, .slice A l.length cap, .int .i64 x, .int .i64 y, .bool k], .agg #[.int .i64 8, .int .i64 a, .int .i64 b, .int .i32 r]] W fun e w' => DO (decide (rt ⟨gw, gh, l, x, y, k⟩) && isR (8, a, b, r)) 1 W.heap.size (.slice A l.length cap) l w' e (doT ⟨gw, gh, l, x, y, k⟩ (8, a, b, r)) ∧ Below W.heap.size W w' := by
  have HV0 := Lib.hid hv
  have V := Lib.hid (((((Lv.start W).row hv).box (Nat.le_refl _) #[.int .i64 gw, .int .i64 gh, .slice A l.length cap, .int .i64 x, .int .i64 y, .bool k] 26).box (Nat.le_refl _) #[.int .i64 8, .int .i64 a, .int .i64 b, .int .i32 r] 28).box (Nat.le_refl _) #[.int .i64 0, .int .i64 0, .slice none 0 0, .int .i64 0, .int .i64 0, .bool false] 26)
  clear hv
  have HR := Lib.hid hr
  have HC := Lib.hid hc
  have HYES := Lib.hid (show (decide (rt ⟨gw, gh, l, x, y, k⟩) && isR (8, a, b, r)) = true by rw [hc, decide_eq_true hr]; rfl)
  have hca := (isC_iff 8 a b r).1 hc
  have hsd := hr.1.1
  have hl1 := right_len hr.1
  have hx0 := hr.2.1
  have hx1 := hr.2.2.1
  have hy0 := hr.2.2.2.1
  have hy1 := hr.2.2.2.2.1
  simp only at hsd hl1 hx0 hx1 hy0 hy1
  have hR0 := Lib.hid hr.1
  have hbm := blank_may hr
  simp only at hbm
  have HBM := Lib.hid hbm
  clear hbm
  have hm1 : 0 ≤ y * gw := Int.mul_nonneg hy0 (by omega)
  have hm2 : y * gw ≤ 23 * 80 := Int.mul_le_mul (by omega) (by omega) (by omega) (by omega)
  have hm3 : 0 ≤ (y + 1) * gw := Int.mul_nonneg (by omega) (by omega)
  have hm4 : (y + 1) * gw ≤ 24 * 80 := Int.mul_le_mul (by omega) (by omega) (by omega) (by omega)
  have hm5 : 0 ≤ gw * gh := Int.mul_nonneg (by omega) (by omega)
  have hm6 : gw * gh ≤ 80 * 24 := Int.mul_le_mul (by omega) (by omega) (by omega) (by omega)
  have HD := Lib.hid (show doT ⟨gw, gh, l, x, y, k⟩ (8, a, b, r) = ⟨gw, gh, blankL gw l (y * gw + x) (gw * gh), wi x (gw - 1), wi y (gh - 1), false⟩ from by rw [wi_id x (gw - 1) (by omega), wi_id y (gh - 1) (by omega)]; rfl)
  rw [HD.out]
  clear hr hc hca
  go_enter Tryz.func7, Tryz.ntmps7
  go_wp2_with fail
  refine (rtis_any gw gh x y k l A cap _ (V.out.rws 0 _ rfl) hm).mono ?_
  rintro e w1 ⟨rfl, hb1⟩
  rw [decide_eq_true HR.out]
  replace V := Lib.hid (V.out.call hb1 (Nat.le_refl _))
  clear hb1
  have gc := V.out.bks 1 _ rfl
  dsimp only at gc
  rw [one_size] at gc
  have q0 := cell_of_row _ _ 0 _ _ (0, 0) gc
  have q1 := cell_of_row _ _ 1 _ _ (0, 0) gc
  have q2 := cell_of_row _ _ 2 _ _ (0, 0) gc
  have q3 := cell_of_row _ _ 3 _ _ (0, 0) gc
  have qz := lt_of_block gc
  go_wp2_with fail
  refine (ris5_any 8 a b r _).mono ?_
  rintro e w2 ⟨rfl, hb2⟩
  rw [show isC 8 a b r = true from HC.out]
  replace V := Lib.hid (V.out.call hb2 (Nat.le_refl _))
  clear hb2 gc q0 q1 q2 q3 qz
  have gc := V.out.bks 1 _ rfl
  dsimp only at gc
  rw [one_size] at gc
  have q0 := cell_of_row _ _ 0 _ _ (0, 0) gc
  have q1 := cell_of_row _ _ 1 _ _ (0, 0) gc
  have q2 := cell_of_row _ _ 2 _ _ (0, 0) gc
  have q3 := cell_of_row _ _ 3 _ _ (0, 0) gc
  have qz := lt_of_block gc
  have gt := V.out.bks 2 _ rfl
  dsimp only at gt
  have gz := V.out.bks 0 _ rfl
  dsimp only at gz
  rw [two_size] at gz
  have KT := Lib.hid gt
  have KZ := Lib.hid gz
  obtain ⟨⟨c0, c1, c2, c3, c4, c5⟩, ⟨f0, f1, f2, f3, f4, f5⟩, z0⟩ := blk6 gt
  have hz2 : W.heap.size + 1 + 1 + 1 ≤ w2.heap.size := by have := lt_of_block gz; omega
  have HB := Lib.hid V.out.below
  clear gc gt gz
  go_upto_region 26 with fail
  obtain ⟨w4, hw4⟩ : ∃ w4, w4 = w2.setCell ⟨W.heap.size, 5, none⟩ (.bool false) := ⟨_, rfl⟩
  rw [← hw4]
  have gt := (show w4.heap[W.heap.size]? = some (.cells #[.int .i64 gw, .int .i64 gh, .slice A l.length cap, .int .i64 x, .int .i64 y, .bool false] 26 (0, 0)) by rw [hw4]; exact heap_setCell_same _ _ 5 _ _ _ KT.out)
  have KZ := Lib.hid (show w4.heap[W.heap.size + 1 + 1]? = some (.cells #[.int .i64 0, .int .i64 0, .slice none 0 0, .int .i64 0, .int .i64 0, .bool false] 26 (0, 0)) by rw [hw4]; exact (heap_setCell_other _ _ _ _ (by simp; omega)).trans KZ.out)
  have HB := Lib.hid (show Below W.heap.size W w4 by rw [hw4]; exact HB.out.setCell (by simp) _)
  have hz2 : W.heap.size + 1 + 1 + 1 ≤ w4.heap.size := by rw [hw4]; simp; omega
  clear hw4 c0 c1 c2 c3 c4 c5 f0 f1 f2 f3 f4 f5 z0 q0 q1 q2 q3 qz
  have KT := Lib.hid gt
  obtain ⟨⟨c0, c1, c2, c3, c4, c5⟩, ⟨f0, f1, f2, f3, f4, f5⟩, z0⟩ := blk6 gt
  clear gt
  go_wp2_with fail
  refine (rblank_any gw gh (y * gw + x) (gw * gh) _ l _ (HV0.out.below HB.out).rw (by unfold maxLen; omega)).mono ?_
  rintro e w3 ⟨ho, hb3⟩
  obtain ⟨v', rfl, hown⟩ := ho.is HBM.out.2
  obtain ⟨g, cap', rfl, hcap', hrow⟩ := hown
  have HB3 := Lib.hid (HB.out.trans (hb3.mono HB.out.size))
  have HO := Lib.hid ((Own.sh rfl hcap' hrow).mono (B' := W.heap.size + 1 + 1 + 1) (by omega))
  have gt := carry hb3 KT.out
  have KZ := Lib.hid (carry hb3 KZ.out)
  have KT := Lib.hid gt
  clear ho hrow hb3 c0 c1 c2 c3 c4 c5 f0 f1 f2 f3 f4 f5 z0
  obtain ⟨⟨c0, c1, c2, c3, c4, c5⟩, ⟨f0, f1, f2, f3, f4, f5⟩, z0⟩ := blk6 gt
  clear gt
  generalize hN : (blankL gw l (y * gw + x) (gw * gh)).length = N at *
  go_wp2_with fail
  refine (rwithin_any x (gw - 1) _).mono ?_
  rintro e w7 ⟨rfl, rfl⟩
  go_wp2_with fail
  refine (rwithin_any y (gh - 1) _).mono ?_
  rintro e w7 ⟨rfl, rfl⟩
  generalize hX : wi x (gw - 1) = X
  generalize hY : wi y (gh - 1) = Y
  have HX := Lib.hid hX
  have HY := Lib.hid hY
  clear hX hY
  go_upto_region 35 with fail
  obtain ⟨w5, hw5⟩ : ∃ w5, w5 = (((((w3.setCell ⟨W.heap.size, 0, none⟩ (.int .i64 gw)).setCell ⟨W.heap.size, 1, none⟩ (.int .i64 gh)).setCell ⟨W.heap.size, 2, none⟩ (.slice (some ⟨g, 0, none⟩) N cap')).setCell ⟨W.heap.size, 3, none⟩ (.int .i64 X)).setCell ⟨W.heap.size, 4, none⟩ (.int .i64 Y)) := ⟨_, rfl⟩
  rw [← hw5]
  have gt : w5.heap[W.heap.size]? = some (.cells #[.int .i64 gw, .int .i64 gh, .slice (some ⟨g, 0, none⟩) N cap', .int .i64 X, .int .i64 Y, .bool false] 26 (0, 0)) := by rw [hw5]; exact heap_setCell_same _ _ 4 _ _ _ (heap_setCell_same _ _ 3 _ _ _ (heap_setCell_same _ _ 2 _ _ _ (heap_setCell_same _ _ 1 _ _ _ (heap_setCell_same _ _ 0 _ _ _ KT.out))))
  have gz : w5.heap[W.heap.size + 1 + 1]? = some (.cells #[.int .i64 0, .int .i64 0, .slice none 0 0, .int .i64 0, .int .i64 0, .bool false] 26 (0, 0)) := by
    rw [hw5]
    repeat rw [heap_setCell_other _ _ _ _ (by simp; omega)]
    exact KZ.out
  have HB5 := Lib.hid (show Below W.heap.size W w5 by
    rw [hw5]
    have HB' := HB3.out
    repeat (first | (with_reducible exact HB') | refine Below.setCell ?_ (by simp) _))
  have HK5 := Lib.hid (show Kp (W.heap.size + 1 + 1 + 1) (.slice A l.length cap) l w5 (.slice (some ⟨g, 0, none⟩) N cap') (blankL gw l (y * gw + x) (gw * gh)) by
    rw [hw5]; have HO' : Kp (W.heap.size + 1 + 1 + 1) (.slice A l.length cap) l w3 (.slice (some ⟨g, 0, none⟩) N cap') (blankL gw l (y * gw + x) (gw * gh)) := .inr HO.out; repeat (first | (with_reducible exact HO') | refine Kp.set1 ?_ _ _ _ (by omega)))
  clear hw5 c0 c1 c2 c3 c4 c5 f0 f1 f2 f3 f4 f5 z0
  obtain ⟨⟨c0, c1, c2, c3, c4, c5⟩, ⟨f0, f1, f2, f3, f4, f5⟩, z0⟩ := blk6 gt
  obtain ⟨⟨k0, k1, k2, k3, k4, k5⟩, ⟨e0, e1, e2, e3, e4, e5⟩, z2⟩ := blk6 gz
  clear gt gz
  go_wp2
  refine bodyPost_ret (v := .tuple #[.agg #[.int .i64 gw, .int .i64 gh, .slice (some ⟨g, 0, none⟩) N cap', .int .i64 X, .int .i64 Y, .bool false], .int .i64 0]) (by simp [results, Tryz.results7, go_sem, *]) rfl ⟨DO.yes HYES.out (by rw [HX.out, HY.out]) rfl ?_, ?_⟩
  · refine Kp.mono (B := W.heap.size + 1 + 1 + 1) ?_ (by omega)
    have HO' := HK5.out
    repeat (first | (with_reducible exact HO') | refine Kp.set1 ?_ _ _ _ (by omega))
  · have HB' := HB5.out
    repeat (first | (with_reducible exact HB') | refine Below.setCell ?_ (by simp; omega) _)
set_option maxHeartbeats 8000000 in
theorem rdo_9 (gw gh x y a b r : Int) (k : Bool) (l : List (Int × Int)) (hr : rt ⟨gw, gh, l, x, y, k⟩) (hc : isR (9, a, b, r) = true) (A : Option Addr) (cap : Nat) (W : World) (hv : Rc W (.slice A l.length cap) l) (hm : l.length ≤ maxLen) :
    Calls Tryz.prog 7 #[.agg #[.int .i64 gw, .int .i64 gh, .slice A l.length cap, .int .i64 x, .int .i64 y, .bool k], .agg #[.int .i64 9, .int .i64 a, .int .i64 b, .int .i32 r]] W fun e w' => DO (decide (rt ⟨gw, gh, l, x, y, k⟩) && isR (9, a, b, r)) 1 W.heap.size (.slice A l.length cap) l w' e (doT ⟨gw, gh, l, x, y, k⟩ (9, a, b, r)) ∧ Below W.heap.size W w' := by
  have HV0 := Lib.hid hv
  have V := Lib.hid (((((Lv.start W).row hv).box (Nat.le_refl _) #[.int .i64 gw, .int .i64 gh, .slice A l.length cap, .int .i64 x, .int .i64 y, .bool k] 26).box (Nat.le_refl _) #[.int .i64 9, .int .i64 a, .int .i64 b, .int .i32 r] 28).box (Nat.le_refl _) #[.int .i64 0, .int .i64 0, .slice none 0 0, .int .i64 0, .int .i64 0, .bool false] 26)
  clear hv
  have HR := Lib.hid hr
  have HC := Lib.hid hc
  have HYES := Lib.hid (show (decide (rt ⟨gw, gh, l, x, y, k⟩) && isR (9, a, b, r)) = true by rw [hc, decide_eq_true hr]; rfl)
  have hca := (isC_iff 9 a b r).1 hc
  have hsd := hr.1.1
  have hl1 := right_len hr.1
  have hx0 := hr.2.1
  have hx1 := hr.2.2.1
  have hy0 := hr.2.2.2.1
  have hy1 := hr.2.2.2.2.1
  simp only at hsd hl1 hx0 hx1 hy0 hy1
  have hR0 := Lib.hid hr.1
  have hm1 : 0 ≤ y * gw := Int.mul_nonneg hy0 (by omega)
  have hm2 : y * gw ≤ 23 * 80 := Int.mul_le_mul (by omega) (by omega) (by omega) (by omega)
  have hm3 : 0 ≤ (y + 1) * gw := Int.mul_nonneg (by omega) (by omega)
  have hm4 : (y + 1) * gw ≤ 24 * 80 := Int.mul_le_mul (by omega) (by omega) (by omega) (by omega)
  have hm5 : 0 ≤ gw * gh := Int.mul_nonneg (by omega) (by omega)
  have hm6 : gw * gh ≤ 80 * 24 := Int.mul_le_mul (by omega) (by omega) (by omega) (by omega)
  have HD := Lib.hid (show doT ⟨gw, gh, l, x, y, k⟩ (9, a, b, r) = ⟨gw, gh, l, wi 0 (gw - 1), wi y (gh - 1), false⟩ from by rw [wi_id y (gh - 1) (by omega), wi_id 0 (gw - 1) (by omega)]; rfl)
  rw [HD.out]
  clear hr hc hca
  go_enter Tryz.func7, Tryz.ntmps7
  go_wp2_with fail
  refine (rtis_any gw gh x y k l A cap _ (V.out.rws 0 _ rfl) hm).mono ?_
  rintro e w1 ⟨rfl, hb1⟩
  rw [decide_eq_true HR.out]
  replace V := Lib.hid (V.out.call hb1 (Nat.le_refl _))
  clear hb1
  have gc := V.out.bks 1 _ rfl
  dsimp only at gc
  rw [one_size] at gc
  have q0 := cell_of_row _ _ 0 _ _ (0, 0) gc
  have q1 := cell_of_row _ _ 1 _ _ (0, 0) gc
  have q2 := cell_of_row _ _ 2 _ _ (0, 0) gc
  have q3 := cell_of_row _ _ 3 _ _ (0, 0) gc
  have qz := lt_of_block gc
  go_wp2_with fail
  refine (ris5_any 9 a b r _).mono ?_
  rintro e w2 ⟨rfl, hb2⟩
  rw [show isC 9 a b r = true from HC.out]
  replace V := Lib.hid (V.out.call hb2 (Nat.le_refl _))
  clear hb2 gc q0 q1 q2 q3 qz
  have gc := V.out.bks 1 _ rfl
  dsimp only at gc
  rw [one_size] at gc
  have q0 := cell_of_row _ _ 0 _ _ (0, 0) gc
  have q1 := cell_of_row _ _ 1 _ _ (0, 0) gc
  have q2 := cell_of_row _ _ 2 _ _ (0, 0) gc
  have q3 := cell_of_row _ _ 3 _ _ (0, 0) gc
  have qz := lt_of_block gc
  have gt := V.out.bks 2 _ rfl
  dsimp only at gt
  have gz := V.out.bks 0 _ rfl
  dsimp only at gz
  rw [two_size] at gz
  have KT := Lib.hid gt
  have KZ := Lib.hid gz
  obtain ⟨⟨c0, c1, c2, c3, c4, c5⟩, ⟨f0, f1, f2, f3, f4, f5⟩, z0⟩ := blk6 gt
  have hz2 : W.heap.size + 1 + 1 + 1 ≤ w2.heap.size := by have := lt_of_block gz; omega
  have HB := Lib.hid V.out.below
  clear gc gt gz
  go_wp2_with fail
  refine (rwithin_any 0 (gw - 1) _).mono ?_
  rintro e w7 ⟨rfl, rfl⟩
  go_wp2_with fail
  refine (rwithin_any y (gh - 1) _).mono ?_
  rintro e w7 ⟨rfl, rfl⟩
  generalize hX : wi 0 (gw - 1) = X
  generalize hY : wi y (gh - 1) = Y
  have HX := Lib.hid hX
  have HY := Lib.hid hY
  clear hX hY
  go_upto_region 35 with fail
  obtain ⟨w5, hw5⟩ : ∃ w5, w5 = (((w2.setCell ⟨W.heap.size, 5, none⟩ (.bool false)).setCell ⟨W.heap.size, 3, none⟩ (.int .i64 X)).setCell ⟨W.heap.size, 4, none⟩ (.int .i64 Y)) := ⟨_, rfl⟩
  rw [← hw5]
  have gt : w5.heap[W.heap.size]? = some (.cells #[.int .i64 gw, .int .i64 gh, .slice A l.length cap, .int .i64 X, .int .i64 Y, .bool false] 26 (0, 0)) := by rw [hw5]; exact heap_setCell_same _ _ 4 _ _ _ (heap_setCell_same _ _ 3 _ _ _ (heap_setCell_same _ _ 5 _ _ _ KT.out))
  have gz : w5.heap[W.heap.size + 1 + 1]? = some (.cells #[.int .i64 0, .int .i64 0, .slice none 0 0, .int .i64 0, .int .i64 0, .bool false] 26 (0, 0)) := by
    rw [hw5]
    repeat rw [heap_setCell_other _ _ _ _ (by simp; omega)]
    exact KZ.out
  have HB5 := Lib.hid (show Below W.heap.size W w5 by
    rw [hw5]
    have HB' := HB.out
    repeat (first | (with_reducible exact HB') | refine Below.setCell ?_ (by simp) _))
  have HK5 := Lib.hid (show Kp (W.heap.size + 1 + 1 + 1) (.slice A l.length cap) l w5 (.slice A l.length cap) (l) by
    exact Kp.same)
  clear hw5 c0 c1 c2 c3 c4 c5 f0 f1 f2 f3 f4 f5 z0
  obtain ⟨⟨c0, c1, c2, c3, c4, c5⟩, ⟨f0, f1, f2, f3, f4, f5⟩, z0⟩ := blk6 gt
  obtain ⟨⟨k0, k1, k2, k3, k4, k5⟩, ⟨e0, e1, e2, e3, e4, e5⟩, z2⟩ := blk6 gz
  clear gt gz
  go_wp2
  refine bodyPost_ret (v := .tuple #[.agg #[.int .i64 gw, .int .i64 gh, .slice A l.length cap, .int .i64 X, .int .i64 Y, .bool false], .int .i64 0]) (by simp [results, Tryz.results7, go_sem, *]) rfl ⟨DO.yes HYES.out (by rw [HX.out, HY.out]) rfl ?_, ?_⟩
  · refine Kp.mono (B := W.heap.size + 1 + 1 + 1) ?_ (by omega)
    have HO' := HK5.out
    repeat (first | (with_reducible exact HO') | refine Kp.set1 ?_ _ _ _ (by omega))
  · have HB' := HB5.out
    repeat (first | (with_reducible exact HB') | refine Below.setCell ?_ (by simp; omega) _)
set_option maxHeartbeats 8000000 in
theorem rdo_10 (gw gh x y a b r : Int) (k : Bool) (l : List (Int × Int)) (hr : rt ⟨gw, gh, l, x, y, k⟩) (hc : isR (10, a, b, r) = true) (A : Option Addr) (cap : Nat) (W : World) (hv : Rc W (.slice A l.length cap) l) (hm : l.length ≤ maxLen) :
    Calls Tryz.prog 7 #[.agg #[.int .i64 gw, .int .i64 gh, .slice A l.length cap, .int .i64 x, .int .i64 y, .bool k], .agg #[.int .i64 10, .int .i64 a, .int .i64 b, .int .i32 r]] W fun e w' => DO (decide (rt ⟨gw, gh, l, x, y, k⟩) && isR (10, a, b, r)) 1 W.heap.size (.slice A l.length cap) l w' e (doT ⟨gw, gh, l, x, y, k⟩ (10, a, b, r)) ∧ Below W.heap.size W w' := by
  have HV0 := Lib.hid hv
  have V := Lib.hid (((((Lv.start W).row hv).box (Nat.le_refl _) #[.int .i64 gw, .int .i64 gh, .slice A l.length cap, .int .i64 x, .int .i64 y, .bool k] 26).box (Nat.le_refl _) #[.int .i64 10, .int .i64 a, .int .i64 b, .int .i32 r] 28).box (Nat.le_refl _) #[.int .i64 0, .int .i64 0, .slice none 0 0, .int .i64 0, .int .i64 0, .bool false] 26)
  clear hv
  have HR := Lib.hid hr
  have HC := Lib.hid hc
  have HYES := Lib.hid (show (decide (rt ⟨gw, gh, l, x, y, k⟩) && isR (10, a, b, r)) = true by rw [hc, decide_eq_true hr]; rfl)
  have hca := (isC_iff 10 a b r).1 hc
  have hsd := hr.1.1
  have hl1 := right_len hr.1
  have hx0 := hr.2.1
  have hx1 := hr.2.2.1
  have hy0 := hr.2.2.2.1
  have hy1 := hr.2.2.2.2.1
  simp only at hsd hl1 hx0 hx1 hy0 hy1
  have hR0 := Lib.hid hr.1
  have hm1 : 0 ≤ y * gw := Int.mul_nonneg hy0 (by omega)
  have hm2 : y * gw ≤ 23 * 80 := Int.mul_le_mul (by omega) (by omega) (by omega) (by omega)
  have hm3 : 0 ≤ (y + 1) * gw := Int.mul_nonneg (by omega) (by omega)
  have hm4 : (y + 1) * gw ≤ 24 * 80 := Int.mul_le_mul (by omega) (by omega) (by omega) (by omega)
  have hm5 : 0 ≤ gw * gh := Int.mul_nonneg (by omega) (by omega)
  have hm6 : gw * gh ≤ 80 * 24 := Int.mul_le_mul (by omega) (by omega) (by omega) (by omega)
  obtain ⟨⟨uw, uh, ul, ux, uy, uk⟩, hu⟩ : ∃ u : Trm, dn ⟨gw, gh, l, x, y, false⟩ = u := ⟨_, rfl⟩
  have HU := Lib.hid hu
  have HD := Lib.hid (show doT ⟨gw, gh, l, x, y, k⟩ (10, a, b, r) = ⟨uw, uh, ul, ux, uy, uk⟩ by rw [← hu]; show { dn ⟨gw, gh, l, x, y, k⟩ with k := false } = _; unfold dn; simp only; split <;> rfl)
  clear hu
  rw [HD.out]
  clear hr hc hca
  go_enter Tryz.func7, Tryz.ntmps7
  go_wp2_with fail
  refine (rtis_any gw gh x y k l A cap _ (V.out.rws 0 _ rfl) hm).mono ?_
  rintro e w1 ⟨rfl, hb1⟩
  rw [decide_eq_true HR.out]
  replace V := Lib.hid (V.out.call hb1 (Nat.le_refl _))
  clear hb1
  have gc := V.out.bks 1 _ rfl
  dsimp only at gc
  rw [one_size] at gc
  have q0 := cell_of_row _ _ 0 _ _ (0, 0) gc
  have q1 := cell_of_row _ _ 1 _ _ (0, 0) gc
  have q2 := cell_of_row _ _ 2 _ _ (0, 0) gc
  have q3 := cell_of_row _ _ 3 _ _ (0, 0) gc
  have qz := lt_of_block gc
  go_wp2_with fail
  refine (ris5_any 10 a b r _).mono ?_
  rintro e w2 ⟨rfl, hb2⟩
  rw [show isC 10 a b r = true from HC.out]
  replace V := Lib.hid (V.out.call hb2 (Nat.le_refl _))
  clear hb2 gc q0 q1 q2 q3 qz
  have gc := V.out.bks 1 _ rfl
  dsimp only at gc
  rw [one_size] at gc
  have q0 := cell_of_row _ _ 0 _ _ (0, 0) gc
  have q1 := cell_of_row _ _ 1 _ _ (0, 0) gc
  have q2 := cell_of_row _ _ 2 _ _ (0, 0) gc
  have q3 := cell_of_row _ _ 3 _ _ (0, 0) gc
  have qz := lt_of_block gc
  have gt := V.out.bks 2 _ rfl
  dsimp only at gt
  have gz := V.out.bks 0 _ rfl
  dsimp only at gz
  rw [two_size] at gz
  have KT := Lib.hid gt
  have KZ := Lib.hid gz
  obtain ⟨⟨c0, c1, c2, c3, c4, c5⟩, ⟨f0, f1, f2, f3, f4, f5⟩, z0⟩ := blk6 gt
  have hz2 : W.heap.size + 1 + 1 + 1 ≤ w2.heap.size := by have := lt_of_block gz; omega
  have HB := Lib.hid V.out.below
  clear gc gt gz
  go_upto_region 30 with fail
  obtain ⟨w4, hw4⟩ : ∃ w4, w4 = w2.setCell ⟨W.heap.size, 5, none⟩ (.bool false) := ⟨_, rfl⟩
  rw [← hw4]
  have gt := (show w4.heap[W.heap.size]? = some (.cells #[.int .i64 gw, .int .i64 gh, .slice A l.length cap, .int .i64 x, .int .i64 y, .bool false] 26 (0, 0)) by rw [hw4]; exact heap_setCell_same _ _ 5 _ _ _ KT.out)
  have KZ := Lib.hid (show w4.heap[W.heap.size + 1 + 1]? = some (.cells #[.int .i64 0, .int .i64 0, .slice none 0 0, .int .i64 0, .int .i64 0, .bool false] 26 (0, 0)) by rw [hw4]; exact (heap_setCell_other _ _ _ _ (by simp; omega)).trans KZ.out)
  have HB := Lib.hid (show Below W.heap.size W w4 by rw [hw4]; exact HB.out.setCell (by simp) _)
  have hz2 : W.heap.size + 1 + 1 + 1 ≤ w4.heap.size := by rw [hw4]; simp; omega
  clear hw4 c0 c1 c2 c3 c4 c5 f0 f1 f2 f3 f4 f5 z0 q0 q1 q2 q3 qz
  obtain ⟨⟨c0, c1, c2, c3, c4, c5⟩, ⟨f0, f1, f2, f3, f4, f5⟩, z0⟩ := blk6 gt
  clear gt
  go_wp2_with fail
  refine (rdown_any gw gh x y false l hR0.out ⟨hy0, hy1⟩ A cap _ (HV0.out.below HB.out)).mono ?_
  rintro e w3 ⟨ho, hb3⟩
  rw [HU.out] at ho
  have hB3 := HB.out.trans (hb3.mono HB.out.size)
  obtain ⟨A3, cap3, rfl, hk⟩ := ho.op (HV0.out.below hB3)
  dsimp only at hk
  have gz := carry hb3 KZ.out
  have HK := Lib.hid (hk.mono (B' := W.heap.size + 1 + 1 + 1) (by omega))
  have HB3 := Lib.hid hB3
  clear ho hk hb3 hB3 c0 c1 c2 c3 c4 c5 f0 f1 f2 f3 f4 f5 z0
  obtain ⟨⟨k0, k1, k2, k3, k4, k5⟩, ⟨e0, e1, e2, e3, e4, e5⟩, z2⟩ := blk6 gz
  clear gz
  go_wp2
  refine bodyPost_ret (v := .tuple #[.agg #[.int .i64 uw, .int .i64 uh, .slice A3 ul.length cap3, .int .i64 ux, .int .i64 uy, .bool uk], .int .i64 0]) (by simp [results, Tryz.results7, go_sem, *]) rfl ⟨DO.yes HYES.out (rfl) rfl ?_, ?_⟩
  · refine Kp.mono (B := W.heap.size + 1 + 1 + 1) ?_ (by omega)
    have HO' := HK.out
    repeat (first | (with_reducible exact HO') | refine Kp.set1 ?_ _ _ _ (by omega))
  · have HB' := HB3.out
    repeat (first | (with_reducible exact HB') | refine Below.setCell ?_ (by simp; omega) _)
set_option maxHeartbeats 8000000 in
theorem rdo_11 (gw gh x y a b r : Int) (k : Bool) (l : List (Int × Int)) (hr : rt ⟨gw, gh, l, x, y, k⟩) (hc : isR (11, a, b, r) = true) (A : Option Addr) (cap : Nat) (W : World) (hv : Rc W (.slice A l.length cap) l) (hm : l.length ≤ maxLen) :
    Calls Tryz.prog 7 #[.agg #[.int .i64 gw, .int .i64 gh, .slice A l.length cap, .int .i64 x, .int .i64 y, .bool k], .agg #[.int .i64 11, .int .i64 a, .int .i64 b, .int .i32 r]] W fun e w' => DO (decide (rt ⟨gw, gh, l, x, y, k⟩) && isR (11, a, b, r)) 1 W.heap.size (.slice A l.length cap) l w' e (doT ⟨gw, gh, l, x, y, k⟩ (11, a, b, r)) ∧ Below W.heap.size W w' := by
  have HV0 := Lib.hid hv
  have V := Lib.hid (((((Lv.start W).row hv).box (Nat.le_refl _) #[.int .i64 gw, .int .i64 gh, .slice A l.length cap, .int .i64 x, .int .i64 y, .bool k] 26).box (Nat.le_refl _) #[.int .i64 11, .int .i64 a, .int .i64 b, .int .i32 r] 28).box (Nat.le_refl _) #[.int .i64 0, .int .i64 0, .slice none 0 0, .int .i64 0, .int .i64 0, .bool false] 26)
  clear hv
  have HR := Lib.hid hr
  have HC := Lib.hid hc
  have HYES := Lib.hid (show (decide (rt ⟨gw, gh, l, x, y, k⟩) && isR (11, a, b, r)) = true by rw [hc, decide_eq_true hr]; rfl)
  have hca := (isC_iff 11 a b r).1 hc
  have hsd := hr.1.1
  have hl1 := right_len hr.1
  have hx0 := hr.2.1
  have hx1 := hr.2.2.1
  have hy0 := hr.2.2.2.1
  have hy1 := hr.2.2.2.2.1
  simp only at hsd hl1 hx0 hx1 hy0 hy1
  have hR0 := Lib.hid hr.1
  have hm1 : 0 ≤ y * gw := Int.mul_nonneg hy0 (by omega)
  have hm2 : y * gw ≤ 23 * 80 := Int.mul_le_mul (by omega) (by omega) (by omega) (by omega)
  have hm3 : 0 ≤ (y + 1) * gw := Int.mul_nonneg (by omega) (by omega)
  have hm4 : (y + 1) * gw ≤ 24 * 80 := Int.mul_le_mul (by omega) (by omega) (by omega) (by omega)
  have hm5 : 0 ≤ gw * gh := Int.mul_nonneg (by omega) (by omega)
  have hm6 : gw * gh ≤ 80 * 24 := Int.mul_le_mul (by omega) (by omega) (by omega) (by omega)
  have HD := Lib.hid (show doT ⟨gw, gh, l, x, y, k⟩ (11, a, b, r) = ⟨gw, gh, l, wi (x - 1) (gw - 1), wi y (gh - 1), false⟩ from by rw [wi_id y (gh - 1) (by omega)]; rfl)
  rw [HD.out]
  clear hr hc hca
  go_enter Tryz.func7, Tryz.ntmps7
  go_wp2_with fail
  refine (rtis_any gw gh x y k l A cap _ (V.out.rws 0 _ rfl) hm).mono ?_
  rintro e w1 ⟨rfl, hb1⟩
  rw [decide_eq_true HR.out]
  replace V := Lib.hid (V.out.call hb1 (Nat.le_refl _))
  clear hb1
  have gc := V.out.bks 1 _ rfl
  dsimp only at gc
  rw [one_size] at gc
  have q0 := cell_of_row _ _ 0 _ _ (0, 0) gc
  have q1 := cell_of_row _ _ 1 _ _ (0, 0) gc
  have q2 := cell_of_row _ _ 2 _ _ (0, 0) gc
  have q3 := cell_of_row _ _ 3 _ _ (0, 0) gc
  have qz := lt_of_block gc
  go_wp2_with fail
  refine (ris5_any 11 a b r _).mono ?_
  rintro e w2 ⟨rfl, hb2⟩
  rw [show isC 11 a b r = true from HC.out]
  replace V := Lib.hid (V.out.call hb2 (Nat.le_refl _))
  clear hb2 gc q0 q1 q2 q3 qz
  have gc := V.out.bks 1 _ rfl
  dsimp only at gc
  rw [one_size] at gc
  have q0 := cell_of_row _ _ 0 _ _ (0, 0) gc
  have q1 := cell_of_row _ _ 1 _ _ (0, 0) gc
  have q2 := cell_of_row _ _ 2 _ _ (0, 0) gc
  have q3 := cell_of_row _ _ 3 _ _ (0, 0) gc
  have qz := lt_of_block gc
  have gt := V.out.bks 2 _ rfl
  dsimp only at gt
  have gz := V.out.bks 0 _ rfl
  dsimp only at gz
  rw [two_size] at gz
  have KT := Lib.hid gt
  have KZ := Lib.hid gz
  obtain ⟨⟨c0, c1, c2, c3, c4, c5⟩, ⟨f0, f1, f2, f3, f4, f5⟩, z0⟩ := blk6 gt
  have hz2 : W.heap.size + 1 + 1 + 1 ≤ w2.heap.size := by have := lt_of_block gz; omega
  have HB := Lib.hid V.out.below
  clear gc gt gz
  go_wp2_with fail
  refine (rwithin_any (x - 1) (gw - 1) _).mono ?_
  rintro e w7 ⟨rfl, rfl⟩
  go_wp2_with fail
  refine (rwithin_any y (gh - 1) _).mono ?_
  rintro e w7 ⟨rfl, rfl⟩
  generalize hX : wi (x - 1) (gw - 1) = X
  generalize hY : wi y (gh - 1) = Y
  have HX := Lib.hid hX
  have HY := Lib.hid hY
  clear hX hY
  go_upto_region 35 with fail
  obtain ⟨w5, hw5⟩ : ∃ w5, w5 = (((w2.setCell ⟨W.heap.size, 5, none⟩ (.bool false)).setCell ⟨W.heap.size, 3, none⟩ (.int .i64 X)).setCell ⟨W.heap.size, 4, none⟩ (.int .i64 Y)) := ⟨_, rfl⟩
  rw [← hw5]
  have gt : w5.heap[W.heap.size]? = some (.cells #[.int .i64 gw, .int .i64 gh, .slice A l.length cap, .int .i64 X, .int .i64 Y, .bool false] 26 (0, 0)) := by rw [hw5]; exact heap_setCell_same _ _ 4 _ _ _ (heap_setCell_same _ _ 3 _ _ _ (heap_setCell_same _ _ 5 _ _ _ KT.out))
  have gz : w5.heap[W.heap.size + 1 + 1]? = some (.cells #[.int .i64 0, .int .i64 0, .slice none 0 0, .int .i64 0, .int .i64 0, .bool false] 26 (0, 0)) := by
    rw [hw5]
    repeat rw [heap_setCell_other _ _ _ _ (by simp; omega)]
    exact KZ.out
  have HB5 := Lib.hid (show Below W.heap.size W w5 by
    rw [hw5]
    have HB' := HB.out
    repeat (first | (with_reducible exact HB') | refine Below.setCell ?_ (by simp) _))
  have HK5 := Lib.hid (show Kp (W.heap.size + 1 + 1 + 1) (.slice A l.length cap) l w5 (.slice A l.length cap) (l) by
    exact Kp.same)
  clear hw5 c0 c1 c2 c3 c4 c5 f0 f1 f2 f3 f4 f5 z0
  obtain ⟨⟨c0, c1, c2, c3, c4, c5⟩, ⟨f0, f1, f2, f3, f4, f5⟩, z0⟩ := blk6 gt
  obtain ⟨⟨k0, k1, k2, k3, k4, k5⟩, ⟨e0, e1, e2, e3, e4, e5⟩, z2⟩ := blk6 gz
  clear gt gz
  go_wp2
  refine bodyPost_ret (v := .tuple #[.agg #[.int .i64 gw, .int .i64 gh, .slice A l.length cap, .int .i64 X, .int .i64 Y, .bool false], .int .i64 0]) (by simp [results, Tryz.results7, go_sem, *]) rfl ⟨DO.yes HYES.out (by rw [HX.out, HY.out]) rfl ?_, ?_⟩
  · refine Kp.mono (B := W.heap.size + 1 + 1 + 1) ?_ (by omega)
    have HO' := HK5.out
    repeat (first | (with_reducible exact HO') | refine Kp.set1 ?_ _ _ _ (by omega))
  · have HB' := HB5.out
    repeat (first | (with_reducible exact HB') | refine Below.setCell ?_ (by simp; omega) _)
set_option maxHeartbeats 8000000 in
theorem rdo_12 (gw gh x y a b r : Int) (k : Bool) (l : List (Int × Int)) (hr : rt ⟨gw, gh, l, x, y, k⟩) (hc : isR (12, a, b, r) = true) (A : Option Addr) (cap : Nat) (W : World) (hv : Rc W (.slice A l.length cap) l) (hm : l.length ≤ maxLen) :
    Calls Tryz.prog 7 #[.agg #[.int .i64 gw, .int .i64 gh, .slice A l.length cap, .int .i64 x, .int .i64 y, .bool k], .agg #[.int .i64 12, .int .i64 a, .int .i64 b, .int .i32 r]] W fun e w' => DO (decide (rt ⟨gw, gh, l, x, y, k⟩) && isR (12, a, b, r)) 1 W.heap.size (.slice A l.length cap) l w' e (doT ⟨gw, gh, l, x, y, k⟩ (12, a, b, r)) ∧ Below W.heap.size W w' := by
  have HV0 := Lib.hid hv
  have V := Lib.hid (((((Lv.start W).row hv).box (Nat.le_refl _) #[.int .i64 gw, .int .i64 gh, .slice A l.length cap, .int .i64 x, .int .i64 y, .bool k] 26).box (Nat.le_refl _) #[.int .i64 12, .int .i64 a, .int .i64 b, .int .i32 r] 28).box (Nat.le_refl _) #[.int .i64 0, .int .i64 0, .slice none 0 0, .int .i64 0, .int .i64 0, .bool false] 26)
  clear hv
  have HR := Lib.hid hr
  have HC := Lib.hid hc
  have HYES := Lib.hid (show (decide (rt ⟨gw, gh, l, x, y, k⟩) && isR (12, a, b, r)) = true by rw [hc, decide_eq_true hr]; rfl)
  have hca := (isC_iff 12 a b r).1 hc
  have hsd := hr.1.1
  have hl1 := right_len hr.1
  have hx0 := hr.2.1
  have hx1 := hr.2.2.1
  have hy0 := hr.2.2.2.1
  have hy1 := hr.2.2.2.2.1
  simp only at hsd hl1 hx0 hx1 hy0 hy1
  have hR0 := Lib.hid hr.1
  have hm1 : 0 ≤ y * gw := Int.mul_nonneg hy0 (by omega)
  have hm2 : y * gw ≤ 23 * 80 := Int.mul_le_mul (by omega) (by omega) (by omega) (by omega)
  have hm3 : 0 ≤ (y + 1) * gw := Int.mul_nonneg (by omega) (by omega)
  have hm4 : (y + 1) * gw ≤ 24 * 80 := Int.mul_le_mul (by omega) (by omega) (by omega) (by omega)
  have hm5 : 0 ≤ gw * gh := Int.mul_nonneg (by omega) (by omega)
  have hm6 : gw * gh ≤ 80 * 24 := Int.mul_le_mul (by omega) (by omega) (by omega) (by omega)
  have HD := Lib.hid (show doT ⟨gw, gh, l, x, y, k⟩ (12, a, b, r) = ⟨gw, gh, l, x, y, k⟩ from rfl)
  rw [HD.out]
  clear hr hc hca
  go_enter Tryz.func7, Tryz.ntmps7
  go_wp2_with fail
  refine (rtis_any gw gh x y k l A cap _ (V.out.rws 0 _ rfl) hm).mono ?_
  rintro e w1 ⟨rfl, hb1⟩
  rw [decide_eq_true HR.out]
  replace V := Lib.hid (V.out.call hb1 (Nat.le_refl _))
  clear hb1
  have gc := V.out.bks 1 _ rfl
  dsimp only at gc
  rw [one_size] at gc
  have q0 := cell_of_row _ _ 0 _ _ (0, 0) gc
  have q1 := cell_of_row _ _ 1 _ _ (0, 0) gc
  have q2 := cell_of_row _ _ 2 _ _ (0, 0) gc
  have q3 := cell_of_row _ _ 3 _ _ (0, 0) gc
  have qz := lt_of_block gc
  go_wp2_with fail
  refine (ris5_any 12 a b r _).mono ?_
  rintro e w2 ⟨rfl, hb2⟩
  rw [show isC 12 a b r = true from HC.out]
  replace V := Lib.hid (V.out.call hb2 (Nat.le_refl _))
  clear hb2 gc q0 q1 q2 q3 qz
  have gc := V.out.bks 1 _ rfl
  dsimp only at gc
  rw [one_size] at gc
  have q0 := cell_of_row _ _ 0 _ _ (0, 0) gc
  have q1 := cell_of_row _ _ 1 _ _ (0, 0) gc
  have q2 := cell_of_row _ _ 2 _ _ (0, 0) gc
  have q3 := cell_of_row _ _ 3 _ _ (0, 0) gc
  have qz := lt_of_block gc
  have gt := V.out.bks 2 _ rfl
  dsimp only at gt
  have gz := V.out.bks 0 _ rfl
  dsimp only at gz
  rw [two_size] at gz
  have KT := Lib.hid gt
  have KZ := Lib.hid gz
  obtain ⟨⟨c0, c1, c2, c3, c4, c5⟩, ⟨f0, f1, f2, f3, f4, f5⟩, z0⟩ := blk6 gt
  have hz2 : W.heap.size + 1 + 1 + 1 ≤ w2.heap.size := by have := lt_of_block gz; omega
  have HB := Lib.hid V.out.below
  obtain ⟨⟨k0, k1, k2, k3, k4, k5⟩, ⟨e0, e1, e2, e3, e4, e5⟩, z2⟩ := blk6 gz
  clear gc gt gz
  go_wp2
  refine bodyPost_ret (v := .tuple #[.agg #[.int .i64 gw, .int .i64 gh, .slice A l.length cap, .int .i64 x, .int .i64 y, .bool k], .int .i64 0]) (by simp [results, Tryz.results7, go_sem, *]) rfl ⟨DO.yes HYES.out (rfl) rfl ?_, ?_⟩
  · refine Kp.mono (B := W.heap.size + 1 + 1 + 1) ?_ (by omega)
    have HO' := (Kp.same : Kp (W.heap.size + 1 + 1 + 1) (.slice A l.length cap) l w2 (.slice A l.length cap) l)
    repeat (first | (with_reducible exact HO') | refine Kp.set1 ?_ _ _ _ (by omega))
  · have HB' := HB.out
    repeat (first | (with_reducible exact HB') | refine Below.setCell ?_ (by simp; omega) _)
theorem rdo_any (gw gh x y K a b r : Int) (k : Bool) (l : List (Int × Int)) (A : Option Addr) (cap : Nat) (W : World) (hv : Rc W (.slice A l.length cap) l) (hm : l.length ≤ maxLen) :
    Calls Tryz.prog 7 #[.agg #[.int .i64 gw, .int .i64 gh, .slice A l.length cap, .int .i64 x, .int .i64 y, .bool k], .agg #[.int .i64 K, .int .i64 a, .int .i64 b, .int .i32 r]] W fun e w' => DO (decide (rt ⟨gw, gh, l, x, y, k⟩) && isR (K, a, b, r)) 1 W.heap.size (.slice A l.length cap) l w' e (doT ⟨gw, gh, l, x, y, k⟩ (K, a, b, r)) ∧ Below W.heap.size W w' := by
  by_cases hr : rt ⟨gw, gh, l, x, y, k⟩
  · cases hc : isR (K, a, b, r)
    · have h := rdo_no2 gw gh x y K a b r k l hr hc A cap W hv hm
      rw [hc] at h
      exact h
    · have hca := (isC_iff K a b r).1 hc
      have h : ∀ {P : Prop}, (isR (K, a, b, r) = true → P) → P := fun f => f hc
      rcases (show K = 1 ∨ K = 2 ∨ K = 3 ∨ K = 4 ∨ K = 5 ∨ K = 6 ∨ K = 7 ∨ K = 8 ∨ K = 9 ∨ K = 10 ∨ K = 11 ∨ K = 12 by omega) with rfl | rfl | rfl | rfl | rfl | rfl | rfl | rfl | rfl | rfl | rfl | rfl
      · have h2 := rdo_1 gw gh x y a b r k l hr hc A cap W hv hm
        rw [hc] at h2
        exact h2
      · have h2 := rdo_2 gw gh x y a b r k l hr hc A cap W hv hm
        rw [hc] at h2
        exact h2
      · have h2 := rdo_3 gw gh x y a b r k l hr hc A cap W hv hm
        rw [hc] at h2
        exact h2
      · have h2 := rdo_4 gw gh x y a b r k l hr hc A cap W hv hm
        rw [hc] at h2
        exact h2
      · have h2 := rdo_5 gw gh x y a b r k l hr hc A cap W hv hm
        rw [hc] at h2
        exact h2
      · have h2 := rdo_6 gw gh x y a b r k l hr hc A cap W hv hm
        rw [hc] at h2
        exact h2
      · have h2 := rdo_7 gw gh x y a b r k l hr hc A cap W hv hm
        rw [hc] at h2
        exact h2
      · have h2 := rdo_8 gw gh x y a b r k l hr hc A cap W hv hm
        rw [hc] at h2
        exact h2
      · have h2 := rdo_9 gw gh x y a b r k l hr hc A cap W hv hm
        rw [hc] at h2
        exact h2
      · have h2 := rdo_10 gw gh x y a b r k l hr hc A cap W hv hm
        rw [hc] at h2
        exact h2
      · have h2 := rdo_11 gw gh x y a b r k l hr hc A cap W hv hm
        rw [hc] at h2
        exact h2
      · have h2 := rdo_12 gw gh x y a b r k l hr hc A cap W hv hm
        rw [hc] at h2
        exact h2
  · exact rdo_no1 gw gh x y K a b r k l hr A cap W hv hm
end Go.Proofs.YtkkioajmfkcloaaGreatDoor
