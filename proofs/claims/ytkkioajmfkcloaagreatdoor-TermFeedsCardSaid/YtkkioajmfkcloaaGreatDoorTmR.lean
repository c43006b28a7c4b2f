/- The reference's down and text of a terminal. -/
import Derived.Test.YtkkioajmfkcloaaGreatDoorMTd
import Derived.Test.YtkkioajmfkcloaaGreatDoorMGv
import Derived.Test.YtkkioajmfkcloaaGreatDoorGdT
import Derived.Deep.Cut
set_option linter.unusedVariables false
namespace Go.Proofs.YtkkioajmfkcloaaGreatDoor
open Go.RowKit Gl L Wd Gd Tm
set_option maxHeartbeats 4000000 in
theorem rdown_any (gw gh x y : Int) (k : Bool) (l : List (Int × Int)) (h0 : right gw gh l) (h : 0 ≤ y ∧ y < gh) (A : Option Addr) (cap : Nat) (W : World) (hv : Rc W (.slice A l.length cap) l) :
    Calls Tryz.prog 19 #[.agg #[.int .i64 gw, .int .i64 gh, .slice A l.length cap, .int .i64 x, .int .i64 y, .bool k]] W fun e w' => TO W.heap.size (.slice A l.length cap) l w' e (dn ⟨gw, gh, l, x, y, k⟩) ∧ Below W.heap.size W w' := by
  have hb0 : Below W.heap.size W ((W.alloc (.cells #[.int .i64 gw, .int .i64 gh, .slice A l.length cap, .int .i64 x, .int .i64 y, .bool k] 26)).alloc (.cells #[.int .i64 0, .int .i64 0, .slice none 0 0, .int .i64 0, .int .i64 0, .bool false] 26)) := ((Below.refl _ _).alloc (Nat.le_refl _) _).alloc (by simp) _
  obtain ⟨h3, h4⟩ := h
  have hl := right_len h0
  have hs := h0.1
  by_cases hy : y = gh - 1
  · have d1 : (y == gh - 1) = true := by rw [beq_iff_eq]; omega
    have HV := Lib.hid (hv.below hb0)
    have HR := Lib.hid h0
    have HD := Lib.hid (show dn ⟨gw, gh, l, x, y, k⟩ = ⟨gw, gh, scrollL gw.toNat l, x, y, k⟩ by unfold dn; rw [if_pos hy])
    have G0 := Lib.hid (carryA (.cells #[.int .i64 0, .int .i64 0, .slice none 0 0, .int .i64 0, .int .i64 0, .bool false] 26) (heap_alloc_new W (.cells #[.int .i64 gw, .int .i64 gh, .slice A l.length cap, .int .i64 x, .int .i64 y, .bool k] 26)))
    have G1 := Lib.hid (heap_alloc_new (W.alloc (.cells #[.int .i64 gw, .int .i64 gh, .slice A l.length cap, .int .i64 x, .int .i64 y, .bool k] 26)) (.cells #[.int .i64 0, .int .i64 0, .slice none 0 0, .int .i64 0, .int .i64 0, .bool false] 26))
    clear hv h0 hy
    go_enter Tryz.func19, Tryz.ntmps19
    go_wp2_with fail
    refine (rscroll_any gw gh _ l _ HV.out.rw (by unfold maxLen; omega)).mono ?_
    rintro e w1 ⟨ho, hw1⟩
    unfold ScrollTold at ho
    rw [if_pos HR.out] at ho
    obtain ⟨v', rfl, hown⟩ := ho
    obtain ⟨g, cap', rfl, hcap', hrow⟩ := hown
    obtain ⟨⟨c0, c1, c2, c3, c4, c5⟩, ⟨f0, f1, f2, f3, f4, f5⟩, z0⟩ := blk6 (carry hw1 G0.out)
    have hG1 := carry hw1 G1.out
    rw [show (W.alloc (.cells #[.int .i64 gw, .int .i64 gh, .slice A l.length cap, .int .i64 x, .int .i64 y, .bool k] 26)).heap.size = W.heap.size + 1 by simp] at hG1
    obtain ⟨⟨k0, k1, k2, k3, k4, k5⟩, ⟨e0, e1, e2, e3, e4, e5⟩, z1⟩ := blk6 hG1
    have HO := Lib.hid (Own.sh rfl hcap' hrow)
    have HB := Lib.hid (hb0.trans (hw1.mono hb0.size))
    clear hrow hG1 hw1 hb0
    generalize hN : (scrollL gw.toNat l).length = N at *
    go_wp2
    refine bodyPost_ret (v := .agg #[.int .i64 gw, .int .i64 gh, .slice (some ⟨g, 0, none⟩) N cap', .int .i64 x, .int .i64 y, .bool k]) (by simp [results, Tryz.results19, go_sem, *]) rfl ⟨TO.of HD.out rfl ?_, ?_⟩
    · refine .inr (Own.mono (B := W.heap.size + 1 + 1) ?_ (by omega))
      have HO' := HO.out.mono (B' := W.heap.size + 1 + 1) (by simp)
      repeat (first | (with_reducible exact HO') | refine Own.set1 ?_ _ _ _ (by omega))
    · repeat (first | (with_reducible exact HB.out) | refine Below.setCell ?_ (by simp) _)
  · have d1 : (y == gh - 1) = false := by rw [beq_eq_false_iff_ne]; omega
    have HD := Lib.hid (show dn ⟨gw, gh, l, x, y, k⟩ = ⟨gw, gh, l, x, y + 1, k⟩ by unfold dn; rw [if_neg hy])
    have HV := Lib.hid hv
    clear hv hy
    go_enter Tryz.func19, Tryz.ntmps19
    go_wp2
    refine bodyPost_ret (v := .agg #[.int .i64 gw, .int .i64 gh, .slice A l.length cap, .int .i64 x, .int .i64 (y + 1), .bool k]) (by simp [results, Tryz.results19, go_sem]) rfl ⟨TO.of HD.out rfl Kp.same, ?_⟩
    exact ((Below.refl _ _).alloc (Nat.le_refl _) _).alloc (by simp) _
set_option maxHeartbeats 8000000 in
theorem rtext_on_no (gw gh x y r : Int) (l : List (Int × Int)) (h : rt ⟨gw, gh, l, x, y, false⟩) (hs : shw r = true) (hkw : x + wd r ≤ gw) (he : x + wd r ≠ gw) (A : Option Addr) (cap : Nat) (W : World) (hv : Rc W (.slice A l.length cap) l) :
    Calls Tryz.prog 17 #[.agg #[.int .i64 gw, .int .i64 gh, .slice A l.length cap, .int .i64 x, .int .i64 y, .bool false], .int .i32 r] W fun e w' => TO W.heap.size (.slice A l.length cap) l w' e (tx ⟨gw, gh, l, x, y, false⟩ r) ∧ Below W.heap.size W w' := by
  have hb0 : Below W.heap.size W ((W.alloc (.cells #[.int .i64 gw, .int .i64 gh, .slice A l.length cap, .int .i64 x, .int .i64 y, .bool false] 26)).alloc (.cells #[.int .i64 0, .int .i64 0, .slice none 0 0, .int .i64 0, .int .i64 0, .bool false] 26)) := ((Below.refl _ _).alloc (Nat.le_refl _) _).alloc (by simp) _
  have HV := Lib.hid (hv.below hb0)
  have HV0 := Lib.hid hv
  have hz3 : ((W.alloc (.cells #[.int .i64 gw, .int .i64 gh, .slice A l.length cap, .int .i64 x, .int .i64 y, .bool false] 26)).alloc (.cells #[.int .i64 0, .int .i64 0, .slice none 0 0, .int .i64 0, .int .i64 0, .bool false] 26)).heap.size = W.heap.size + 1 + 1 := by simp
  have G0 := Lib.hid (carryA (.cells #[.int .i64 0, .int .i64 0, .slice none 0 0, .int .i64 0, .int .i64 0, .bool false] 26) (heap_alloc_new W (.cells #[.int .i64 gw, .int .i64 gh, .slice A l.length cap, .int .i64 x, .int .i64 y, .bool false] 26)))
  have G2 := Lib.hid (heap_alloc_new (W.alloc (.cells #[.int .i64 gw, .int .i64 gh, .slice A l.length cap, .int .i64 x, .int .i64 y, .bool false] 26)) (.cells #[.int .i64 0, .int .i64 0, .slice none 0 0, .int .i64 0, .int .i64 0, .bool false] 26))
  rw [show (W.alloc (.cells #[.int .i64 gw, .int .i64 gh, .slice A l.length cap, .int .i64 x, .int .i64 y, .bool false] 26)).heap.size = W.heap.size + 1 by simp] at G2
  have hcl := cl_w hs
  have hrw := rowed_rt (r := r) h hs
  unfold tx
  have hro : rowed ⟨gw, gh, l, x, y, false⟩ r = ⟨gw, gh, l, x, y, false⟩ := by unfold rowed; rw [if_neg (by rintro (h | h); cases h; simp only [wd'] at h; unfold wd at hkw; omega)]
  rw [hro] at hrw ⊢
  simp only at hrw ⊢
  obtain ⟨hr1, hfit, -, -⟩ := hrw
  have HP := Lib.hid (put_may hr1 hs hfit)
  have hl1 := right_len hr1.1
  have hsd := hr1.1.1
  have hR0 := Lib.hid h.1
  obtain ⟨-, hx0, hx1, hy0, hy1, -⟩ := h
  obtain ⟨-, -, hqx, hqy0, hqy1, -⟩ := hr1
  simp only at hx0 hx1 hy0 hy1 hl1 hsd HP hqx hqy0 hqy1
  have hwd : wd' r = wd r := rfl
  rw [hwd] at hfit hcl
  generalize hn : wd r = n at *
  have hn2 : 1 ≤ n ∧ n ≤ 2 := by omega
  have HU := Lib.hid (show adv ⟨gw, gh, l, x, y, false⟩ r = ⟨gw, gh, putL gw l x y r, x + n, y, false⟩ by unfold adv; simp only; rw [hwd, if_neg (by simpa using he)])
  rw [HU.out]
  have HN := Lib.hid hn
  clear hn hcl hwd hv hro hs
  have d1 : decide (gw < x + n) = false := by rw [decide_eq_false_iff_not]; omega
  have d2 : (x + n == gw) = false := by rw [beq_eq_false_iff_ne]; omega
  have HE := Lib.hid he
  clear he
  go_enter Tryz.func17, Tryz.ntmps17
  go_wp2_with fail
  refine (rwidth_any r _).mono ?_
  rintro e w1 ⟨rfl, hw1⟩
  rw [HN.out]
  have HB1 := Lib.hid (hb0.trans (hw1.mono hb0.size))
  have g0 := carry hw1 G0.out
  have g2 := carry hw1 G2.out
  have hz1 : W.heap.size + 1 + 1 ≤ w1.heap.size := by have := hw1.size; rw [hz3] at this; exact this
  have HV1 := Lib.hid (HV.out.below hw1)
  clear hw1 hb0 hz3
  have K0 := Lib.hid g0
  have K2 := Lib.hid g2
  obtain ⟨⟨c0, c1, c2, c3, c4, c5⟩, ⟨f0, f1, f2, f3, f4, f5⟩, z0⟩ := blk6 g0
  clear g0 g2
  go_wp2_with fail
  refine (grput_any gw gh x y r _ l _ (HV1.out).rw (by unfold maxLen; omega)).mono ?_
  rintro e w3 ⟨ho, hw3⟩
  obtain ⟨v', rfl, hown⟩ := ho.is HP.out
  obtain ⟨g, cap', rfl, hcap', hrow⟩ := hown
  have HB3 := Lib.hid ((HB1.out).trans (hw3.mono (HB1.out).size))
  have HO := Lib.hid ((Own.sh rfl hcap' hrow).mono (B' := W.heap.size + 1 + 1) (by omega))
  have g0 := carry hw3 K0.out
  have g2 := carry hw3 K2.out
  clear hrow c0 c1 c2 c3 c4 c5 f0 f1 f2 f3 f4 f5 z0 ho hw3
  obtain ⟨⟨c0, c1, c2, c3, c4, c5⟩, ⟨f0, f1, f2, f3, f4, f5⟩, z0⟩ := blk6 g0
  obtain ⟨⟨k0, k1, k2, k3, k4, k5⟩, ⟨e0, e1, e2, e3, e4, e5⟩, z2⟩ := blk6 g2
  have Q0 := Lib.hid g0
  have Q2 := Lib.hid g2
  clear g0 g2
  generalize hN : (putL gw l x y r).length = N at *
  go_upto_region 10 with fail
  obtain ⟨w4, hw4⟩ : ∃ w4, w4 = (((((w3.setCell ⟨W.heap.size, 0, none⟩ (.int .i64 gw)).setCell ⟨W.heap.size, 1, none⟩ (.int .i64 gh)).setCell ⟨W.heap.size, 2, none⟩ (.slice (some ⟨g, 0, none⟩) N cap')).setCell ⟨W.heap.size, 3, none⟩ (.int .i64 (x + n))).setCell ⟨W.heap.size, 5, none⟩ (.bool false)) := ⟨_, rfl⟩
  rw [← hw4]
  have q0 : w4.heap[W.heap.size]? = some (.cells #[.int .i64 gw, .int .i64 gh, .slice (some ⟨g, 0, none⟩) N cap', .int .i64 (x + n), .int .i64 y, .bool false] 26 (0, 0)) := by rw [hw4]; exact set5 Q0.out _ _ _ _ _
  have q2 : w4.heap[W.heap.size + 1]? = some (.cells #[.int .i64 0, .int .i64 0, .slice none 0 0, .int .i64 0, .int .i64 0, .bool false] 26 (0, 0)) := by rw [hw4]; exact other5 Q2.out (by omega) _ _ _ _ _
  have HO4 : Own (W.heap.size + 1 + 1) w4 (.slice (some ⟨g, 0, none⟩) N cap') (putL gw l x y r) := by
    rw [hw4]
    have HO' := HO.out
    repeat (first | (with_reducible exact HO') | refine Own.set1 ?_ _ _ _ (by omega))
  have HB4 : Below W.heap.size W w4 := by
    rw [hw4]
    repeat (first | (with_reducible exact HB3.out) | refine Below.setCell ?_ (by simp) _)
  have HO5 := Lib.hid HO4
  have HB5 := Lib.hid HB4
  clear hw4 HO4 HB4 c0 c1 c2 c3 c4 c5 f0 f1 f2 f3 f4 f5 k0 k1 k2 k3 k4 k5 e0 e1 e2 e3 e4 e5 z0 z2
  obtain ⟨⟨c0, c1, c2, c3, c4, c5⟩, ⟨f0, f1, f2, f3, f4, f5⟩, z0⟩ := blk6 q0
  obtain ⟨⟨k0, k1, k2, k3, k4, k5⟩, ⟨e0, e1, e2, e3, e4, e5⟩, z2⟩ := blk6 q2
  clear q0 q2
  go_wp2
  refine bodyPost_ret (v := .agg #[.int .i64 gw, .int .i64 gh, .slice (some ⟨g, 0, none⟩) N cap', .int .i64 (x + n), .int .i64 y, .bool false]) (by simp [results, Tryz.results17, go_sem, *]) rfl ⟨TO.of (rfl) rfl ?_, ?_⟩
  · refine .inr (Own.mono (B := W.heap.size + 1 + 1) ?_ (by omega))
    have HO' := HO5.out
    repeat (first | (with_reducible exact HO') | refine Own.set1 ?_ _ _ _ (by omega))
  · repeat (first | (with_reducible exact HB5.out) | refine Below.setCell ?_ (by simp) _)
set_option maxHeartbeats 8000000 in
theorem rtext_on_end (gw gh x y r : Int) (l : List (Int × Int)) (h : rt ⟨gw, gh, l, x, y, false⟩) (hs : shw r = true) (hkw : x + wd r ≤ gw) (he : x + wd r = gw) (A : Option Addr) (cap : Nat) (W : World) (hv : Rc W (.slice A l.length cap) l) :
    Calls Tryz.prog 17 #[.agg #[.int .i64 gw, .int .i64 gh, .slice A l.length cap, .int .i64 x, .int .i64 y, .bool false], .int .i32 r] W fun e w' => TO W.heap.size (.slice A l.length cap) l w' e (tx ⟨gw, gh, l, x, y, false⟩ r) ∧ Below W.heap.size W w' := by
  have hb0 : Below W.heap.size W ((W.alloc (.cells #[.int .i64 gw, .int .i64 gh, .slice A l.length cap, .int .i64 x, .int .i64 y, .bool false] 26)).alloc (.cells #[.int .i64 0, .int .i64 0, .slice none 0 0, .int .i64 0, .int .i64 0, .bool false] 26)) := ((Below.refl _ _).alloc (Nat.le_refl _) _).alloc (by simp) _
  have HV := Lib.hid (hv.below hb0)
  have HV0 := Lib.hid hv
  have hz3 : ((W.alloc (.cells #[.int .i64 gw, .int .i64 gh, .slice A l.length cap, .int .i64 x, .int .i64 y, .bool false] 26)).alloc (.cells #[.int .i64 0, .int .i64 0, .slice none 0 0, .int .i64 0, .int .i64 0, .bool false] 26)).heap.size = W.heap.size + 1 + 1 := by simp
  have G0 := Lib.hid (carryA (.cells #[.int .i64 0, .int .i64 0, .slice none 0 0, .int .i64 0, .int .i64 0, .bool false] 26) (heap_alloc_new W (.cells #[.int .i64 gw, .int .i64 gh, .slice A l.length cap, .int .i64 x, .int .i64 y, .bool false] 26)))
  have G2 := Lib.hid (heap_alloc_new (W.alloc (.cells #[.int .i64 gw, .int .i64 gh, .slice A l.length cap, .int .i64 x, .int .i64 y, .bool false] 26)) (.cells #[.int .i64 0, .int .i64 0, .slice none 0 0, .int .i64 0, .int .i64 0, .bool false] 26))
  rw [show (W.alloc (.cells #[.int .i64 gw, .int .i64 gh, .slice A l.length cap, .int .i64 x, .int .i64 y, .bool false] 26)).heap.size = W.heap.size + 1 by simp] at G2
  have hcl := cl_w hs
  have hrw := rowed_rt (r := r) h hs
  unfold tx
  have hro : rowed ⟨gw, gh, l, x, y, false⟩ r = ⟨gw, gh, l, x, y, false⟩ := by unfold rowed; rw [if_neg (by rintro (h | h); cases h; simp only [wd'] at h; unfold wd at hkw; omega)]
  rw [hro] at hrw ⊢
  simp only at hrw ⊢
  obtain ⟨hr1, hfit, -, -⟩ := hrw
  have HP := Lib.hid (put_may hr1 hs hfit)
  have hl1 := right_len hr1.1
  have hsd := hr1.1.1
  have hR0 := Lib.hid h.1
  obtain ⟨-, hx0, hx1, hy0, hy1, -⟩ := h
  obtain ⟨-, -, hqx, hqy0, hqy1, -⟩ := hr1
  simp only at hx0 hx1 hy0 hy1 hl1 hsd HP hqx hqy0 hqy1
  have hwd : wd' r = wd r := rfl
  rw [hwd] at hfit hcl
  generalize hn : wd r = n at *
  have hn2 : 1 ≤ n ∧ n ≤ 2 := by omega
  have HU := Lib.hid (show adv ⟨gw, gh, l, x, y, false⟩ r = ⟨gw, gh, putL gw l x y r, gw - 1, y, true⟩ by unfold adv; simp only; rw [hwd, if_pos (by simpa using he)])
  rw [HU.out]
  have HN := Lib.hid hn
  clear hn hcl hwd hv hro hs
  have d1 : decide (gw < x + n) = false := by rw [decide_eq_false_iff_not]; omega
  have d2 : (x + n == gw) = true := by rw [beq_iff_eq]; omega
  have HE := Lib.hid he
  clear he
  go_enter Tryz.func17, Tryz.ntmps17
  go_wp2_with fail
  refine (rwidth_any r _).mono ?_
  rintro e w1 ⟨rfl, hw1⟩
  rw [HN.out]
  have HB1 := Lib.hid (hb0.trans (hw1.mono hb0.size))
  have g0 := carry hw1 G0.out
  have g2 := carry hw1 G2.out
  have hz1 : W.heap.size + 1 + 1 ≤ w1.heap.size := by have := hw1.size; rw [hz3] at this; exact this
  have HV1 := Lib.hid (HV.out.below hw1)
  clear hw1 hb0 hz3
  have K0 := Lib.hid g0
  have K2 := Lib.hid g2
  obtain ⟨⟨c0, c1, c2, c3, c4, c5⟩, ⟨f0, f1, f2, f3, f4, f5⟩, z0⟩ := blk6 g0
  clear g0 g2
  go_wp2_with fail
  refine (grput_any gw gh x y r _ l _ (HV1.out).rw (by unfold maxLen; omega)).mono ?_
  rintro e w3 ⟨ho, hw3⟩
  obtain ⟨v', rfl, hown⟩ := ho.is HP.out
  obtain ⟨g, cap', rfl, hcap', hrow⟩ := hown
  have HB3 := Lib.hid ((HB1.out).trans (hw3.mono (HB1.out).size))
  have HO := Lib.hid ((Own.sh rfl hcap' hrow).mono (B' := W.heap.size + 1 + 1) (by omega))
  have g0 := carry hw3 K0.out
  have g2 := carry hw3 K2.out
  clear hrow c0 c1 c2 c3 c4 c5 f0 f1 f2 f3 f4 f5 z0 ho hw3
  obtain ⟨⟨c0, c1, c2, c3, c4, c5⟩, ⟨f0, f1, f2, f3, f4, f5⟩, z0⟩ := blk6 g0
  obtain ⟨⟨k0, k1, k2, k3, k4, k5⟩, ⟨e0, e1, e2, e3, e4, e5⟩, z2⟩ := blk6 g2
  have Q0 := Lib.hid g0
  have Q2 := Lib.hid g2
  clear g0 g2
  generalize hN : (putL gw l x y r).length = N at *
  go_upto_region 10 with fail
  obtain ⟨w4, hw4⟩ : ∃ w4, w4 = ((((((w3.setCell ⟨W.heap.size, 0, none⟩ (.int .i64 gw)).setCell ⟨W.heap.size, 1, none⟩ (.int .i64 gh)).setCell ⟨W.heap.size, 2, none⟩ (.slice (some ⟨g, 0, none⟩) N cap')).setCell ⟨W.heap.size, 3, none⟩ (.int .i64 (x + n))).setCell ⟨W.heap.size, 5, none⟩ (.bool true)).setCell ⟨W.heap.size, 3, none⟩ (.int .i64 (gw - 1))) := ⟨_, rfl⟩
  rw [← hw4]
  have q0 : w4.heap[W.heap.size]? = some (.cells #[.int .i64 gw, .int .i64 gh, .slice (some ⟨g, 0, none⟩) N cap', .int .i64 (gw - 1), .int .i64 y, .bool true] 26 (0, 0)) := by rw [hw4]; exact heap_setCell_same _ _ 3 _ _ _ (set5 Q0.out _ _ _ _ _)
  have q2 : w4.heap[W.heap.size + 1]? = some (.cells #[.int .i64 0, .int .i64 0, .slice none 0 0, .int .i64 0, .int .i64 0, .bool false] 26 (0, 0)) := by rw [hw4]; exact (heap_setCell_other _ _ _ _ (by simp)).trans (other5 Q2.out (by omega) _ _ _ _ _)
  have HO4 : Own (W.heap.size + 1 + 1) w4 (.slice (some ⟨g, 0, none⟩) N cap') (putL gw l x y r) := by
    rw [hw4]
    have HO' := HO.out
    repeat (first | (with_reducible exact HO') | refine Own.set1 ?_ _ _ _ (by omega))
  have HB4 : Below W.heap.size W w4 := by
    rw [hw4]
    repeat (first | (with_reducible exact HB3.out) | refine Below.setCell ?_ (by simp) _)
  have HO5 := Lib.hid HO4
  have HB5 := Lib.hid HB4
  clear hw4 HO4 HB4 c0 c1 c2 c3 c4 c5 f0 f1 f2 f3 f4 f5 k0 k1 k2 k3 k4 k5 e0 e1 e2 e3 e4 e5 z0 z2
  obtain ⟨⟨c0, c1, c2, c3, c4, c5⟩, ⟨f0, f1, f2, f3, f4, f5⟩, z0⟩ := blk6 q0
  obtain ⟨⟨k0, k1, k2, k3, k4, k5⟩, ⟨e0, e1, e2, e3, e4, e5⟩, z2⟩ := blk6 q2
  clear q0 q2
  go_wp2
  refine bodyPost_ret (v := .agg #[.int .i64 gw, .int .i64 gh, .slice (some ⟨g, 0, none⟩) N cap', .int .i64 (gw - 1), .int .i64 y, .bool true]) (by simp [results, Tryz.results17, go_sem, *]) rfl ⟨TO.of (rfl) rfl ?_, ?_⟩
  · refine .inr (Own.mono (B := W.heap.size + 1 + 1) ?_ (by omega))
    have HO' := HO5.out
    repeat (first | (with_reducible exact HO') | refine Own.set1 ?_ _ _ _ (by omega))
  · repeat (first | (with_reducible exact HB5.out) | refine Below.setCell ?_ (by simp) _)
set_option maxHeartbeats 8000000 in
theorem rtext_row_no (gw gh x y r : Int) (l : List (Int × Int)) (h : rt ⟨gw, gh, l, x, y, false⟩) (hs : shw r = true) (hkw : gw < x + wd r) (he : 0 + wd r ≠ gw) (A : Option Addr) (cap : Nat) (W : World) (hv : Rc W (.slice A l.length cap) l) :
    Calls Tryz.prog 17 #[.agg #[.int .i64 gw, .int .i64 gh, .slice A l.length cap, .int .i64 x, .int .i64 y, .bool false], .int .i32 r] W fun e w' => TO W.heap.size (.slice A l.length cap) l w' e (tx ⟨gw, gh, l, x, y, false⟩ r) ∧ Below W.heap.size W w' := by
  have hb0 : Below W.heap.size W ((W.alloc (.cells #[.int .i64 gw, .int .i64 gh, .slice A l.length cap, .int .i64 x, .int .i64 y, .bool false] 26)).alloc (.cells #[.int .i64 0, .int .i64 0, .slice none 0 0, .int .i64 0, .int .i64 0, .bool false] 26)) := ((Below.refl _ _).alloc (Nat.le_refl _) _).alloc (by simp) _
  have HV := Lib.hid (hv.below hb0)
  have HV0 := Lib.hid hv
  have hz3 : ((W.alloc (.cells #[.int .i64 gw, .int .i64 gh, .slice A l.length cap, .int .i64 x, .int .i64 y, .bool false] 26)).alloc (.cells #[.int .i64 0, .int .i64 0, .slice none 0 0, .int .i64 0, .int .i64 0, .bool false] 26)).heap.size = W.heap.size + 1 + 1 := by simp
  have G0 := Lib.hid (carryA (.cells #[.int .i64 0, .int .i64 0, .slice none 0 0, .int .i64 0, .int .i64 0, .bool false] 26) (heap_alloc_new W (.cells #[.int .i64 gw, .int .i64 gh, .slice A l.length cap, .int .i64 x, .int .i64 y, .bool false] 26)))
  have G2 := Lib.hid (heap_alloc_new (W.alloc (.cells #[.int .i64 gw, .int .i64 gh, .slice A l.length cap, .int .i64 x, .int .i64 y, .bool false] 26)) (.cells #[.int .i64 0, .int .i64 0, .slice none 0 0, .int .i64 0, .int .i64 0, .bool false] 26))
  rw [show (W.alloc (.cells #[.int .i64 gw, .int .i64 gh, .slice A l.length cap, .int .i64 x, .int .i64 y, .bool false] 26)).heap.size = W.heap.size + 1 by simp] at G2
  have hcl := cl_w hs
  have hrw := rowed_rt (r := r) h hs
  unfold tx
  have hro : rowed ⟨gw, gh, l, x, y, false⟩ r = { dn ⟨gw, gh, l, x, y, false⟩ with x := 0 } := by unfold rowed; rw [if_pos (.inr hkw)]
  rw [hro] at hrw ⊢
  obtain ⟨l1, y1, hdn⟩ := dn_form gw gh x y l false
  rw [hdn] at hrw ⊢
  have HDN := Lib.hid hdn
  simp only at hrw ⊢
  obtain ⟨hr1, hfit, -, -⟩ := hrw
  have HP := Lib.hid (put_may hr1 hs hfit)
  have hl1 := right_len hr1.1
  have hsd := hr1.1.1
  have hR0 := Lib.hid h.1
  obtain ⟨-, hx0, hx1, hy0, hy1, -⟩ := h
  obtain ⟨-, -, hqx, hqy0, hqy1, -⟩ := hr1
  simp only at hx0 hx1 hy0 hy1 hl1 hsd HP hqx hqy0 hqy1
  have hwd : wd' r = wd r := rfl
  rw [hwd] at hfit hcl
  generalize hn : wd r = n at *
  have hn2 : 1 ≤ n ∧ n ≤ 2 := by omega
  have HU := Lib.hid (show adv ⟨gw, gh, l1, 0, y1, false⟩ r = ⟨gw, gh, putL gw l1 0 y1 r, 0 + n, y1, false⟩ by unfold adv; simp only; rw [hwd, if_neg (by simpa using he)])
  rw [HU.out]
  have HN := Lib.hid hn
  clear hn hcl hwd hv hro hdn hs
  have d1 : decide (gw < x + n) = true := by rw [decide_eq_true_iff]; omega
  have d2 : (n == gw) = false := by rw [beq_eq_false_iff_ne]; omega
  have HE := Lib.hid he
  clear he
  go_enter Tryz.func17, Tryz.ntmps17
  go_wp2_with fail
  refine (rwidth_any r _).mono ?_
  rintro e w1 ⟨rfl, hw1⟩
  rw [HN.out]
  have HB1 := Lib.hid (hb0.trans (hw1.mono hb0.size))
  have g0 := carry hw1 G0.out
  have g2 := carry hw1 G2.out
  have hz1 : W.heap.size + 1 + 1 ≤ w1.heap.size := by have := hw1.size; rw [hz3] at this; exact this
  have HV1 := Lib.hid (HV.out.below hw1)
  clear hw1 hb0 hz3
  have K0 := Lib.hid g0
  have K2 := Lib.hid g2
  obtain ⟨⟨c0, c1, c2, c3, c4, c5⟩, ⟨f0, f1, f2, f3, f4, f5⟩, z0⟩ := blk6 g0
  clear g0 g2
  go_wp2_with fail
  refine (rdown_any gw gh x y false l hR0.out ⟨hy0, hy1⟩ A cap _ HV1.out).mono ?_
  rintro e w2 ⟨ho, hw2⟩
  rw [HDN.out] at ho
  have hz2 : W.heap.size + 1 + 1 ≤ w2.heap.size := by have := hw2.size; omega
  have HB2 := HB1.out.trans (hw2.mono HB1.out.size)
  obtain ⟨A1, cap1, rfl, hk⟩ := ho.op (HV0.out.below HB2)
  have g0 := carry hw2 K0.out
  have g2 := carry hw2 K2.out
  have L0 := Lib.hid g0
  have L2 := Lib.hid g2
  have hk' := hk.mono (B' := W.heap.size + 1 + 1) (by omega)
  have HK := Lib.hid hk'
  have HB2 := Lib.hid HB2
  clear c0 c1 c2 c3 c4 c5 f0 f1 f2 f3 f4 f5 z0 ho hw2 hk hk'
  obtain ⟨⟨c0, c1, c2, c3, c4, c5⟩, ⟨f0, f1, f2, f3, f4, f5⟩, z0⟩ := blk6 g0
  clear g0 g2
  go_upto_region 5 with fail
  obtain ⟨w5, hw5⟩ : ∃ w5, w5 = (((((((w2.setCell ⟨W.heap.size, 0, none⟩ (.int .i64 gw)).setCell ⟨W.heap.size, 1, none⟩ (.int .i64 gh)).setCell ⟨W.heap.size, 2, none⟩ (.slice A1 l1.length cap1)).setCell ⟨W.heap.size, 3, none⟩ (.int .i64 x)).setCell ⟨W.heap.size, 4, none⟩ (.int .i64 y1)).setCell ⟨W.heap.size, 5, none⟩ (.bool false)).setCell ⟨W.heap.size, 3, none⟩ (.int .i64 0)) := ⟨_, rfl⟩
  rw [← hw5]
  have g0 : w5.heap[W.heap.size]? = some (.cells #[.int .i64 gw, .int .i64 gh, .slice A1 l1.length cap1, .int .i64 0, .int .i64 y1, .bool false] 26 (0, 0)) := by rw [hw5]; exact heap_setCell_same _ _ 3 _ _ _ (set6 L0.out _ _ _ _ _ _)
  have g2 : w5.heap[W.heap.size + 1]? = some (.cells #[.int .i64 0, .int .i64 0, .slice none 0 0, .int .i64 0, .int .i64 0, .bool false] 26 (0, 0)) := by rw [hw5]; exact (heap_setCell_other _ _ _ _ (by simp)).trans (other6 L2.out (by omega) _ _ _ _ _ _)
  have hk5 : Kp (W.heap.size + 1 + 1) (.slice A l.length cap) l w5 (.slice A1 l1.length cap1) l1 := by
    rw [hw5]
    have HO' := HK.out
    repeat (first | (with_reducible exact HO') | refine Kp.set1 ?_ _ _ _ (by omega))
  have hb5 : Below W.heap.size W w5 := by
    rw [hw5]
    repeat (first | (with_reducible exact HB2.out) | refine Below.setCell ?_ (by simp) _)
  have hz5 : W.heap.size + 1 + 1 ≤ w5.heap.size := by rw [hw5]; simp; omega
  have HRC := Lib.hid (hk5.rc (HV0.out.below hb5))
  have HBB := Lib.hid hb5
  have K0 := Lib.hid g0
  have K2 := Lib.hid g2
  clear hw5 hk5 hb5 c0 c1 c2 c3 c4 c5 f0 f1 f2 f3 f4 f5 z0
  obtain ⟨⟨c0, c1, c2, c3, c4, c5⟩, ⟨f0, f1, f2, f3, f4, f5⟩, z0⟩ := blk6 g0
  clear g0 g2
  go_wp2_with fail
  refine (grput_any gw gh 0 y1 r _ l1 _ (HRC.out).rw (by unfold maxLen; omega)).mono ?_
  rintro e w3 ⟨ho, hw3⟩
  obtain ⟨v', rfl, hown⟩ := ho.is HP.out
  obtain ⟨g, cap', rfl, hcap', hrow⟩ := hown
  have HB3 := Lib.hid ((HBB.out).trans (hw3.mono (HBB.out).size))
  have HO := Lib.hid ((Own.sh rfl hcap' hrow).mono (B' := W.heap.size + 1 + 1) (by omega))
  have g0 := carry hw3 K0.out
  have g2 := carry hw3 K2.out
  clear hrow c0 c1 c2 c3 c4 c5 f0 f1 f2 f3 f4 f5 z0 ho hw3
  obtain ⟨⟨c0, c1, c2, c3, c4, c5⟩, ⟨f0, f1, f2, f3, f4, f5⟩, z0⟩ := blk6 g0
  obtain ⟨⟨k0, k1, k2, k3, k4, k5⟩, ⟨e0, e1, e2, e3, e4, e5⟩, z2⟩ := blk6 g2
  have Q0 := Lib.hid g0
  have Q2 := Lib.hid g2
  clear g0 g2
  generalize hN : (putL gw l1 0 y1 r).length = N at *
  go_upto_region 10 with fail
  obtain ⟨w4, hw4⟩ : ∃ w4, w4 = (((((w3.setCell ⟨W.heap.size, 0, none⟩ (.int .i64 gw)).setCell ⟨W.heap.size, 1, none⟩ (.int .i64 gh)).setCell ⟨W.heap.size, 2, none⟩ (.slice (some ⟨g, 0, none⟩) N cap')).setCell ⟨W.heap.size, 3, none⟩ (.int .i64 (n))).setCell ⟨W.heap.size, 5, none⟩ (.bool false)) := ⟨_, rfl⟩
  rw [← hw4]
  have q0 : w4.heap[W.heap.size]? = some (.cells #[.int .i64 gw, .int .i64 gh, .slice (some ⟨g, 0, none⟩) N cap', .int .i64 (n), .int .i64 y1, .bool false] 26 (0, 0)) := by rw [hw4]; exact set5 Q0.out _ _ _ _ _
  have q2 : w4.heap[W.heap.size + 1]? = some (.cells #[.int .i64 0, .int .i64 0, .slice none 0 0, .int .i64 0, .int .i64 0, .bool false] 26 (0, 0)) := by rw [hw4]; exact other5 Q2.out (by omega) _ _ _ _ _
  have HO4 : Own (W.heap.size + 1 + 1) w4 (.slice (some ⟨g, 0, none⟩) N cap') (putL gw l1 0 y1 r) := by
    rw [hw4]
    have HO' := HO.out
    repeat (first | (with_reducible exact HO') | refine Own.set1 ?_ _ _ _ (by omega))
  have HB4 : Below W.heap.size W w4 := by
    rw [hw4]
    repeat (first | (with_reducible exact HB3.out) | refine Below.setCell ?_ (by simp) _)
  have HO5 := Lib.hid HO4
  have HB5 := Lib.hid HB4
  clear hw4 HO4 HB4 c0 c1 c2 c3 c4 c5 f0 f1 f2 f3 f4 f5 k0 k1 k2 k3 k4 k5 e0 e1 e2 e3 e4 e5 z0 z2
  obtain ⟨⟨c0, c1, c2, c3, c4, c5⟩, ⟨f0, f1, f2, f3, f4, f5⟩, z0⟩ := blk6 q0
  obtain ⟨⟨k0, k1, k2, k3, k4, k5⟩, ⟨e0, e1, e2, e3, e4, e5⟩, z2⟩ := blk6 q2
  clear q0 q2
  go_wp2
  refine bodyPost_ret (v := .agg #[.int .i64 gw, .int .i64 gh, .slice (some ⟨g, 0, none⟩) N cap', .int .i64 (n), .int .i64 y1, .bool false]) (by simp [results, Tryz.results17, go_sem, *]) rfl ⟨TO.of (by rw [Int.zero_add]) rfl ?_, ?_⟩
  · refine .inr (Own.mono (B := W.heap.size + 1 + 1) ?_ (by omega))
    have HO' := HO5.out
    repeat (first | (with_reducible exact HO') | refine Own.set1 ?_ _ _ _ (by omega))
  · repeat (first | (with_reducible exact HB5.out) | refine Below.setCell ?_ (by simp) _)
set_option maxHeartbeats 8000000 in
theorem rtext_row_end (gw gh x y r : Int) (l : List (Int × Int)) (h : rt ⟨gw, gh, l, x, y, false⟩) (hs : shw r = true) (hkw : gw < x + wd r) (he : 0 + wd r = gw) (A : Option Addr) (cap : Nat) (W : World) (hv : Rc W (.slice A l.length cap) l) :
    Calls Tryz.prog 17 #[.agg #[.int .i64 gw, .int .i64 gh, .slice A l.length cap, .int .i64 x, .int .i64 y, .bool false], .int .i32 r] W fun e w' => TO W.heap.size (.slice A l.length cap) l w' e (tx ⟨gw, gh, l, x, y, false⟩ r) ∧ Below W.heap.size W w' := by
  have hb0 : Below W.heap.size W ((W.alloc (.cells #[.int .i64 gw, .int .i64 gh, .slice A l.length cap, .int .i64 x, .int .i64 y, .bool false] 26)).alloc (.cells #[.int .i64 0, .int .i64 0, .slice none 0 0, .int .i64 0, .int .i64 0, .bool false] 26)) := ((Below.refl _ _).alloc (Nat.le_refl _) _).alloc (by simp) _
  have HV := Lib.hid (hv.below hb0)
  have HV0 := Lib.hid hv
  have hz3 : ((W.alloc (.cells #[.int .i64 gw, .int .i64 gh, .slice A l.length cap, .int .i64 x, .int .i64 y, .bool false] 26)).alloc (.cells #[.int .i64 0, .int .i64 0, .slice none 0 0, .int .i64 0, .int .i64 0, .bool false] 26)).heap.size = W.heap.size + 1 + 1 := by simp
  have G0 := Lib.hid (carryA (.cells #[.int .i64 0, .int .i64 0, .slice none 0 0, .int .i64 0, .int .i64 0, .bool false] 26) (heap_alloc_new W (.cells #[.int .i64 gw, .int .i64 gh, .slice A l.length cap, .int .i64 x, .int .i64 y, .bool false] 26)))
  have G2 := Lib.hid (heap_alloc_new (W.alloc (.cells #[.int .i64 gw, .int .i64 gh, .slice A l.length cap, .int .i64 x, .int .i64 y, .bool false] 26)) (.cells #[.int .i64 0, .int .i64 0, .slice none 0 0, .int .i64 0, .int .i64 0, .bool false] 26))
  rw [show (W.alloc (.cells #[.int .i64 gw, .int .i64 gh, .slice A l.length cap, .int .i64 x, .int .i64 y, .bool false] 26)).heap.size = W.heap.size + 1 by simp] at G2
  have hcl := cl_w hs
  have hrw := rowed_rt (r := r) h hs
  unfold tx
  have hro : rowed ⟨gw, gh, l, x, y, false⟩ r = { dn ⟨gw, gh, l, x, y, false⟩ with x := 0 } := by unfold rowed; rw [if_pos (.inr hkw)]
  rw [hro] at hrw ⊢
  obtain ⟨l1, y1, hdn⟩ := dn_form gw gh x y l false
  rw [hdn] at hrw ⊢
  have HDN := Lib.hid hdn
  simp only at hrw ⊢
  obtain ⟨hr1, hfit, -, -⟩ := hrw
  have HP := Lib.hid (put_may hr1 hs hfit)
  have hl1 := right_len hr1.1
  have hsd := hr1.1.1
  have hR0 := Lib.hid h.1
  obtain ⟨-, hx0, hx1, hy0, hy1, -⟩ := h
  obtain ⟨-, -, hqx, hqy0, hqy1, -⟩ := hr1
  simp only at hx0 hx1 hy0 hy1 hl1 hsd HP hqx hqy0 hqy1
  have hwd : wd' r = wd r := rfl
  rw [hwd] at hfit hcl
  generalize hn : wd r = n at *
  have hn2 : 1 ≤ n ∧ n ≤ 2 := by omega
  have HU := Lib.hid (show adv ⟨gw, gh, l1, 0, y1, false⟩ r = ⟨gw, gh, putL gw l1 0 y1 r, gw - 1, y1, true⟩ by unfold adv; simp only; rw [hwd, if_pos (by simpa using he)])
  rw [HU.out]
  have HN := Lib.hid hn
  clear hn hcl hwd hv hro hdn hs
  have d1 : decide (gw < x + n) = true := by rw [decide_eq_true_iff]; omega
  have d2 : (n == gw) = true := by rw [beq_iff_eq]; omega
  have HE := Lib.hid he
  clear he
  go_enter Tryz.func17, Tryz.ntmps17
  go_wp2_with fail
  refine (rwidth_any r _).mono ?_
  rintro e w1 ⟨rfl, hw1⟩
  rw [HN.out]
  have HB1 := Lib.hid (hb0.trans (hw1.mono hb0.size))
  have g0 := carry hw1 G0.out
  have g2 := carry hw1 G2.out
  have hz1 : W.heap.size + 1 + 1 ≤ w1.heap.size := by have := hw1.size; rw [hz3] at this; exact this
  have HV1 := Lib.hid (HV.out.below hw1)
  clear hw1 hb0 hz3
  have K0 := Lib.hid g0
  have K2 := Lib.hid g2
  obtain ⟨⟨c0, c1, c2, c3, c4, c5⟩, ⟨f0, f1, f2, f3, f4, f5⟩, z0⟩ := blk6 g0
  clear g0 g2
  go_wp2_with fail
  refine (rdown_any gw gh x y false l hR0.out ⟨hy0, hy1⟩ A cap _ HV1.out).mono ?_
  rintro e w2 ⟨ho, hw2⟩
  rw [HDN.out] at ho
  have hz2 : W.heap.size + 1 + 1 ≤ w2.heap.size := by have := hw2.size; omega
  have HB2 := HB1.out.trans (hw2.mono HB1.out.size)
  obtain ⟨A1, cap1, rfl, hk⟩ := ho.op (HV0.out.below HB2)
  have g0 := carry hw2 K0.out
  have g2 := carry hw2 K2.out
  have L0 := Lib.hid g0
  have L2 := Lib.hid g2
  have hk' := hk.mono (B' := W.heap.size + 1 + 1) (by omega)
  have HK := Lib.hid hk'
  have HB2 := Lib.hid HB2
  clear c0 c1 c2 c3 c4 c5 f0 f1 f2 f3 f4 f5 z0 ho hw2 hk hk'
  obtain ⟨⟨c0, c1, c2, c3, c4, c5⟩, ⟨f0, f1, f2, f3, f4, f5⟩, z0⟩ := blk6 g0
  clear g0 g2
  go_upto_region 5 with fail
  obtain ⟨w5, hw5⟩ : ∃ w5, w5 = (((((((w2.setCell ⟨W.heap.size, 0, none⟩ (.int .i64 gw)).setCell ⟨W.heap.size, 1, none⟩ (.int .i64 gh)).setCell ⟨W.heap.size, 2, none⟩ (.slice A1 l1.length cap1)).setCell ⟨W.heap.size, 3, none⟩ (.int .i64 x)).setCell ⟨W.heap.size, 4, none⟩ (.int .i64 y1)).setCell ⟨W.heap.size, 5, none⟩ (.bool false)).setCell ⟨W.heap.size, 3, none⟩ (.int .i64 0)) := ⟨_, rfl⟩
  rw [← hw5]
  have g0 : w5.heap[W.heap.size]? = some (.cells #[.int .i64 gw, .int .i64 gh, .slice A1 l1.length cap1, .int .i64 0, .int .i64 y1, .bool false] 26 (0, 0)) := by rw [hw5]; exact heap_setCell_same _ _ 3 _ _ _ (set6 L0.out _ _ _ _ _ _)
  have g2 : w5.heap[W.heap.size + 1]? = some (.cells #[.int .i64 0, .int .i64 0, .slice none 0 0, .int .i64 0, .int .i64 0, .bool false] 26 (0, 0)) := by rw [hw5]; exact (heap_setCell_other _ _ _ _ (by simp)).trans (other6 L2.out (by omega) _ _ _ _ _ _)
  have hk5 : Kp (W.heap.size + 1 + 1) (.slice A l.length cap) l w5 (.slice A1 l1.length cap1) l1 := by
    rw [hw5]
    have HO' := HK.out
    repeat (first | (with_reducible exact HO') | refine Kp.set1 ?_ _ _ _ (by omega))
  have hb5 : Below W.heap.size W w5 := by
    rw [hw5]
    repeat (first | (with_reducible exact HB2.out) | refine Below.setCell ?_ (by simp) _)
  have hz5 : W.heap.size + 1 + 1 ≤ w5.heap.size := by rw [hw5]; simp; omega
  have HRC := Lib.hid (hk5.rc (HV0.out.below hb5))
  have HBB := Lib.hid hb5
  have K0 := Lib.hid g0
  have K2 := Lib.hid g2
  clear hw5 hk5 hb5 c0 c1 c2 c3 c4 c5 f0 f1 f2 f3 f4 f5 z0
  obtain ⟨⟨c0, c1, c2, c3, c4, c5⟩, ⟨f0, f1, f2, f3, f4, f5⟩, z0⟩ := blk6 g0
  clear g0 g2
  go_wp2_with fail
  refine (grput_any gw gh 0 y1 r _ l1 _ (HRC.out).rw (by unfold maxLen; omega)).mono ?_
  rintro e w3 ⟨ho, hw3⟩
  obtain ⟨v', rfl, hown⟩ := ho.is HP.out
  obtain ⟨g, cap', rfl, hcap', hrow⟩ := hown
  have HB3 := Lib.hid ((HBB.out).trans (hw3.mono (HBB.out).size))
  have HO := Lib.hid ((Own.sh rfl hcap' hrow).mono (B' := W.heap.size + 1 + 1) (by omega))
  have g0 := carry hw3 K0.out
  have g2 := carry hw3 K2.out
  clear hrow c0 c1 c2 c3 c4 c5 f0 f1 f2 f3 f4 f5 z0 ho hw3
  obtain ⟨⟨c0, c1, c2, c3, c4, c5⟩, ⟨f0, f1, f2, f3, f4, f5⟩, z0⟩ := blk6 g0
  obtain ⟨⟨k0, k1, k2, k3, k4, k5⟩, ⟨e0, e1, e2, e3, e4, e5⟩, z2⟩ := blk6 g2
  have Q0 := Lib.hid g0
  have Q2 := Lib.hid g2
  clear g0 g2
  generalize hN : (putL gw l1 0 y1 r).length = N at *
  go_upto_region 10 with fail
  obtain ⟨w4, hw4⟩ : ∃ w4, w4 = ((((((w3.setCell ⟨W.heap.size, 0, none⟩ (.int .i64 gw)).setCell ⟨W.heap.size, 1, none⟩ (.int .i64 gh)).setCell ⟨W.heap.size, 2, none⟩ (.slice (some ⟨g, 0, none⟩) N cap')).setCell ⟨W.heap.size, 3, none⟩ (.int .i64 (n))).setCell ⟨W.heap.size, 5, none⟩ (.bool true)).setCell ⟨W.heap.size, 3, none⟩ (.int .i64 (gw - 1))) := ⟨_, rfl⟩
  rw [← hw4]
  have q0 : w4.heap[W.heap.size]? = some (.cells #[.int .i64 gw, .int .i64 gh, .slice (some ⟨g, 0, none⟩) N cap', .int .i64 (gw - 1), .int .i64 y1, .bool true] 26 (0, 0)) := by rw [hw4]; exact heap_setCell_same _ _ 3 _ _ _ (set5 Q0.out _ _ _ _ _)
  have q2 : w4.heap[W.heap.size + 1]? = some (.cells #[.int .i64 0, .int .i64 0, .slice none 0 0, .int .i64 0, .int .i64 0, .bool false] 26 (0, 0)) := by rw [hw4]; exact (heap_setCell_other _ _ _ _ (by simp)).trans (other5 Q2.out (by omega) _ _ _ _ _)
  have HO4 : Own (W.heap.size + 1 + 1) w4 (.slice (some ⟨g, 0, none⟩) N cap') (putL gw l1 0 y1 r) := by
    rw [hw4]
    have HO' := HO.out
    repeat (first | (with_reducible exact HO') | refine Own.set1 ?_ _ _ _ (by omega))
  have HB4 : Below W.heap.size W w4 := by
    rw [hw4]
    repeat (first | (with_reducible exact HB3.out) | refine Below.setCell ?_ (by simp) _)
  have HO5 := Lib.hid HO4
  have HB5 := Lib.hid HB4
  clear hw4 HO4 HB4 c0 c1 c2 c3 c4 c5 f0 f1 f2 f3 f4 f5 k0 k1 k2 k3 k4 k5 e0 e1 e2 e3 e4 e5 z0 z2
  obtain ⟨⟨c0, c1, c2, c3, c4, c5⟩, ⟨f0, f1, f2, f3, f4, f5⟩, z0⟩ := blk6 q0
  obtain ⟨⟨k0, k1, k2, k3, k4, k5⟩, ⟨e0, e1, e2, e3, e4, e5⟩, z2⟩ := blk6 q2
  clear q0 q2
  go_wp2
  refine bodyPost_ret (v := .agg #[.int .i64 gw, .int .i64 gh, .slice (some ⟨g, 0, none⟩) N cap', .int .i64 (gw - 1), .int .i64 y1, .bool true]) (by simp [results, Tryz.results17, go_sem, *]) rfl ⟨TO.of (rfl) rfl ?_, ?_⟩
  · refine .inr (Own.mono (B := W.heap.size + 1 + 1) ?_ (by omega))
    have HO' := HO5.out
    repeat (first | (with_reducible exact HO') | refine Own.set1 ?_ _ _ _ (by omega))
  · repeat (first | (with_reducible exact HB5.out) | refine Below.setCell ?_ (by simp) _)
set_option maxHeartbeats 8000000 in
theorem rtext_wrap_no (gw gh x y r : Int) (l : List (Int × Int)) (h : rt ⟨gw, gh, l, x, y, true⟩) (hs : shw r = true) (hkw : gw < gw + 1) (he : 0 + wd r ≠ gw) (A : Option Addr) (cap : Nat) (W : World) (hv : Rc W (.slice A l.length cap) l) :
    Calls Tryz.prog 17 #[.agg #[.int .i64 gw, .int .i64 gh, .slice A l.length cap, .int .i64 x, .int .i64 y, .bool true], .int .i32 r] W fun e w' => TO W.heap.size (.slice A l.length cap) l w' e (tx ⟨gw, gh, l, x, y, true⟩ r) ∧ Below W.heap.size W w' := by
  have hb0 : Below W.heap.size W ((W.alloc (.cells #[.int .i64 gw, .int .i64 gh, .slice A l.length cap, .int .i64 x, .int .i64 y, .bool true] 26)).alloc (.cells #[.int .i64 0, .int .i64 0, .slice none 0 0, .int .i64 0, .int .i64 0, .bool false] 26)) := ((Below.refl _ _).alloc (Nat.le_refl _) _).alloc (by simp) _
  have HV := Lib.hid (hv.below hb0)
  have HV0 := Lib.hid hv
  have hz3 : ((W.alloc (.cells #[.int .i64 gw, .int .i64 gh, .slice A l.length cap, .int .i64 x, .int .i64 y, .bool true] 26)).alloc (.cells #[.int .i64 0, .int .i64 0, .slice none 0 0, .int .i64 0, .int .i64 0, .bool false] 26)).heap.size = W.heap.size + 1 + 1 := by simp
  have G0 := Lib.hid (carryA (.cells #[.int .i64 0, .int .i64 0, .slice none 0 0, .int .i64 0, .int .i64 0, .bool false] 26) (heap_alloc_new W (.cells #[.int .i64 gw, .int .i64 gh, .slice A l.length cap, .int .i64 x, .int .i64 y, .bool true] 26)))
  have G2 := Lib.hid (heap_alloc_new (W.alloc (.cells #[.int .i64 gw, .int .i64 gh, .slice A l.length cap, .int .i64 x, .int .i64 y, .bool true] 26)) (.cells #[.int .i64 0, .int .i64 0, .slice none 0 0, .int .i64 0, .int .i64 0, .bool false] 26))
  rw [show (W.alloc (.cells #[.int .i64 gw, .int .i64 gh, .slice A l.length cap, .int .i64 x, .int .i64 y, .bool true] 26)).heap.size = W.heap.size + 1 by simp] at G2
  have hcl := cl_w hs
  have hrw := rowed_rt (r := r) h hs
  unfold tx
  have hro : rowed ⟨gw, gh, l, x, y, true⟩ r = { dn ⟨gw, gh, l, x, y, true⟩ with x := 0 } := by unfold rowed; rw [if_pos (.inl rfl)]
  rw [hro] at hrw ⊢
  obtain ⟨l1, y1, hdn⟩ := dn_form gw gh x y l true
  rw [hdn] at hrw ⊢
  have HDN := Lib.hid hdn
  simp only at hrw ⊢
  obtain ⟨hr1, hfit, -, -⟩ := hrw
  have HP := Lib.hid (put_may hr1 hs hfit)
  have hl1 := right_len hr1.1
  have hsd := hr1.1.1
  have hR0 := Lib.hid h.1
  obtain ⟨-, hx0, hx1, hy0, hy1, -⟩ := h
  obtain ⟨-, -, hqx, hqy0, hqy1, -⟩ := hr1
  simp only at hx0 hx1 hy0 hy1 hl1 hsd HP hqx hqy0 hqy1
  have hwd : wd' r = wd r := rfl
  rw [hwd] at hfit hcl
  generalize hn : wd r = n at *
  have hn2 : 1 ≤ n ∧ n ≤ 2 := by omega
  have HU := Lib.hid (show adv ⟨gw, gh, l1, 0, y1, true⟩ r = ⟨gw, gh, putL gw l1 0 y1 r, 0 + n, y1, false⟩ by unfold adv; simp only; rw [hwd, if_neg (by simpa using he)])
  rw [HU.out]
  have HN := Lib.hid hn
  clear hn hcl hwd hv hro hdn hs
  have d2 : (n == gw) = false := by rw [beq_eq_false_iff_ne]; omega
  have HE := Lib.hid he
  clear he hkw
  go_enter Tryz.func17, Tryz.ntmps17
  go_wp2_with fail
  refine (rwidth_any r _).mono ?_
  rintro e w1 ⟨rfl, hw1⟩
  rw [HN.out]
  have HB1 := Lib.hid (hb0.trans (hw1.mono hb0.size))
  have g0 := carry hw1 G0.out
  have g2 := carry hw1 G2.out
  have hz1 : W.heap.size + 1 + 1 ≤ w1.heap.size := by have := hw1.size; rw [hz3] at this; exact this
  have HV1 := Lib.hid (HV.out.below hw1)
  clear hw1 hb0 hz3
  have K0 := Lib.hid g0
  have K2 := Lib.hid g2
  obtain ⟨⟨c0, c1, c2, c3, c4, c5⟩, ⟨f0, f1, f2, f3, f4, f5⟩, z0⟩ := blk6 g0
  clear g0 g2
  go_wp2_with fail
  refine (rdown_any gw gh x y true l hR0.out ⟨hy0, hy1⟩ A cap _ HV1.out).mono ?_
  rintro e w2 ⟨ho, hw2⟩
  rw [HDN.out] at ho
  have hz2 : W.heap.size + 1 + 1 ≤ w2.heap.size := by have := hw2.size; omega
  have HB2 := HB1.out.trans (hw2.mono HB1.out.size)
  obtain ⟨A1, cap1, rfl, hk⟩ := ho.op (HV0.out.below HB2)
  have g0 := carry hw2 K0.out
  have g2 := carry hw2 K2.out
  have L0 := Lib.hid g0
  have L2 := Lib.hid g2
  have hk' := hk.mono (B' := W.heap.size + 1 + 1) (by omega)
  have HK := Lib.hid hk'
  have HB2 := Lib.hid HB2
  clear c0 c1 c2 c3 c4 c5 f0 f1 f2 f3 f4 f5 z0 ho hw2 hk hk'
  obtain ⟨⟨c0, c1, c2, c3, c4, c5⟩, ⟨f0, f1, f2, f3, f4, f5⟩, z0⟩ := blk6 g0
  clear g0 g2
  go_upto_region 5 with fail
  obtain ⟨w5, hw5⟩ : ∃ w5, w5 = (((((((w2.setCell ⟨W.heap.size, 0, none⟩ (.int .i64 gw)).setCell ⟨W.heap.size, 1, none⟩ (.int .i64 gh)).setCell ⟨W.heap.size, 2, none⟩ (.slice A1 l1.length cap1)).setCell ⟨W.heap.size, 3, none⟩ (.int .i64 x)).setCell ⟨W.heap.size, 4, none⟩ (.int .i64 y1)).setCell ⟨W.heap.size, 5, none⟩ (.bool true)).setCell ⟨W.heap.size, 3, none⟩ (.int .i64 0)) := ⟨_, rfl⟩
  rw [← hw5]
  have g0 : w5.heap[W.heap.size]? = some (.cells #[.int .i64 gw, .int .i64 gh, .slice A1 l1.length cap1, .int .i64 0, .int .i64 y1, .bool true] 26 (0, 0)) := by rw [hw5]; exact heap_setCell_same _ _ 3 _ _ _ (set6 L0.out _ _ _ _ _ _)
  have g2 : w5.heap[W.heap.size + 1]? = some (.cells #[.int .i64 0, .int .i64 0, .slice none 0 0, .int .i64 0, .int .i64 0, .bool false] 26 (0, 0)) := by rw [hw5]; exact (heap_setCell_other _ _ _ _ (by simp)).trans (other6 L2.out (by omega) _ _ _ _ _ _)
  have hk5 : Kp (W.heap.size + 1 + 1) (.slice A l.length cap) l w5 (.slice A1 l1.length cap1) l1 := by
    rw [hw5]
    have HO' := HK.out
    repeat (first | (with_reducible exact HO') | refine Kp.set1 ?_ _ _ _ (by omega))
  have hb5 : Below W.heap.size W w5 := by
    rw [hw5]
    repeat (first | (with_reducible exact HB2.out) | refine Below.setCell ?_ (by simp) _)
  have hz5 : W.heap.size + 1 + 1 ≤ w5.heap.size := by rw [hw5]; simp; omega
  have HRC := Lib.hid (hk5.rc (HV0.out.below hb5))
  have HBB := Lib.hid hb5
  have K0 := Lib.hid g0
  have K2 := Lib.hid g2
  clear hw5 hk5 hb5 c0 c1 c2 c3 c4 c5 f0 f1 f2 f3 f4 f5 z0
  obtain ⟨⟨c0, c1, c2, c3, c4, c5⟩, ⟨f0, f1, f2, f3, f4, f5⟩, z0⟩ := blk6 g0
  clear g0 g2
  go_wp2_with fail
  refine (grput_any gw gh 0 y1 r _ l1 _ (HRC.out).rw (by unfold maxLen; omega)).mono ?_
  rintro e w3 ⟨ho, hw3⟩
  obtain ⟨v', rfl, hown⟩ := ho.is HP.out
  obtain ⟨g, cap', rfl, hcap', hrow⟩ := hown
  have HB3 := Lib.hid ((HBB.out).trans (hw3.mono (HBB.out).size))
  have HO := Lib.hid ((Own.sh rfl hcap' hrow).mono (B' := W.heap.size + 1 + 1) (by omega))
  have g0 := carry hw3 K0.out
  have g2 := carry hw3 K2.out
  clear hrow c0 c1 c2 c3 c4 c5 f0 f1 f2 f3 f4 f5 z0 ho hw3
  obtain ⟨⟨c0, c1, c2, c3, c4, c5⟩, ⟨f0, f1, f2, f3, f4, f5⟩, z0⟩ := blk6 g0
  obtain ⟨⟨k0, k1, k2, k3, k4, k5⟩, ⟨e0, e1, e2, e3, e4, e5⟩, z2⟩ := blk6 g2
  have Q0 := Lib.hid g0
  have Q2 := Lib.hid g2
  clear g0 g2
  generalize hN : (putL gw l1 0 y1 r).length = N at *
  go_upto_region 10 with fail
  obtain ⟨w4, hw4⟩ : ∃ w4, w4 = (((((w3.setCell ⟨W.heap.size, 0, none⟩ (.int .i64 gw)).setCell ⟨W.heap.size, 1, none⟩ (.int .i64 gh)).setCell ⟨W.heap.size, 2, none⟩ (.slice (some ⟨g, 0, none⟩) N cap')).setCell ⟨W.heap.size, 3, none⟩ (.int .i64 (n))).setCell ⟨W.heap.size, 5, none⟩ (.bool false)) := ⟨_, rfl⟩
  rw [← hw4]
  have q0 : w4.heap[W.heap.size]? = some (.cells #[.int .i64 gw, .int .i64 gh, .slice (some ⟨g, 0, none⟩) N cap', .int .i64 (n), .int .i64 y1, .bool false] 26 (0, 0)) := by rw [hw4]; exact set5 Q0.out _ _ _ _ _
  have q2 : w4.heap[W.heap.size + 1]? = some (.cells #[.int .i64 0, .int .i64 0, .slice none 0 0, .int .i64 0, .int .i64 0, .bool false] 26 (0, 0)) := by rw [hw4]; exact other5 Q2.out (by omega) _ _ _ _ _
  have HO4 : Own (W.heap.size + 1 + 1) w4 (.slice (some ⟨g, 0, none⟩) N cap') (putL gw l1 0 y1 r) := by
    rw [hw4]
    have HO' := HO.out
    repeat (first | (with_reducible exact HO') | refine Own.set1 ?_ _ _ _ (by omega))
  have HB4 : Below W.heap.size W w4 := by
    rw [hw4]
    repeat (first | (with_reducible exact HB3.out) | refine Below.setCell ?_ (by simp) _)
  have HO5 := Lib.hid HO4
  have HB5 := Lib.hid HB4
  clear hw4 HO4 HB4 c0 c1 c2 c3 c4 c5 f0 f1 f2 f3 f4 f5 k0 k1 k2 k3 k4 k5 e0 e1 e2 e3 e4 e5 z0 z2
  obtain ⟨⟨c0, c1, c2, c3, c4, c5⟩, ⟨f0, f1, f2, f3, f4, f5⟩, z0⟩ := blk6 q0
  obtain ⟨⟨k0, k1, k2, k3, k4, k5⟩, ⟨e0, e1, e2, e3, e4, e5⟩, z2⟩ := blk6 q2
  clear q0 q2
  go_wp2
  refine bodyPost_ret (v := .agg #[.int .i64 gw, .int .i64 gh, .slice (some ⟨g, 0, none⟩) N cap', .int .i64 (n), .int .i64 y1, .bool false]) (by simp [results, Tryz.results17, go_sem, *]) rfl ⟨TO.of (by rw [Int.zero_add]) rfl ?_, ?_⟩
  · refine .inr (Own.mono (B := W.heap.size + 1 + 1) ?_ (by omega))
    have HO' := HO5.out
    repeat (first | (with_reducible exact HO') | refine Own.set1 ?_ _ _ _ (by omega))
  · repeat (first | (with_reducible exact HB5.out) | refine Below.setCell ?_ (by simp) _)
set_option maxHeartbeats 8000000 in
theorem rtext_wrap_end (gw gh x y r : Int) (l : List (Int × Int)) (h : rt ⟨gw, gh, l, x, y, true⟩) (hs : shw r = true) (hkw : gw < gw + 1) (he : 0 + wd r = gw) (A : Option Addr) (cap : Nat) (W : World) (hv : Rc W (.slice A l.length cap) l) :
    Calls Tryz.prog 17 #[.agg #[.int .i64 gw, .int .i64 gh, .slice A l.length cap, .int .i64 x, .int .i64 y, .bool true], .int .i32 r] W fun e w' => TO W.heap.size (.slice A l.length cap) l w' e (tx ⟨gw, gh, l, x, y, true⟩ r) ∧ Below W.heap.size W w' := by
  have hb0 : Below W.heap.size W ((W.alloc (.cells #[.int .i64 gw, .int .i64 gh, .slice A l.length cap, .int .i64 x, .int .i64 y, .bool true] 26)).alloc (.cells #[.int .i64 0, .int .i64 0, .slice none 0 0, .int .i64 0, .int .i64 0, .bool false] 26)) := ((Below.refl _ _).alloc (Nat.le_refl _) _).alloc (by simp) _
  have HV := Lib.hid (hv.below hb0)
  have HV0 := Lib.hid hv
  have hz3 : ((W.alloc (.cells #[.int .i64 gw, .int .i64 gh, .slice A l.length cap, .int .i64 x, .int .i64 y, .bool true] 26)).alloc (.cells #[.int .i64 0, .int .i64 0, .slice none 0 0, .int .i64 0, .int .i64 0, .bool false] 26)).heap.size = W.heap.size + 1 + 1 := by simp
  have G0 := Lib.hid (carryA (.cells #[.int .i64 0, .int .i64 0, .slice none 0 0, .int .i64 0, .int .i64 0, .bool false] 26) (heap_alloc_new W (.cells #[.int .i64 gw, .int .i64 gh, .slice A l.length cap, .int .i64 x, .int .i64 y, .bool true] 26)))
  have G2 := Lib.hid (heap_alloc_new (W.alloc (.cells #[.int .i64 gw, .int .i64 gh, .slice A l.length cap, .int .i64 x, .int .i64 y, .bool true] 26)) (.cells #[.int .i64 0, .int .i64 0, .slice none 0 0, .int .i64 0, .int .i64 0, .bool false] 26))
  rw [show (W.alloc (.cells #[.int .i64 gw, .int .i64 gh, .slice A l.length cap, .int .i64 x, .int .i64 y, .bool true] 26)).heap.size = W.heap.size + 1 by simp] at G2
  have hcl := cl_w hs
  have hrw := rowed_rt (r := r) h hs
  unfold tx
  have hro : rowed ⟨gw, gh, l, x, y, true⟩ r = { dn ⟨gw, gh, l, x, y, true⟩ with x := 0 } := by unfold rowed; rw [if_pos (.inl rfl)]
  rw [hro] at hrw ⊢
  obtain ⟨l1, y1, hdn⟩ := dn_form gw gh x y l true
  rw [hdn] at hrw ⊢
  have HDN := Lib.hid hdn
  simp only at hrw ⊢
  obtain ⟨hr1, hfit, -, -⟩ := hrw
  have HP := Lib.hid (put_may hr1 hs hfit)
  have hl1 := right_len hr1.1
  have hsd := hr1.1.1
  have hR0 := Lib.hid h.1
  obtain ⟨-, hx0, hx1, hy0, hy1, -⟩ := h
  obtain ⟨-, -, hqx, hqy0, hqy1, -⟩ := hr1
  simp only at hx0 hx1 hy0 hy1 hl1 hsd HP hqx hqy0 hqy1
  have hwd : wd' r = wd r := rfl
  rw [hwd] at hfit hcl
  generalize hn : wd r = n at *
  have hn2 : 1 ≤ n ∧ n ≤ 2 := by omega
  have HU := Lib.hid (show adv ⟨gw, gh, l1, 0, y1, true⟩ r = ⟨gw, gh, putL gw l1 0 y1 r, gw - 1, y1, true⟩ by unfold adv; simp only; rw [hwd, if_pos (by simpa using he)])
  rw [HU.out]
  have HN := Lib.hid hn
  clear hn hcl hwd hv hro hdn hs
  have d2 : (n == gw) = true := by rw [beq_iff_eq]; omega
  have HE := Lib.hid he
  clear he hkw
  go_enter Tryz.func17, Tryz.ntmps17
  go_wp2_with fail
  refine (rwidth_any r _).mono ?_
  rintro e w1 ⟨rfl, hw1⟩
  rw [HN.out]
  have HB1 := Lib.hid (hb0.trans (hw1.mono hb0.size))
  have g0 := carry hw1 G0.out
  have g2 := carry hw1 G2.out
  have hz1 : W.heap.size + 1 + 1 ≤ w1.heap.size := by have := hw1.size; rw [hz3] at this; exact this
  have HV1 := Lib.hid (HV.out.below hw1)
  clear hw1 hb0 hz3
  have K0 := Lib.hid g0
  have K2 := Lib.hid g2
  obtain ⟨⟨c0, c1, c2, c3, c4, c5⟩, ⟨f0, f1, f2, f3, f4, f5⟩, z0⟩ := blk6 g0
  clear g0 g2
  go_wp2_with fail
  refine (rdown_any gw gh x y true l hR0.out ⟨hy0, hy1⟩ A cap _ HV1.out).mono ?_
  rintro e w2 ⟨ho, hw2⟩
  rw [HDN.out] at ho
  have hz2 : W.heap.size + 1 + 1 ≤ w2.heap.size := by have := hw2.size; omega
  have HB2 := HB1.out.trans (hw2.mono HB1.out.size)
  obtain ⟨A1, cap1, rfl, hk⟩ := ho.op (HV0.out.below HB2)
  have g0 := carry hw2 K0.out
  have g2 := carry hw2 K2.out
  have L0 := Lib.hid g0
  have L2 := Lib.hid g2
  have hk' := hk.mono (B' := W.heap.size + 1 + 1) (by omega)
  have HK := Lib.hid hk'
  have HB2 := Lib.hid HB2
  clear c0 c1 c2 c3 c4 c5 f0 f1 f2 f3 f4 f5 z0 ho hw2 hk hk'
  obtain ⟨⟨c0, c1, c2, c3, c4, c5⟩, ⟨f0, f1, f2, f3, f4, f5⟩, z0⟩ := blk6 g0
  clear g0 g2
  go_upto_region 5 with fail
  obtain ⟨w5, hw5⟩ : ∃ w5, w5 = (((((((w2.setCell ⟨W.heap.size, 0, none⟩ (.int .i64 gw)).setCell ⟨W.heap.size, 1, none⟩ (.int .i64 gh)).setCell ⟨W.heap.size, 2, none⟩ (.slice A1 l1.length cap1)).setCell ⟨W.heap.size, 3, none⟩ (.int .i64 x)).setCell ⟨W.heap.size, 4, none⟩ (.int .i64 y1)).setCell ⟨W.heap.size, 5, none⟩ (.bool true)).setCell ⟨W.heap.size, 3, none⟩ (.int .i64 0)) := ⟨_, rfl⟩
  rw [← hw5]
  have g0 : w5.heap[W.heap.size]? = some (.cells #[.int .i64 gw, .int .i64 gh, .slice A1 l1.length cap1, .int .i64 0, .int .i64 y1, .bool true] 26 (0, 0)) := by rw [hw5]; exact heap_setCell_same _ _ 3 _ _ _ (set6 L0.out _ _ _ _ _ _)
  have g2 : w5.heap[W.heap.size + 1]? = some (.cells #[.int .i64 0, .int .i64 0, .slice none 0 0, .int .i64 0, .int .i64 0, .bool false] 26 (0, 0)) := by rw [hw5]; exact (heap_setCell_other _ _ _ _ (by simp)).trans (other6 L2.out (by omega) _ _ _ _ _ _)
  have hk5 : Kp (W.heap.size + 1 + 1) (.slice A l.length cap) l w5 (.slice A1 l1.length cap1) l1 := by
    rw [hw5]
    have HO' := HK.out
    repeat (first | (with_reducible exact HO') | refine Kp.set1 ?_ _ _ _ (by omega))
  have hb5 : Below W.heap.size W w5 := by
    rw [hw5]
    repeat (first | (with_reducible exact HB2.out) | refine Below.setCell ?_ (by simp) _)
  have hz5 : W.heap.size + 1 + 1 ≤ w5.heap.size := by rw [hw5]; simp; omega
  have HRC := Lib.hid (hk5.rc (HV0.out.below hb5))
  have HBB := Lib.hid hb5
  have K0 := Lib.hid g0
  have K2 := Lib.hid g2
  clear hw5 hk5 hb5 c0 c1 c2 c3 c4 c5 f0 f1 f2 f3 f4 f5 z0
  obtain ⟨⟨c0, c1, c2, c3, c4, c5⟩, ⟨f0, f1, f2, f3, f4, f5⟩, z0⟩ := blk6 g0
  clear g0 g2
  go_wp2_with fail
  refine (grput_any gw gh 0 y1 r _ l1 _ (HRC.out).rw (by unfold maxLen; omega)).mono ?_
  rintro e w3 ⟨ho, hw3⟩
  obtain ⟨v', rfl, hown⟩ := ho.is HP.out
  obtain ⟨g, cap', rfl, hcap', hrow⟩ := hown
  have HB3 := Lib.hid ((HBB.out).trans (hw3.mono (HBB.out).size))
  have HO := Lib.hid ((Own.sh rfl hcap' hrow).mono (B' := W.heap.size + 1 + 1) (by omega))
  have g0 := carry hw3 K0.out
  have g2 := carry hw3 K2.out
  clear hrow c0 c1 c2 c3 c4 c5 f0 f1 f2 f3 f4 f5 z0 ho hw3
  obtain ⟨⟨c0, c1, c2, c3, c4, c5⟩, ⟨f0, f1, f2, f3, f4, f5⟩, z0⟩ := blk6 g0
  obtain ⟨⟨k0, k1, k2, k3, k4, k5⟩, ⟨e0, e1, e2, e3, e4, e5⟩, z2⟩ := blk6 g2
  have Q0 := Lib.hid g0
  have Q2 := Lib.hid g2
  clear g0 g2
  generalize hN : (putL gw l1 0 y1 r).length = N at *
  go_upto_region 10 with fail
  obtain ⟨w4, hw4⟩ : ∃ w4, w4 = ((((((w3.setCell ⟨W.heap.size, 0, none⟩ (.int .i64 gw)).setCell ⟨W.heap.size, 1, none⟩ (.int .i64 gh)).setCell ⟨W.heap.size, 2, none⟩ (.slice (some ⟨g, 0, none⟩) N cap')).setCell ⟨W.heap.size, 3, none⟩ (.int .i64 (n))).setCell ⟨W.heap.size, 5, none⟩ (.bool true)).setCell ⟨W.heap.size, 3, none⟩ (.int .i64 (gw - 1))) := ⟨_, rfl⟩
  rw [← hw4]
  have q0 : w4.heap[W.heap.size]? = some (.cells #[.int .i64 gw, .int .i64 gh, .slice (some ⟨g, 0, none⟩) N cap', .int .i64 (gw - 1), .int .i64 y1, .bool true] 26 (0, 0)) := by rw [hw4]; exact heap_setCell_same _ _ 3 _ _ _ (set5 Q0.out _ _ _ _ _)
  have q2 : w4.heap[W.heap.size + 1]? = some (.cells #[.int .i64 0, .int .i64 0, .slice none 0 0, .int .i64 0, .int .i64 0, .bool false] 26 (0, 0)) := by rw [hw4]; exact (heap_setCell_other _ _ _ _ (by simp)).trans (other5 Q2.out (by omega) _ _ _ _ _)
  have HO4 : Own (W.heap.size + 1 + 1) w4 (.slice (some ⟨g, 0, none⟩) N cap') (putL gw l1 0 y1 r) := by
    rw [hw4]
    have HO' := HO.out
    repeat (first | (with_reducible exact HO') | refine Own.set1 ?_ _ _ _ (by omega))
  have HB4 : Below W.heap.size W w4 := by
    rw [hw4]
    repeat (first | (with_reducible exact HB3.out) | refine Below.setCell ?_ (by simp) _)
  have HO5 := Lib.hid HO4
  have HB5 := Lib.hid HB4
  clear hw4 HO4 HB4 c0 c1 c2 c3 c4 c5 f0 f1 f2 f3 f4 f5 k0 k1 k2 k3 k4 k5 e0 e1 e2 e3 e4 e5 z0 z2
  obtain ⟨⟨c0, c1, c2, c3, c4, c5⟩, ⟨f0, f1, f2, f3, f4, f5⟩, z0⟩ := blk6 q0
  obtain ⟨⟨k0, k1, k2, k3, k4, k5⟩, ⟨e0, e1, e2, e3, e4, e5⟩, z2⟩ := blk6 q2
  clear q0 q2
  go_wp2
  refine bodyPost_ret (v := .agg #[.int .i64 gw, .int .i64 gh, .slice (some ⟨g, 0, none⟩) N cap', .int .i64 (gw - 1), .int .i64 y1, .bool true]) (by simp [results, Tryz.results17, go_sem, *]) rfl ⟨TO.of (rfl) rfl ?_, ?_⟩
  · refine .inr (Own.mono (B := W.heap.size + 1 + 1) ?_ (by omega))
    have HO' := HO5.out
    repeat (first | (with_reducible exact HO') | refine Own.set1 ?_ _ _ _ (by omega))
  · repeat (first | (with_reducible exact HB5.out) | refine Below.setCell ?_ (by simp) _)
theorem rtext_any (gw gh x y r : Int) (k : Bool) (l : List (Int × Int)) (h : rt ⟨gw, gh, l, x, y, k⟩) (hs : shw r = true) (A : Option Addr) (cap : Nat) (W : World) (hv : Rc W (.slice A l.length cap) l) :
    Calls Tryz.prog 17 #[.agg #[.int .i64 gw, .int .i64 gh, .slice A l.length cap, .int .i64 x, .int .i64 y, .bool k], .int .i32 r] W fun e w' => TO W.heap.size (.slice A l.length cap) l w' e (tx ⟨gw, gh, l, x, y, k⟩ r) ∧ Below W.heap.size W w' := by
  cases k
  · by_cases h1 : gw < x + wd r
    · by_cases h2 : 0 + wd r = gw
      · exact rtext_row_end gw gh x y r l h hs h1 h2 A cap W hv
      · exact rtext_row_no gw gh x y r l h hs h1 h2 A cap W hv
    · by_cases h2 : x + wd r = gw
      · exact rtext_on_end gw gh x y r l h hs (by omega) h2 A cap W hv
      · exact rtext_on_no gw gh x y r l h hs (by omega) h2 A cap W hv
  · by_cases h2 : 0 + wd r = gw
    · exact rtext_wrap_end gw gh x y r l h hs (by omega) h2 A cap W hv
    · exact rtext_wrap_no gw gh x y r l h hs (by omega) h2 A cap W hv
end Go.Proofs.YtkkioajmfkcloaaGreatDoor
