/- The program: text, after. -/
import Derived.Test.YtkkioajmfkcloaaDoorTmB
import Derived.Test.YtkkioajmfkcloaaDoorMGu
import Derived.Test.YtkkioajmfkcloaaDoorMWb
import Derived.Deep.Cut
/- The program's text: a sign is put, and the cursor led behind it. -/
set_option linter.unusedVariables false
namespace Go.Proofs.YtkkioajmfkcloaaDoor
open Go.RowKit Gl L Wd Gd Tm
/-- All six cells of a block are written. -/
theorem set6 {w : World} {g : Nat} {a b c d e f : Value} {t : TypeId} (h : w.heap[g]? = some (.cells #[a, b, c, d, e, f] t (0, 0))) (a' b' c' d' e' f' : Value) : ((((((w.setCell ⟨g, 0, none⟩ a').setCell ⟨g, 1, none⟩ b').setCell ⟨g, 2, none⟩ c').setCell ⟨g, 3, none⟩ d').setCell ⟨g, 4, none⟩ e').setCell ⟨g, 5, none⟩ f').heap[g]? = some (.cells #[a', b', c', d', e', f'] t (0, 0)) :=
  heap_setCell_same _ g 5 _ t f' (heap_setCell_same _ g 4 _ t e' (heap_setCell_same _ g 3 _ t d' (heap_setCell_same _ g 2 _ t c' (heap_setCell_same _ g 1 _ t b' (heap_setCell_same _ g 0 _ t a' h)))))
/-- Another block stays. -/
theorem other6 {w : World} {g q : Nat} {o : Obj} (h : w.heap[q]? = some o) (hq : q ≠ g) (a' b' c' d' e' f' : Value) : ((((((w.setCell ⟨g, 0, none⟩ a').setCell ⟨g, 1, none⟩ b').setCell ⟨g, 2, none⟩ c').setCell ⟨g, 3, none⟩ d').setCell ⟨g, 4, none⟩ e').setCell ⟨g, 5, none⟩ f').heap[q]? = some o := by
  rw [heap_setCell_other _ _ _ _ hq, heap_setCell_other _ _ _ _ hq, heap_setCell_other _ _ _ _ hq, heap_setCell_other _ _ _ _ hq, heap_setCell_other _ _ _ _ hq, heap_setCell_other _ _ _ _ hq]
  exact h
/-- A sign's cells, the column and Wrap are written. -/
theorem set5 {w : World} {g : Nat} {a b c d e f : Value} {t : TypeId} (h : w.heap[g]? = some (.cells #[a, b, c, d, e, f] t (0, 0))) (a' b' c' d' f' : Value) : (((((w.setCell ⟨g, 0, none⟩ a').setCell ⟨g, 1, none⟩ b').setCell ⟨g, 2, none⟩ c').setCell ⟨g, 3, none⟩ d').setCell ⟨g, 5, none⟩ f').heap[g]? = some (.cells #[a', b', c', d', e, f'] t (0, 0)) :=
  heap_setCell_same _ g 5 _ t f' (heap_setCell_same _ g 3 _ t d' (heap_setCell_same _ g 2 _ t c' (heap_setCell_same _ g 1 _ t b' (heap_setCell_same _ g 0 _ t a' h))))
theorem other5 {w : World} {g q : Nat} {o : Obj} (h : w.heap[q]? = some o) (hq : q ≠ g) (a' b' c' d' f' : Value) : (((((w.setCell ⟨g, 0, none⟩ a').setCell ⟨g, 1, none⟩ b').setCell ⟨g, 2, none⟩ c').setCell ⟨g, 3, none⟩ d').setCell ⟨g, 5, none⟩ f').heap[q]? = some o := by
  rw [heap_setCell_other _ _ _ _ hq, heap_setCell_other _ _ _ _ hq, heap_setCell_other _ _ _ _ hq, heap_setCell_other _ _ _ _ hq, heap_setCell_other _ _ _ _ hq]
  exact h
theorem dn_form (gw gh x y : Int) (l : List (Int × Int)) (k : Bool) : ∃ l1 y1, dn ⟨gw, gh, l, x, y, k⟩ = ⟨gw, gh, l1, x, y1, k⟩ := by
  unfold dn
  split
  · exact ⟨_, _, rfl⟩
  · exact ⟨_, _, rfl⟩
set_option maxHeartbeats 8000000 in
theorem text_on_no (gw gh x y kk a b r : Int) (l : List (Int × Int)) (h : rt ⟨gw, gh, l, x, y, false⟩) (hs : shw r = true) (hkw : x + wd r ≤ gw) (he : x + wd r ≠ gw) (A : Option Addr) (cap : Nat) (W : World) (hv : Rc W (.slice A l.length cap) l) (S : Spans W 2) (T : Blk W 0) :
    Calls Tryd.prog 50 #[.agg #[.int .i64 gw, .int .i64 gh, .slice A l.length cap, .int .i64 x, .int .i64 y, .bool false], .agg #[.int .i64 kk, .int .i64 a, .int .i64 b, .int .i32 r]] W fun e w' => TO W.heap.size (.slice A l.length cap) l w' e (tx ⟨gw, gh, l, x, y, false⟩ r) ∧ Below W.heap.size W w' := by
  have hb0 : Below W.heap.size W (((W.alloc (.cells #[.int .i64 gw, .int .i64 gh, .slice A l.length cap, .int .i64 x, .int .i64 y, .bool false] 71)).alloc (.cells #[.int .i64 kk, .int .i64 a, .int .i64 b, .int .i32 r] 36)).alloc (.cells #[.int .i64 0, .int .i64 0, .slice none 0 0, .int .i64 0, .int .i64 0, .bool false] 71)) := (((Below.refl _ _).alloc (Nat.le_refl _) _).alloc (by simp) _).alloc (by simp; omega) _
  have HV := Lib.hid (hv.below hb0)
  have HV0 := Lib.hid hv
  have hz3 : (((W.alloc (.cells #[.int .i64 gw, .int .i64 gh, .slice A l.length cap, .int .i64 x, .int .i64 y, .bool false] 71)).alloc (.cells #[.int .i64 kk, .int .i64 a, .int .i64 b, .int .i32 r] 36)).alloc (.cells #[.int .i64 0, .int .i64 0, .slice none 0 0, .int .i64 0, .int .i64 0, .bool false] 71)).heap.size = W.heap.size + 1 + 1 + 1 := by simp
  have G0 := Lib.hid (carryA (.cells #[.int .i64 0, .int .i64 0, .slice none 0 0, .int .i64 0, .int .i64 0, .bool false] 71) (carryA (.cells #[.int .i64 kk, .int .i64 a, .int .i64 b, .int .i32 r] 36) (heap_alloc_new W (.cells #[.int .i64 gw, .int .i64 gh, .slice A l.length cap, .int .i64 x, .int .i64 y, .bool false] 71))))
  have G1 := Lib.hid (carryA (.cells #[.int .i64 0, .int .i64 0, .slice none 0 0, .int .i64 0, .int .i64 0, .bool false] 71) (heap_alloc_new (W.alloc (.cells #[.int .i64 gw, .int .i64 gh, .slice A l.length cap, .int .i64 x, .int .i64 y, .bool false] 71)) (.cells #[.int .i64 kk, .int .i64 a, .int .i64 b, .int .i32 r] 36)))
  have G2 := Lib.hid (heap_alloc_new ((W.alloc (.cells #[.int .i64 gw, .int .i64 gh, .slice A l.length cap, .int .i64 x, .int .i64 y, .bool false] 71)).alloc (.cells #[.int .i64 kk, .int .i64 a, .int .i64 b, .int .i32 r] 36)) (.cells #[.int .i64 0, .int .i64 0, .slice none 0 0, .int .i64 0, .int .i64 0, .bool false] 71))
  rw [show (W.alloc (.cells #[.int .i64 gw, .int .i64 gh, .slice A l.length cap, .int .i64 x, .int .i64 y, .bool false] 71)).heap.size = W.heap.size + 1 by simp] at G1
  rw [show ((W.alloc (.cells #[.int .i64 gw, .int .i64 gh, .slice A l.length cap, .int .i64 x, .int .i64 y, .bool false] 71)).alloc (.cells #[.int .i64 kk, .int .i64 a, .int .i64 b, .int .i32 r] 36)).heap.size = W.heap.size + 1 + 1 by simp] at G2
  have hcl := cl_w hs
  have hrw := rowed_rt (r := r) h hs
  unfold tx
  have hro : rowed ⟨gw, gh, l, x, y, false⟩ r = ⟨gw, gh, l, x, y, false⟩ := by unfold rowed; rw [if_neg (by rintro (h | h); cases h; simp only [wd'] at h; unfold wd at hkw; omega)]
  rw [hro] at hrw ⊢
  simp only at hrw ⊢
  obtain ⟨hr1, hfit, -, -⟩ := hrw
  have HP := Lib.hid (put_may hr1 hs hfit)
  have hl1 := right_len hr1.1
  have hsd := hr1.1.1
  have hR0 := Lib.hid h.1
  obtain ⟨-, hx0, hx1, hy0, hy1, -⟩ := h
  obtain ⟨-, -, hqx, hqy0, hqy1, -⟩ := hr1
  simp only at hx0 hx1 hy0 hy1 hl1 hsd HP hqx hqy0 hqy1
  have hwd : wd' r = wd r := rfl
  rw [hwd] at hfit hcl
  generalize hn : wd r = n at *
  have hn2 : 1 ≤ n ∧ n ≤ 2 := by omega
  have HU := Lib.hid (show adv ⟨gw, gh, l, x, y, false⟩ r = ⟨gw, gh, putL gw l x y r, x + n, y, false⟩ by unfold adv; simp only; rw [hwd, if_neg (by simpa using he)])
  rw [HU.out]
  have HN := Lib.hid hn
  have HT := Lib.hid (fun (w' : World) hb => T.below (w' := w') hb)
  have HSP := Lib.hid (fun (w' : World) hb => S.below (w' := w') hb)
  clear hn hcl hwd hv hro T S hs
  have d1 : decide (gw < x + n) = false := by rw [decide_eq_false_iff_not]; omega
  have d2 : (x + n == gw) = false := by rw [beq_eq_false_iff_ne]; omega
  have HE := Lib.hid he
  clear he
  go_enter Tryd.func50, Tryd.ntmps50
  go_wp2_with fail
  refine (width_any r _ (HSP.out _ hb0)).mono ?_
  rintro e w1 ⟨rfl, hw1⟩
  rw [HN.out]
  have HB1 := Lib.hid (hb0.trans (hw1.mono hb0.size))
  have g0 := carry hw1 G0.out
  have g1 := carry hw1 G1.out
  have g2 := carry hw1 G2.out
  have hz1 : W.heap.size + 1 + 1 + 1 ≤ w1.heap.size := by have := hw1.size; rw [hz3] at this; exact this
  have HV1 := Lib.hid (HV.out.below hw1)
  clear hw1 hb0 hz3
  have K0 := Lib.hid g0
  have K1 := Lib.hid g1
  have K2 := Lib.hid g2
  obtain ⟨⟨c0, c1, c2, c3, c4, c5⟩, ⟨f0, f1, f2, f3, f4, f5⟩, z0⟩ := blk6 g0
  have r3 := cell_of_row _ _ 3 _ _ (0, 0) g1
  have z1 : W.heap.size + 1 < w1.heap.size := by omega
  clear g0 g1 g2
  go_wp2_with fail
  refine (gput_any gw gh x y r _ l _ (HV1.out).rw (by unfold maxLen; omega) (HSP.out _ (HB1.out)) (HT.out _ (HB1.out))).mono ?_
  rintro e w3 ⟨ho, hw3⟩
  obtain ⟨v', rfl, hown⟩ := ho.is HP.out
  obtain ⟨g, cap', rfl, hcap', hrow⟩ := hown
  have HB3 := Lib.hid ((HB1.out).trans (hw3.mono (HB1.out).size))
  have HO := Lib.hid ((Own.sh rfl hcap' hrow).mono (B' := W.heap.size + 1 + 1 + 1) (by omega))
  have g0 := carry hw3 K0.out
  have g2 := carry hw3 K2.out
  clear hrow c0 c1 c2 c3 c4 c5 f0 f1 f2 f3 f4 f5 z0 z1 r3 ho hw3
  obtain ⟨⟨c0, c1, c2, c3, c4, c5⟩, ⟨f0, f1, f2, f3, f4, f5⟩, z0⟩ := blk6 g0
  obtain ⟨⟨k0, k1, k2, k3, k4, k5⟩, ⟨e0, e1, e2, e3, e4, e5⟩, z2⟩ := blk6 g2
  have Q0 := Lib.hid g0
  have Q2 := Lib.hid g2
  clear g0 g2
  generalize hN : (putL gw l x y r).length = N at *
  go_upto_region 10 with fail
  obtain ⟨w4, hw4⟩ : ∃ w4, w4 = (((((w3.setCell ⟨W.heap.size, 0, none⟩ (.int .i64 gw)).setCell ⟨W.heap.size, 1, none⟩ (.int .i64 gh)).setCell ⟨W.heap.size, 2, none⟩ (.slice (some ⟨g, 0, none⟩) N cap')).setCell ⟨W.heap.size, 3, none⟩ (.int .i64 (x + n))).setCell ⟨W.heap.size, 5, none⟩ (.bool false)) := ⟨_, rfl⟩
  rw [← hw4]
  have q0 : w4.heap[W.heap.size]? = some (.cells #[.int .i64 gw, .int .i64 gh, .slice (some ⟨g, 0, none⟩) N cap', .int .i64 (x + n), .int .i64 y, .bool false] 71 (0, 0)) := by rw [hw4]; exact set5 Q0.out _ _ _ _ _
  have q2 : w4.heap[W.heap.size + 1 + 1]? = some (.cells #[.int .i64 0, .int .i64 0, .slice none 0 0, .int .i64 0, .int .i64 0, .bool false] 71 (0, 0)) := by rw [hw4]; exact other5 Q2.out (by omega) _ _ _ _ _
  have HO4 : Own (W.heap.size + 1 + 1 + 1) w4 (.slice (some ⟨g, 0, none⟩) N cap') (putL gw l x y r) := by
    rw [hw4]
    have HO' := HO.out
    repeat (first | (with_reducible exact HO') | refine Own.set1 ?_ _ _ _ (by omega))
  have HB4 : Below W.heap.size W w4 := by
    rw [hw4]
    repeat (first | (with_reducible exact HB3.out) | refine Below.setCell ?_ (by simp) _)
  have HO5 := Lib.hid HO4
  have HB5 := Lib.hid HB4
  clear hw4 HO4 HB4 c0 c1 c2 c3 c4 c5 f0 f1 f2 f3 f4 f5 k0 k1 k2 k3 k4 k5 e0 e1 e2 e3 e4 e5 z0 z2
  obtain ⟨⟨c0, c1, c2, c3, c4, c5⟩, ⟨f0, f1, f2, f3, f4, f5⟩, z0⟩ := blk6 q0
  obtain ⟨⟨k0, k1, k2, k3, k4, k5⟩, ⟨e0, e1, e2, e3, e4, e5⟩, z2⟩ := blk6 q2
  clear q0 q2
  go_wp2
  refine bodyPost_ret (v := .agg #[.int .i64 gw, .int .i64 gh, .slice (some ⟨g, 0, none⟩) N cap', .int .i64 (x + n), .int .i64 y, .bool false]) (by simp [results, Tryd.results50, go_sem, *]) rfl ⟨TO.of (rfl) rfl ?_, ?_⟩
  · refine .inr (Own.mono (B := W.heap.size + 1 + 1 + 1) ?_ (by omega))
    have HO' := HO5.out
    repeat (first | (with_reducible exact HO') | refine Own.set1 ?_ _ _ _ (by omega))
  · repeat (first | (with_reducible exact HB5.out) | refine Below.setCell ?_ (by simp; omega) _)
set_option maxHeartbeats 8000000 in
theorem text_on_end (gw gh x y kk a b r : Int) (l : List (Int × Int)) (h : rt ⟨gw, gh, l, x, y, false⟩) (hs : shw r = true) (hkw : x + wd r ≤ gw) (he : x + wd r = gw) (A : Option Addr) (cap : Nat) (W : World) (hv : Rc W (.slice A l.length cap) l) (S : Spans W 2) (T : Blk W 0) :
    Calls Tryd.prog 50 #[.agg #[.int .i64 gw, .int .i64 gh, .slice A l.length cap, .int .i64 x, .int .i64 y, .bool false], .agg #[.int .i64 kk, .int .i64 a, .int .i64 b, .int .i32 r]] W fun e w' => TO W.heap.size (.slice A l.length cap) l w' e (tx ⟨gw, gh, l, x, y, false⟩ r) ∧ Below W.heap.size W w' := by
  have hb0 : Below W.heap.size W (((W.alloc (.cells #[.int .i64 gw, .int .i64 gh, .slice A l.length cap, .int .i64 x, .int .i64 y, .bool false] 71)).alloc (.cells #[.int .i64 kk, .int .i64 a, .int .i64 b, .int .i32 r] 36)).alloc (.cells #[.int .i64 0, .int .i64 0, .slice none 0 0, .int .i64 0, .int .i64 0, .bool false] 71)) := (((Below.refl _ _).alloc (Nat.le_refl _) _).alloc (by simp) _).alloc (by simp; omega) _
  have HV := Lib.hid (hv.below hb0)
  have HV0 := Lib.hid hv
  have hz3 : (((W.alloc (.cells #[.int .i64 gw, .int .i64 gh, .slice A l.length cap, .int .i64 x, .int .i64 y, .bool false] 71)).alloc (.cells #[.int .i64 kk, .int .i64 a, .int .i64 b, .int .i32 r] 36)).alloc (.cells #[.int .i64 0, .int .i64 0, .slice none 0 0, .int .i64 0, .int .i64 0, .bool false] 71)).heap.size = W.heap.size + 1 + 1 + 1 := by simp
  have G0 := Lib.hid (carryA (.cells #[.int .i64 0, .int .i64 0, .slice none 0 0, .int .i64 0, .int .i64 0, .bool false] 71) (carryA (.cells #[.int .i64 kk, .int .i64 a, .int .i64 b, .int .i32 r] 36) (heap_alloc_new W (.cells #[.int .i64 gw, .int .i64 gh, .slice A l.length cap, .int .i64 x, .int .i64 y, .bool false] 71))))
  have G1 := Lib.hid (carryA (.cells #[.int .i64 0, .int .i64 0, .slice none 0 0, .int .i64 0, .int .i64 0, .bool false] 71) (heap_alloc_new (W.alloc (.cells #[.int .i64 gw, .int .i64 gh, .slice A l.length cap, .int .i64 x, .int .i64 y, .bool false] 71)) (.cells #[.int .i64 kk, .int .i64 a, .int .i64 b, .int .i32 r] 36)))
  have G2 := Lib.hid (heap_alloc_new ((W.alloc (.cells #[.int .i64 gw, .int .i64 gh, .slice A l.length cap, .int .i64 x, .int .i64 y, .bool false] 71)).alloc (.cells #[.int .i64 kk, .int .i64 a, .int .i64 b, .int .i32 r] 36)) (.cells #[.int .i64 0, .int .i64 0, .slice none 0 0, .int .i64 0, .int .i64 0, .bool false] 71))
  rw [show (W.alloc (.cells #[.int .i64 gw, .int .i64 gh, .slice A l.length cap, .int .i64 x, .int .i64 y, .bool false] 71)).heap.size = W.heap.size + 1 by simp] at G1
  rw [show ((W.alloc (.cells #[.int .i64 gw, .int .i64 gh, .slice A l.length cap, .int .i64 x, .int .i64 y, .bool false] 71)).alloc (.cells #[.int .i64 kk, .int .i64 a, .int .i64 b, .int .i32 r] 36)).heap.size = W.heap.size + 1 + 1 by simp] at G2
  have hcl := cl_w hs
  have hrw := rowed_rt (r := r) h hs
  unfold tx
  have hro : rowed ⟨gw, gh, l, x, y, false⟩ r = ⟨gw, gh, l, x, y, false⟩ := by unfold rowed; rw [if_neg (by rintro (h | h); cases h; simp only [wd'] at h; unfold wd at hkw; omega)]
  rw [hro] at hrw ⊢
  simp only at hrw ⊢
  obtain ⟨hr1, hfit, -, -⟩ := hrw
  have HP := Lib.hid (put_may hr1 hs hfit)
  have hl1 := right_len hr1.1
  have hsd := hr1.1.1
  have hR0 := Lib.hid h.1
  obtain ⟨-, hx0, hx1, hy0, hy1, -⟩ := h
  obtain ⟨-, -, hqx, hqy0, hqy1, -⟩ := hr1
  simp only at hx0 hx1 hy0 hy1 hl1 hsd HP hqx hqy0 hqy1
  have hwd : wd' r = wd r := rfl
  rw [hwd] at hfit hcl
  generalize hn : wd r = n at *
  have hn2 : 1 ≤ n ∧ n ≤ 2 := by omega
  have HU := Lib.hid (show adv ⟨gw, gh, l, x, y, false⟩ r = ⟨gw, gh, putL gw l x y r, gw - 1, y, true⟩ by unfold adv; simp only; rw [hwd, if_pos (by simpa using he)])
  rw [HU.out]
  have HN := Lib.hid hn
  have HT := Lib.hid (fun (w' : World) hb => T.below (w' := w') hb)
  have HSP := Lib.hid (fun (w' : World) hb => S.below (w' := w') hb)
  clear hn hcl hwd hv hro T S hs
  have d1 : decide (gw < x + n) = false := by rw [decide_eq_false_iff_not]; omega
  have d2 : (x + n == gw) = true := by rw [beq_iff_eq]; omega
  have HE := Lib.hid he
  clear he
  go_enter Tryd.func50, Tryd.ntmps50
  go_wp2_with fail
  refine (width_any r _ (HSP.out _ hb0)).mono ?_
  rintro e w1 ⟨rfl, hw1⟩
  rw [HN.out]
  have HB1 := Lib.hid (hb0.trans (hw1.mono hb0.size))
  have g0 := carry hw1 G0.out
  have g1 := carry hw1 G1.out
  have g2 := carry hw1 G2.out
  have hz1 : W.heap.size + 1 + 1 + 1 ≤ w1.heap.size := by have := hw1.size; rw [hz3] at this; exact this
  have HV1 := Lib.hid (HV.out.below hw1)
  clear hw1 hb0 hz3
  have K0 := Lib.hid g0
  have K1 := Lib.hid g1
  have K2 := Lib.hid g2
  obtain ⟨⟨c0, c1, c2, c3, c4, c5⟩, ⟨f0, f1, f2, f3, f4, f5⟩, z0⟩ := blk6 g0
  have r3 := cell_of_row _ _ 3 _ _ (0, 0) g1
  have z1 : W.heap.size + 1 < w1.heap.size := by omega
  clear g0 g1 g2
  go_wp2_with fail
  refine (gput_any gw gh x y r _ l _ (HV1.out).rw (by unfold maxLen; omega) (HSP.out _ (HB1.out)) (HT.out _ (HB1.out))).mono ?_
  rintro e w3 ⟨ho, hw3⟩
  obtain ⟨v', rfl, hown⟩ := ho.is HP.out
  obtain ⟨g, cap', rfl, hcap', hrow⟩ := hown
  have HB3 := Lib.hid ((HB1.out).trans (hw3.mono (HB1.out).size))
  have HO := Lib.hid ((Own.sh rfl hcap' hrow).mono (B' := W.heap.size + 1 + 1 + 1) (by omega))
  have g0 := carry hw3 K0.out
  have g2 := carry hw3 K2.out
  clear hrow c0 c1 c2 c3 c4 c5 f0 f1 f2 f3 f4 f5 z0 z1 r3 ho hw3
  obtain ⟨⟨c0, c1, c2, c3, c4, c5⟩, ⟨f0, f1, f2, f3, f4, f5⟩, z0⟩ := blk6 g0
  obtain ⟨⟨k0, k1, k2, k3, k4, k5⟩, ⟨e0, e1, e2, e3, e4, e5⟩, z2⟩ := blk6 g2
  have Q0 := Lib.hid g0
  have Q2 := Lib.hid g2
  clear g0 g2
  generalize hN : (putL gw l x y r).length = N at *
  go_upto_region 10 with fail
  obtain ⟨w4, hw4⟩ : ∃ w4, w4 = ((((((w3.setCell ⟨W.heap.size, 0, none⟩ (.int .i64 gw)).setCell ⟨W.heap.size, 1, none⟩ (.int .i64 gh)).setCell ⟨W.heap.size, 2, none⟩ (.slice (some ⟨g, 0, none⟩) N cap')).setCell ⟨W.heap.size, 3, none⟩ (.int .i64 (x + n))).setCell ⟨W.heap.size, 5, none⟩ (.bool true)).setCell ⟨W.heap.size, 3, none⟩ (.int .i64 (x + n - 1))) := ⟨_, rfl⟩
  rw [← hw4]
  have q0 : w4.heap[W.heap.size]? = some (.cells #[.int .i64 gw, .int .i64 gh, .slice (some ⟨g, 0, none⟩) N cap', .int .i64 (x + n - 1), .int .i64 y, .bool true] 71 (0, 0)) := by rw [hw4]; exact heap_setCell_same _ _ 3 _ _ _ (set5 Q0.out _ _ _ _ _)
  have q2 : w4.heap[W.heap.size + 1 + 1]? = some (.cells #[.int .i64 0, .int .i64 0, .slice none 0 0, .int .i64 0, .int .i64 0, .bool false] 71 (0, 0)) := by rw [hw4]; exact (heap_setCell_other _ _ _ _ (by simp; omega)).trans (other5 Q2.out (by omega) _ _ _ _ _)
  have HO4 : Own (W.heap.size + 1 + 1 + 1) w4 (.slice (some ⟨g, 0, none⟩) N cap') (putL gw l x y r) := by
    rw [hw4]
    have HO' := HO.out
    repeat (first | (with_reducible exact HO') | refine Own.set1 ?_ _ _ _ (by omega))
  have HB4 : Below W.heap.size W w4 := by
    rw [hw4]
    repeat (first | (with_reducible exact HB3.out) | refine Below.setCell ?_ (by simp) _)
  have HO5 := Lib.hid HO4
  have HB5 := Lib.hid HB4
  clear hw4 HO4 HB4 c0 c1 c2 c3 c4 c5 f0 f1 f2 f3 f4 f5 k0 k1 k2 k3 k4 k5 e0 e1 e2 e3 e4 e5 z0 z2
  obtain ⟨⟨c0, c1, c2, c3, c4, c5⟩, ⟨f0, f1, f2, f3, f4, f5⟩, z0⟩ := blk6 q0
  obtain ⟨⟨k0, k1, k2, k3, k4, k5⟩, ⟨e0, e1, e2, e3, e4, e5⟩, z2⟩ := blk6 q2
  clear q0 q2
  go_wp2
  refine bodyPost_ret (v := .agg #[.int .i64 gw, .int .i64 gh, .slice (some ⟨g, 0, none⟩) N cap', .int .i64 (x + n - 1), .int .i64 y, .bool true]) (by simp [results, Tryd.results50, go_sem, *]) rfl ⟨TO.of (by rw [show gw - 1 = x + n - 1 by have := HE.out; omega]) rfl ?_, ?_⟩
  · refine .inr (Own.mono (B := W.heap.size + 1 + 1 + 1) ?_ (by omega))
    have HO' := HO5.out
    repeat (first | (with_reducible exact HO') | refine Own.set1 ?_ _ _ _ (by omega))
  · repeat (first | (with_reducible exact HB5.out) | refine Below.setCell ?_ (by simp; omega) _)
set_option maxHeartbeats 8000000 in
theorem text_row_no (gw gh x y kk a b r : Int) (l : List (Int × Int)) (h : rt ⟨gw, gh, l, x, y, false⟩) (hs : shw r = true) (hkw : gw < x + wd r) (he : 0 + wd r ≠ gw) (A : Option Addr) (cap : Nat) (W : World) (hv : Rc W (.slice A l.length cap) l) (S : Spans W 2) (T : Blk W 0) :
    Calls Tryd.prog 50 #[.agg #[.int .i64 gw, .int .i64 gh, .slice A l.length cap, .int .i64 x, .int .i64 y, .bool false], .agg #[.int .i64 kk, .int .i64 a, .int .i64 b, .int .i32 r]] W fun e w' => TO W.heap.size (.slice A l.length cap) l w' e (tx ⟨gw, gh, l, x, y, false⟩ r) ∧ Below W.heap.size W w' := by
  have hb0 : Below W.heap.size W (((W.alloc (.cells #[.int .i64 gw, .int .i64 gh, .slice A l.length cap, .int .i64 x, .int .i64 y, .bool false] 71)).alloc (.cells #[.int .i64 kk, .int .i64 a, .int .i64 b, .int .i32 r] 36)).alloc (.cells #[.int .i64 0, .int .i64 0, .slice none 0 0, .int .i64 0, .int .i64 0, .bool false] 71)) := (((Below.refl _ _).alloc (Nat.le_refl _) _).alloc (by simp) _).alloc (by simp; omega) _
  have HV := Lib.hid (hv.below hb0)
  have HV0 := Lib.hid hv
  have hz3 : (((W.alloc (.cells #[.int .i64 gw, .int .i64 gh, .slice A l.length cap, .int .i64 x, .int .i64 y, .bool false] 71)).alloc (.cells #[.int .i64 kk, .int .i64 a, .int .i64 b, .int .i32 r] 36)).alloc (.cells #[.int .i64 0, .int .i64 0, .slice none 0 0, .int .i64 0, .int .i64 0, .bool false] 71)).heap.size = W.heap.size + 1 + 1 + 1 := by simp
  have G0 := Lib.hid (carryA (.cells #[.int .i64 0, .int .i64 0, .slice none 0 0, .int .i64 0, .int .i64 0, .bool false] 71) (carryA (.cells #[.int .i64 kk, .int .i64 a, .int .i64 b, .int .i32 r] 36) (heap_alloc_new W (.cells #[.int .i64 gw, .int .i64 gh, .slice A l.length cap, .int .i64 x, .int .i64 y, .bool false] 71))))
  have G1 := Lib.hid (carryA (.cells #[.int .i64 0, .int .i64 0, .slice none 0 0, .int .i64 0, .int .i64 0, .bool false] 71) (heap_alloc_new (W.alloc (.cells #[.int .i64 gw, .int .i64 gh, .slice A l.length cap, .int .i64 x, .int .i64 y, .bool false] 71)) (.cells #[.int .i64 kk, .int .i64 a, .int .i64 b, .int .i32 r] 36)))
  have G2 := Lib.hid (heap_alloc_new ((W.alloc (.cells #[.int .i64 gw, .int .i64 gh, .slice A l.length cap, .int .i64 x, .int .i64 y, .bool false] 71)).alloc (.cells #[.int .i64 kk, .int .i64 a, .int .i64 b, .int .i32 r] 36)) (.cells #[.int .i64 0, .int .i64 0, .slice none 0 0, .int .i64 0, .int .i64 0, .bool false] 71))
  rw [show (W.alloc (.cells #[.int .i64 gw, .int .i64 gh, .slice A l.length cap, .int .i64 x, .int .i64 y, .bool false] 71)).heap.size = W.heap.size + 1 by simp] at G1
  rw [show ((W.alloc (.cells #[.int .i64 gw, .int .i64 gh, .slice A l.length cap, .int .i64 x, .int .i64 y, .bool false] 71)).alloc (.cells #[.int .i64 kk, .int .i64 a, .int .i64 b, .int .i32 r] 36)).heap.size = W.heap.size + 1 + 1 by simp] at G2
  have hcl := cl_w hs
  have hrw := rowed_rt (r := r) h hs
  unfold tx
  have hro : rowed ⟨gw, gh, l, x, y, false⟩ r = { dn ⟨gw, gh, l, x, y, false⟩ with x := 0 } := by unfold rowed; rw [if_pos (.inr hkw)]
  rw [hro] at hrw ⊢
  have HDN := Lib.hid (show dn ⟨gw, gh, l, 0, y, false⟩ = { dn ⟨gw, gh, l, x, y, false⟩ with x := 0 } by unfold dn; split <;> rfl)
  obtain ⟨l1, y1, hdn⟩ := dn_form gw gh x y l false
  rw [hdn] at hrw HDN ⊢
  simp only at hrw ⊢
  obtain ⟨hr1, hfit, -, -⟩ := hrw
  have HP := Lib.hid (put_may hr1 hs hfit)
  have hl1 := right_len hr1.1
  have hsd := hr1.1.1
  have hR0 := Lib.hid h.1
  obtain ⟨-, hx0, hx1, hy0, hy1, -⟩ := h
  obtain ⟨-, -, hqx, hqy0, hqy1, -⟩ := hr1
  simp only at hx0 hx1 hy0 hy1 hl1 hsd HP hqx hqy0 hqy1
  have hwd : wd' r = wd r := rfl
  rw [hwd] at hfit hcl
  generalize hn : wd r = n at *
  have hn2 : 1 ≤ n ∧ n ≤ 2 := by omega
  have HU := Lib.hid (show adv ⟨gw, gh, l1, 0, y1, false⟩ r = ⟨gw, gh, putL gw l1 0 y1 r, 0 + n, y1, false⟩ by unfold adv; simp only; rw [hwd, if_neg (by simpa using he)])
  rw [HU.out]
  have HN := Lib.hid hn
  have HT := Lib.hid (fun (w' : World) hb => T.below (w' := w') hb)
  have HSP := Lib.hid (fun (w' : World) hb => S.below (w' := w') hb)
  clear hn hcl hwd hv hro hdn T S hs
  have d1 : decide (gw < x + n) = true := by rw [decide_eq_true_iff]; omega
  have d2 : (n == gw) = false := by rw [beq_eq_false_iff_ne]; omega
  have HE := Lib.hid he
  clear he
  go_enter Tryd.func50, Tryd.ntmps50
  go_wp2_with fail
  refine (width_any r _ (HSP.out _ hb0)).mono ?_
  rintro e w1 ⟨rfl, hw1⟩
  rw [HN.out]
  have HB1 := Lib.hid (hb0.trans (hw1.mono hb0.size))
  have g0 := carry hw1 G0.out
  have g1 := carry hw1 G1.out
  have g2 := carry hw1 G2.out
  have hz1 : W.heap.size + 1 + 1 + 1 ≤ w1.heap.size := by have := hw1.size; rw [hz3] at this; exact this
  have HV1 := Lib.hid (HV.out.below hw1)
  clear hw1 hb0 hz3
  have K0 := Lib.hid g0
  have K1 := Lib.hid g1
  have K2 := Lib.hid g2
  obtain ⟨⟨c0, c1, c2, c3, c4, c5⟩, ⟨f0, f1, f2, f3, f4, f5⟩, z0⟩ := blk6 g0
  have r3 := cell_of_row _ _ 3 _ _ (0, 0) g1
  have z1 : W.heap.size + 1 < w1.heap.size := by omega
  clear g0 g1 g2
  go_wp2_with fail
  have hws : Below W.heap.size W (w1.setCell ⟨W.heap.size, 3, none⟩ (.int .i64 0)) := HB1.out.setCell (by simp) _
  refine (below_any gw gh 0 y false l hR0.out ⟨hy0, hy1⟩ A cap _ (HV0.out.below hws) (HSP.out _ hws) (HT.out _ hws)).mono ?_
  rintro e w2 ⟨ho, hw2⟩
  rw [HDN.out] at ho
  have hz2 : W.heap.size + 1 + 1 + 1 ≤ w2.heap.size := by have := hw2.size; simp at this; omega
  have HB2 := hws.trans (hw2.mono hws.size)
  obtain ⟨A1, cap1, rfl, hk⟩ := ho.op (HV0.out.below HB2)
  have g0 := carry hw2 (heap_setCell_same _ _ 3 _ _ (.int .i64 0) K0.out)
  have g1 := carry hw2 ((heap_setCell_other _ ⟨W.heap.size, 3, none⟩ _ (.int .i64 0) (by simp)).trans K1.out)
  have g2 := carry hw2 ((heap_setCell_other _ ⟨W.heap.size, 3, none⟩ _ (.int .i64 0) (by simp; omega)).trans K2.out)
  have L0 := Lib.hid g0
  have L1 := Lib.hid g1
  have L2 := Lib.hid g2
  have hk' := hk.mono (B' := W.heap.size + 1 + 1 + 1) (by simp; omega)
  have HK := Lib.hid hk'
  have HB2 := Lib.hid HB2
  clear c0 c1 c2 c3 c4 c5 f0 f1 f2 f3 f4 f5 z0 z1 r3 ho hw2 hws hk hk'
  obtain ⟨⟨c0, c1, c2, c3, c4, c5⟩, ⟨f0, f1, f2, f3, f4, f5⟩, z0⟩ := blk6 g0
  clear g0 g1 g2
  go_upto_region 5 with fail
  obtain ⟨w5, hw5⟩ : ∃ w5, w5 = ((((((w2.setCell ⟨W.heap.size, 0, none⟩ (.int .i64 gw)).setCell ⟨W.heap.size, 1, none⟩ (.int .i64 gh)).setCell ⟨W.heap.size, 2, none⟩ (.slice A1 l1.length cap1)).setCell ⟨W.heap.size, 3, none⟩ (.int .i64 0)).setCell ⟨W.heap.size, 4, none⟩ (.int .i64 y1)).setCell ⟨W.heap.size, 5, none⟩ (.bool false)) := ⟨_, rfl⟩
  rw [← hw5]
  have g0 : w5.heap[W.heap.size]? = some (.cells #[.int .i64 gw, .int .i64 gh, .slice A1 l1.length cap1, .int .i64 0, .int .i64 y1, .bool false] 71 (0, 0)) := by rw [hw5]; exact set6 L0.out _ _ _ _ _ _
  have g1 : w5.heap[W.heap.size + 1]? = some (.cells #[.int .i64 kk, .int .i64 a, .int .i64 b, .int .i32 r] 36 (0, 0)) := by rw [hw5]; exact other6 L1.out (by omega) _ _ _ _ _ _
  have g2 : w5.heap[W.heap.size + 1 + 1]? = some (.cells #[.int .i64 0, .int .i64 0, .slice none 0 0, .int .i64 0, .int .i64 0, .bool false] 71 (0, 0)) := by rw [hw5]; exact other6 L2.out (by omega) _ _ _ _ _ _
  have hk5 : Kp (W.heap.size + 1 + 1 + 1) (.slice A l.length cap) l w5 (.slice A1 l1.length cap1) l1 := by
    rw [hw5]
    have HO' := HK.out
    repeat (first | (with_reducible exact HO') | refine Kp.set1 ?_ _ _ _ (by omega))
  have hb5 : Below W.heap.size W w5 := by
    rw [hw5]
    repeat (first | (with_reducible exact HB2.out) | refine Below.setCell ?_ (by simp) _)
  have hz5 : W.heap.size + 1 + 1 + 1 ≤ w5.heap.size := by rw [hw5]; simp; omega
  have HRC := Lib.hid (hk5.rc (HV0.out.below hb5))
  have HBB := Lib.hid hb5
  have K0 := Lib.hid g0
  have K2 := Lib.hid g2
  have r3 := cell_of_row _ _ 3 _ _ (0, 0) g1
  have z1 : W.heap.size + 1 < w5.heap.size := by omega
  clear hw5 hk5 hb5 c0 c1 c2 c3 c4 c5 f0 f1 f2 f3 f4 f5 z0
  obtain ⟨⟨c0, c1, c2, c3, c4, c5⟩, ⟨f0, f1, f2, f3, f4, f5⟩, z0⟩ := blk6 g0
  clear g0 g1 g2
  go_wp2_with fail
  refine (gput_any gw gh 0 y1 r _ l1 _ (HRC.out).rw (by unfold maxLen; omega) (HSP.out _ (HBB.out)) (HT.out _ (HBB.out))).mono ?_
  rintro e w3 ⟨ho, hw3⟩
  obtain ⟨v', rfl, hown⟩ := ho.is HP.out
  obtain ⟨g, cap', rfl, hcap', hrow⟩ := hown
  have HB3 := Lib.hid ((HBB.out).trans (hw3.mono (HBB.out).size))
  have HO := Lib.hid ((Own.sh rfl hcap' hrow).mono (B' := W.heap.size + 1 + 1 + 1) (by omega))
  have g0 := carry hw3 K0.out
  have g2 := carry hw3 K2.out
  clear hrow c0 c1 c2 c3 c4 c5 f0 f1 f2 f3 f4 f5 z0 z1 r3 ho hw3
  obtain ⟨⟨c0, c1, c2, c3, c4, c5⟩, ⟨f0, f1, f2, f3, f4, f5⟩, z0⟩ := blk6 g0
  obtain ⟨⟨k0, k1, k2, k3, k4, k5⟩, ⟨e0, e1, e2, e3, e4, e5⟩, z2⟩ := blk6 g2
  have Q0 := Lib.hid g0
  have Q2 := Lib.hid g2
  clear g0 g2
  generalize hN : (putL gw l1 0 y1 r).length = N at *
  go_upto_region 10 with fail
  obtain ⟨w4, hw4⟩ : ∃ w4, w4 = (((((w3.setCell ⟨W.heap.size, 0, none⟩ (.int .i64 gw)).setCell ⟨W.heap.size, 1, none⟩ (.int .i64 gh)).setCell ⟨W.heap.size, 2, none⟩ (.slice (some ⟨g, 0, none⟩) N cap')).setCell ⟨W.heap.size, 3, none⟩ (.int .i64 (n))).setCell ⟨W.heap.size, 5, none⟩ (.bool false)) := ⟨_, rfl⟩
  rw [← hw4]
  have q0 : w4.heap[W.heap.size]? = some (.cells #[.int .i64 gw, .int .i64 gh, .slice (some ⟨g, 0, none⟩) N cap', .int .i64 (n), .int .i64 y1, .bool false] 71 (0, 0)) := by rw [hw4]; exact set5 Q0.out _ _ _ _ _
  have q2 : w4.heap[W.heap.size + 1 + 1]? = some (.cells #[.int .i64 0, .int .i64 0, .slice none 0 0, .int .i64 0, .int .i64 0, .bool false] 71 (0, 0)) := by rw [hw4]; exact other5 Q2.out (by omega) _ _ _ _ _
  have HO4 : Own (W.heap.size + 1 + 1 + 1) w4 (.slice (some ⟨g, 0, none⟩) N cap') (putL gw l1 0 y1 r) := by
    rw [hw4]
    have HO' := HO.out
    repeat (first | (with_reducible exact HO') | refine Own.set1 ?_ _ _ _ (by omega))
  have HB4 : Below W.heap.size W w4 := by
    rw [hw4]
    repeat (first | (with_reducible exact HB3.out) | refine Below.setCell ?_ (by simp) _)
  have HO5 := Lib.hid HO4
  have HB5 := Lib.hid HB4
  clear hw4 HO4 HB4 c0 c1 c2 c3 c4 c5 f0 f1 f2 f3 f4 f5 k0 k1 k2 k3 k4 k5 e0 e1 e2 e3 e4 e5 z0 z2
  obtain ⟨⟨c0, c1, c2, c3, c4, c5⟩, ⟨f0, f1, f2, f3, f4, f5⟩, z0⟩ := blk6 q0
  obtain ⟨⟨k0, k1, k2, k3, k4, k5⟩, ⟨e0, e1, e2, e3, e4, e5⟩, z2⟩ := blk6 q2
  clear q0 q2
  go_wp2
  refine bodyPost_ret (v := .agg #[.int .i64 gw, .int .i64 gh, .slice (some ⟨g, 0, none⟩) N cap', .int .i64 (n), .int .i64 y1, .bool false]) (by simp [results, Tryd.results50, go_sem, *]) rfl ⟨TO.of (by rw [Int.zero_add]) rfl ?_, ?_⟩
  · refine .inr (Own.mono (B := W.heap.size + 1 + 1 + 1) ?_ (by omega))
    have HO' := HO5.out
    repeat (first | (with_reducible exact HO') | refine Own.set1 ?_ _ _ _ (by omega))
  · repeat (first | (with_reducible exact HB5.out) | refine Below.setCell ?_ (by simp; omega) _)
set_option maxHeartbeats 8000000 in
theorem text_row_end (gw gh x y kk a b r : Int) (l : List (Int × Int)) (h : rt ⟨gw, gh, l, x, y, false⟩) (hs : shw r = true) (hkw : gw < x + wd r) (he : 0 + wd r = gw) (A : Option Addr) (cap : Nat) (W : World) (hv : Rc W (.slice A l.length cap) l) (S : Spans W 2) (T : Blk W 0) :
    Calls Tryd.prog 50 #[.agg #[.int .i64 gw, .int .i64 gh, .slice A l.length cap, .int .i64 x, .int .i64 y, .bool false], .agg #[.int .i64 kk, .int .i64 a, .int .i64 b, .int .i32 r]] W fun e w' => TO W.heap.size (.slice A l.length cap) l w' e (tx ⟨gw, gh, l, x, y, false⟩ r) ∧ Below W.heap.size W w' := by
  have hb0 : Below W.heap.size W (((W.alloc (.cells #[.int .i64 gw, .int .i64 gh, .slice A l.length cap, .int .i64 x, .int .i64 y, .bool false] 71)).alloc (.cells #[.int .i64 kk, .int .i64 a, .int .i64 b, .int .i32 r] 36)).alloc (.cells #[.int .i64 0, .int .i64 0, .slice none 0 0, .int .i64 0, .int .i64 0, .bool false] 71)) := (((Below.refl _ _).alloc (Nat.le_refl _) _).alloc (by simp) _).alloc (by simp; omega) _
  have HV := Lib.hid (hv.below hb0)
  have HV0 := Lib.hid hv
  have hz3 : (((W.alloc (.cells #[.int .i64 gw, .int .i64 gh, .slice A l.length cap, .int .i64 x, .int .i64 y, .bool false] 71)).alloc (.cells #[.int .i64 kk, .int .i64 a, .int .i64 b, .int .i32 r] 36)).alloc (.cells #[.int .i64 0, .int .i64 0, .slice none 0 0, .int .i64 0, .int .i64 0, .bool false] 71)).heap.size = W.heap.size + 1 + 1 + 1 := by simp
  have G0 := Lib.hid (carryA (.cells #[.int .i64 0, .int .i64 0, .slice none 0 0, .int .i64 0, .int .i64 0, .bool false] 71) (carryA (.cells #[.int .i64 kk, .int .i64 a, .int .i64 b, .int .i32 r] 36) (heap_alloc_new W (.cells #[.int .i64 gw, .int .i64 gh, .slice A l.length cap, .int .i64 x, .int .i64 y, .bool false] 71))))
  have G1 := Lib.hid (carryA (.cells #[.int .i64 0, .int .i64 0, .slice none 0 0, .int .i64 0, .int .i64 0, .bool false] 71) (heap_alloc_new (W.alloc (.cells #[.int .i64 gw, .int .i64 gh, .slice A l.length cap, .int .i64 x, .int .i64 y, .bool false] 71)) (.cells #[.int .i64 kk, .int .i64 a, .int .i64 b, .int .i32 r] 36)))
  have G2 := Lib.hid (heap_alloc_new ((W.alloc (.cells #[.int .i64 gw, .int .i64 gh, .slice A l.length cap, .int .i64 x, .int .i64 y, .bool false] 71)).alloc (.cells #[.int .i64 kk, .int .i64 a, .int .i64 b, .int .i32 r] 36)) (.cells #[.int .i64 0, .int .i64 0, .slice none 0 0, .int .i64 0, .int .i64 0, .bool false] 71))
  rw [show (W.alloc (.cells #[.int .i64 gw, .int .i64 gh, .slice A l.length cap, .int .i64 x, .int .i64 y, .bool false] 71)).heap.size = W.heap.size + 1 by simp] at G1
  rw [show ((W.alloc (.cells #[.int .i64 gw, .int .i64 gh, .slice A l.length cap, .int .i64 x, .int .i64 y, .bool false] 71)).alloc (.cells #[.int .i64 kk, .int .i64 a, .int .i64 b, .int .i32 r] 36)).heap.size = W.heap.size + 1 + 1 by simp] at G2
  have hcl := cl_w hs
  have hrw := rowed_rt (r := r) h hs
  unfold tx
  have hro : rowed ⟨gw, gh, l, x, y, false⟩ r = { dn ⟨gw, gh, l, x, y, false⟩ with x := 0 } := by unfold rowed; rw [if_pos (.inr hkw)]
  rw [hro] at hrw ⊢
  have HDN := Lib.hid (show dn ⟨gw, gh, l, 0, y, false⟩ = { dn ⟨gw, gh, l, x, y, false⟩ with x := 0 } by unfold dn; split <;> rfl)
  obtain ⟨l1, y1, hdn⟩ := dn_form gw gh x y l false
  rw [hdn] at hrw HDN ⊢
  simp only at hrw ⊢
  obtain ⟨hr1, hfit, -, -⟩ := hrw
  have HP := Lib.hid (put_may hr1 hs hfit)
  have hl1 := right_len hr1.1
  have hsd := hr1.1.1
  have hR0 := Lib.hid h.1
  obtain ⟨-, hx0, hx1, hy0, hy1, -⟩ := h
  obtain ⟨-, -, hqx, hqy0, hqy1, -⟩ := hr1
  simp only at hx0 hx1 hy0 hy1 hl1 hsd HP hqx hqy0 hqy1
  have hwd : wd' r = wd r := rfl
  rw [hwd] at hfit hcl
  generalize hn : wd r = n at *
  have hn2 : 1 ≤ n ∧ n ≤ 2 := by omega
  have HU := Lib.hid (show adv ⟨gw, gh, l1, 0, y1, false⟩ r = ⟨gw, gh, putL gw l1 0 y1 r, gw - 1, y1, true⟩ by unfold adv; simp only; rw [hwd, if_pos (by simpa using he)])
  rw [HU.out]
  have HN := Lib.hid hn
  have HT := Lib.hid (fun (w' : World) hb => T.below (w' := w') hb)
  have HSP := Lib.hid (fun (w' : World) hb => S.below (w' := w') hb)
  clear hn hcl hwd hv hro hdn T S hs
  have d1 : decide (gw < x + n) = true := by rw [decide_eq_true_iff]; omega
  have d2 : (n == gw) = true := by rw [beq_iff_eq]; omega
  have HE := Lib.hid he
  clear he
  go_enter Tryd.func50, Tryd.ntmps50
  go_wp2_with fail
  refine (width_any r _ (HSP.out _ hb0)).mono ?_
  rintro e w1 ⟨rfl, hw1⟩
  rw [HN.out]
  have HB1 := Lib.hid (hb0.trans (hw1.mono hb0.size))
  have g0 := carry hw1 G0.out
  have g1 := carry hw1 G1.out
  have g2 := carry hw1 G2.out
  have hz1 : W.heap.size + 1 + 1 + 1 ≤ w1.heap.size := by have := hw1.size; rw [hz3] at this; exact this
  have HV1 := Lib.hid (HV.out.below hw1)
  clear hw1 hb0 hz3
  have K0 := Lib.hid g0
  have K1 := Lib.hid g1
  have K2 := Lib.hid g2
  obtain ⟨⟨c0, c1, c2, c3, c4, c5⟩, ⟨f0, f1, f2, f3, f4, f5⟩, z0⟩ := blk6 g0
  have r3 := cell_of_row _ _ 3 _ _ (0, 0) g1
  have z1 : W.heap.size + 1 < w1.heap.size := by omega
  clear g0 g1 g2
  go_wp2_with fail
  have hws : Below W.heap.size W (w1.setCell ⟨W.heap.size, 3, none⟩ (.int .i64 0)) := HB1.out.setCell (by simp) _
  refine (below_any gw gh 0 y false l hR0.out ⟨hy0, hy1⟩ A cap _ (HV0.out.below hws) (HSP.out _ hws) (HT.out _ hws)).mono ?_
  rintro e w2 ⟨ho, hw2⟩
  rw [HDN.out] at ho
  have hz2 : W.heap.size + 1 + 1 + 1 ≤ w2.heap.size := by have := hw2.size; simp at this; omega
  have HB2 := hws.trans (hw2.mono hws.size)
  obtain ⟨A1, cap1, rfl, hk⟩ := ho.op (HV0.out.below HB2)
  have g0 := carry hw2 (heap_setCell_same _ _ 3 _ _ (.int .i64 0) K0.out)
  have g1 := carry hw2 ((heap_setCell_other _ ⟨W.heap.size, 3, none⟩ _ (.int .i64 0) (by simp)).trans K1.out)
  have g2 := carry hw2 ((heap_setCell_other _ ⟨W.heap.size, 3, none⟩ _ (.int .i64 0) (by simp; omega)).trans K2.out)
  have L0 := Lib.hid g0
  have L1 := Lib.hid g1
  have L2 := Lib.hid g2
  have hk' := hk.mono (B' := W.heap.size + 1 + 1 + 1) (by simp; omega)
  have HK := Lib.hid hk'
  have HB2 := Lib.hid HB2
  clear c0 c1 c2 c3 c4 c5 f0 f1 f2 f3 f4 f5 z0 z1 r3 ho hw2 hws hk hk'
  obtain ⟨⟨c0, c1, c2, c3, c4, c5⟩, ⟨f0, f1, f2, f3, f4, f5⟩, z0⟩ := blk6 g0
  clear g0 g1 g2
  go_upto_region 5 with fail
  obtain ⟨w5, hw5⟩ : ∃ w5, w5 = ((((((w2.setCell ⟨W.heap.size, 0, none⟩ (.int .i64 gw)).setCell ⟨W.heap.size, 1, none⟩ (.int .i64 gh)).setCell ⟨W.heap.size, 2, none⟩ (.slice A1 l1.length cap1)).setCell ⟨W.heap.size, 3, none⟩ (.int .i64 0)).setCell ⟨W.heap.size, 4, none⟩ (.int .i64 y1)).setCell ⟨W.heap.size, 5, none⟩ (.bool false)) := ⟨_, rfl⟩
  rw [← hw5]
  have g0 : w5.heap[W.heap.size]? = some (.cells #[.int .i64 gw, .int .i64 gh, .slice A1 l1.length cap1, .int .i64 0, .int .i64 y1, .bool false] 71 (0, 0)) := by rw [hw5]; exact set6 L0.out _ _ _ _ _ _
  have g1 : w5.heap[W.heap.size + 1]? = some (.cells #[.int .i64 kk, .int .i64 a, .int .i64 b, .int .i32 r] 36 (0, 0)) := by rw [hw5]; exact other6 L1.out (by omega) _ _ _ _ _ _
  have g2 : w5.heap[W.heap.size + 1 + 1]? = some (.cells #[.int .i64 0, .int .i64 0, .slice none 0 0, .int .i64 0, .int .i64 0, .bool false] 71 (0, 0)) := by rw [hw5]; exact other6 L2.out (by omega) _ _ _ _ _ _
  have hk5 : Kp (W.heap.size + 1 + 1 + 1) (.slice A l.length cap) l w5 (.slice A1 l1.length cap1) l1 := by
    rw [hw5]
    have HO' := HK.out
    repeat (first | (with_reducible exact HO') | refine Kp.set1 ?_ _ _ _ (by omega))
  have hb5 : Below W.heap.size W w5 := by
    rw [hw5]
    repeat (first | (with_reducible exact HB2.out) | refine Below.setCell ?_ (by simp) _)
  have hz5 : W.heap.size + 1 + 1 + 1 ≤ w5.heap.size := by rw [hw5]; simp; omega
  have HRC := Lib.hid (hk5.rc (HV0.out.below hb5))
  have HBB := Lib.hid hb5
  have K0 := Lib.hid g0
  have K2 := Lib.hid g2
  have r3 := cell_of_row _ _ 3 _ _ (0, 0) g1
  have z1 : W.heap.size + 1 < w5.heap.size := by omega
  clear hw5 hk5 hb5 c0 c1 c2 c3 c4 c5 f0 f1 f2 f3 f4 f5 z0
  obtain ⟨⟨c0, c1, c2, c3, c4, c5⟩, ⟨f0, f1, f2, f3, f4, f5⟩, z0⟩ := blk6 g0
  clear g0 g1 g2
  go_wp2_with fail
  refine (gput_any gw gh 0 y1 r _ l1 _ (HRC.out).rw (by unfold maxLen; omega) (HSP.out _ (HBB.out)) (HT.out _ (HBB.out))).mono ?_
  rintro e w3 ⟨ho, hw3⟩
  obtain ⟨v', rfl, hown⟩ := ho.is HP.out
  obtain ⟨g, cap', rfl, hcap', hrow⟩ := hown
  have HB3 := Lib.hid ((HBB.out).trans (hw3.mono (HBB.out).size))
  have HO := Lib.hid ((Own.sh rfl hcap' hrow).mono (B' := W.heap.size + 1 + 1 + 1) (by omega))
  have g0 := carry hw3 K0.out
  have g2 := carry hw3 K2.out
  clear hrow c0 c1 c2 c3 c4 c5 f0 f1 f2 f3 f4 f5 z0 z1 r3 ho hw3
  obtain ⟨⟨c0, c1, c2, c3, c4, c5⟩, ⟨f0, f1, f2, f3, f4, f5⟩, z0⟩ := blk6 g0
  obtain ⟨⟨k0, k1, k2, k3, k4, k5⟩, ⟨e0, e1, e2, e3, e4, e5⟩, z2⟩ := blk6 g2
  have Q0 := Lib.hid g0
  have Q2 := Lib.hid g2
  clear g0 g2
  generalize hN : (putL gw l1 0 y1 r).length = N at *
  go_upto_region 10 with fail
  obtain ⟨w4, hw4⟩ : ∃ w4, w4 = ((((((w3.setCell ⟨W.heap.size, 0, none⟩ (.int .i64 gw)).setCell ⟨W.heap.size, 1, none⟩ (.int .i64 gh)).setCell ⟨W.heap.size, 2, none⟩ (.slice (some ⟨g, 0, none⟩) N cap')).setCell ⟨W.heap.size, 3, none⟩ (.int .i64 (n))).setCell ⟨W.heap.size, 5, none⟩ (.bool true)).setCell ⟨W.heap.size, 3, none⟩ (.int .i64 (n - 1))) := ⟨_, rfl⟩
  rw [← hw4]
  have q0 : w4.heap[W.heap.size]? = some (.cells #[.int .i64 gw, .int .i64 gh, .slice (some ⟨g, 0, none⟩) N cap', .int .i64 (n - 1), .int .i64 y1, .bool true] 71 (0, 0)) := by rw [hw4]; exact heap_setCell_same _ _ 3 _ _ _ (set5 Q0.out _ _ _ _ _)
  have q2 : w4.heap[W.heap.size + 1 + 1]? = some (.cells #[.int .i64 0, .int .i64 0, .slice none 0 0, .int .i64 0, .int .i64 0, .bool false] 71 (0, 0)) := by rw [hw4]; exact (heap_setCell_other _ _ _ _ (by simp; omega)).trans (other5 Q2.out (by omega) _ _ _ _ _)
  have HO4 : Own (W.heap.size + 1 + 1 + 1) w4 (.slice (some ⟨g, 0, none⟩) N cap') (putL gw l1 0 y1 r) := by
    rw [hw4]
    have HO' := HO.out
    repeat (first | (with_reducible exact HO') | refine Own.set1 ?_ _ _ _ (by omega))
  have HB4 : Below W.heap.size W w4 := by
    rw [hw4]
    repeat (first | (with_reducible exact HB3.out) | refine Below.setCell ?_ (by simp) _)
  have HO5 := Lib.hid HO4
  have HB5 := Lib.hid HB4
  clear hw4 HO4 HB4 c0 c1 c2 c3 c4 c5 f0 f1 f2 f3 f4 f5 k0 k1 k2 k3 k4 k5 e0 e1 e2 e3 e4 e5 z0 z2
  obtain ⟨⟨c0, c1, c2, c3, c4, c5⟩, ⟨f0, f1, f2, f3, f4, f5⟩, z0⟩ := blk6 q0
  obtain ⟨⟨k0, k1, k2, k3, k4, k5⟩, ⟨e0, e1, e2, e3, e4, e5⟩, z2⟩ := blk6 q2
  clear q0 q2
  go_wp2
  refine bodyPost_ret (v := .agg #[.int .i64 gw, .int .i64 gh, .slice (some ⟨g, 0, none⟩) N cap', .int .i64 (n - 1), .int .i64 y1, .bool true]) (by simp [results, Tryd.results50, go_sem, *]) rfl ⟨TO.of (by rw [show gw - 1 = n - 1 by have := HE.out; omega]) rfl ?_, ?_⟩
  · refine .inr (Own.mono (B := W.heap.size + 1 + 1 + 1) ?_ (by omega))
    have HO' := HO5.out
    repeat (first | (with_reducible exact HO') | refine Own.set1 ?_ _ _ _ (by omega))
  · repeat (first | (with_reducible exact HB5.out) | refine Below.setCell ?_ (by simp; omega) _)
set_option maxHeartbeats 8000000 in
theorem text_wrap_no (gw gh x y kk a b r : Int) (l : List (Int × Int)) (h : rt ⟨gw, gh, l, x, y, true⟩) (hs : shw r = true) (hkw : gw < gw + 1) (he : 0 + wd r ≠ gw) (A : Option Addr) (cap : Nat) (W : World) (hv : Rc W (.slice A l.length cap) l) (S : Spans W 2) (T : Blk W 0) :
    Calls Tryd.prog 50 #[.agg #[.int .i64 gw, .int .i64 gh, .slice A l.length cap, .int .i64 x, .int .i64 y, .bool true], .agg #[.int .i64 kk, .int .i64 a, .int .i64 b, .int .i32 r]] W fun e w' => TO W.heap.size (.slice A l.length cap) l w' e (tx ⟨gw, gh, l, x, y, true⟩ r) ∧ Below W.heap.size W w' := by
  have hb0 : Below W.heap.size W (((W.alloc (.cells #[.int .i64 gw, .int .i64 gh, .slice A l.length cap, .int .i64 x, .int .i64 y, .bool true] 71)).alloc (.cells #[.int .i64 kk, .int .i64 a, .int .i64 b, .int .i32 r] 36)).alloc (.cells #[.int .i64 0, .int .i64 0, .slice none 0 0, .int .i64 0, .int .i64 0, .bool false] 71)) := (((Below.refl _ _).alloc (Nat.le_refl _) _).alloc (by simp) _).alloc (by simp; omega) _
  have HV := Lib.hid (hv.below hb0)
  have HV0 := Lib.hid hv
  have hz3 : (((W.alloc (.cells #[.int .i64 gw, .int .i64 gh, .slice A l.length cap, .int .i64 x, .int .i64 y, .bool true] 71)).alloc (.cells #[.int .i64 kk, .int .i64 a, .int .i64 b, .int .i32 r] 36)).alloc (.cells #[.int .i64 0, .int .i64 0, .slice none 0 0, .int .i64 0, .int .i64 0, .bool false] 71)).heap.size = W.heap.size + 1 + 1 + 1 := by simp
  have G0 := Lib.hid (carryA (.cells #[.int .i64 0, .int .i64 0, .slice none 0 0, .int .i64 0, .int .i64 0, .bool false] 71) (carryA (.cells #[.int .i64 kk, .int .i64 a, .int .i64 b, .int .i32 r] 36) (heap_alloc_new W (.cells #[.int .i64 gw, .int .i64 gh, .slice A l.length cap, .int .i64 x, .int .i64 y, .bool true] 71))))
  have G1 := Lib.hid (carryA (.cells #[.int .i64 0, .int .i64 0, .slice none 0 0, .int .i64 0, .int .i64 0, .bool false] 71) (heap_alloc_new (W.alloc (.cells #[.int .i64 gw, .int .i64 gh, .slice A l.length cap, .int .i64 x, .int .i64 y, .bool true] 71)) (.cells #[.int .i64 kk, .int .i64 a, .int .i64 b, .int .i32 r] 36)))
  have G2 := Lib.hid (heap_alloc_new ((W.alloc (.cells #[.int .i64 gw, .int .i64 gh, .slice A l.length cap, .int .i64 x, .int .i64 y, .bool true] 71)).alloc (.cells #[.int .i64 kk, .int .i64 a, .int .i64 b, .int .i32 r] 36)) (.cells #[.int .i64 0, .int .i64 0, .slice none 0 0, .int .i64 0, .int .i64 0, .bool false] 71))
  rw [show (W.alloc (.cells #[.int .i64 gw, .int .i64 gh, .slice A l.length cap, .int .i64 x, .int .i64 y, .bool true] 71)).heap.size = W.heap.size + 1 by simp] at G1
  rw [show ((W.alloc (.cells #[.int .i64 gw, .int .i64 gh, .slice A l.length cap, .int .i64 x, .int .i64 y, .bool true] 71)).alloc (.cells #[.int .i64 kk, .int .i64 a, .int .i64 b, .int .i32 r] 36)).heap.size = W.heap.size + 1 + 1 by simp] at G2
  have hcl := cl_w hs
  have hrw := rowed_rt (r := r) h hs
  unfold tx
  have hro : rowed ⟨gw, gh, l, x, y, true⟩ r = { dn ⟨gw, gh, l, x, y, true⟩ with x := 0 } := by unfold rowed; rw [if_pos (.inl rfl)]
  rw [hro] at hrw ⊢
  have HDN := Lib.hid (show dn ⟨gw, gh, l, 0, y, true⟩ = { dn ⟨gw, gh, l, x, y, true⟩ with x := 0 } by unfold dn; split <;> rfl)
  obtain ⟨l1, y1, hdn⟩ := dn_form gw gh x y l true
  rw [hdn] at hrw HDN ⊢
  simp only at hrw ⊢
  obtain ⟨hr1, hfit, -, -⟩ := hrw
  have HP := Lib.hid (put_may hr1 hs hfit)
  have hl1 := right_len hr1.1
  have hsd := hr1.1.1
  have hR0 := Lib.hid h.1
  obtain ⟨-, hx0, hx1, hy0, hy1, -⟩ := h
  obtain ⟨-, -, hqx, hqy0, hqy1, -⟩ := hr1
  simp only at hx0 hx1 hy0 hy1 hl1 hsd HP hqx hqy0 hqy1
  have hwd : wd' r = wd r := rfl
  rw [hwd] at hfit hcl
  generalize hn : wd r = n at *
  have hn2 : 1 ≤ n ∧ n ≤ 2 := by omega
  have HU := Lib.hid (show adv ⟨gw, gh, l1, 0, y1, true⟩ r = ⟨gw, gh, putL gw l1 0 y1 r, 0 + n, y1, false⟩ by unfold adv; simp only; rw [hwd, if_neg (by simpa using he)])
  rw [HU.out]
  have HN := Lib.hid hn
  have HT := Lib.hid (fun (w' : World) hb => T.below (w' := w') hb)
  have HSP := Lib.hid (fun (w' : World) hb => S.below (w' := w') hb)
  clear hn hcl hwd hv hro hdn T S hs
  have d2 : (n == gw) = false := by rw [beq_eq_false_iff_ne]; omega
  have HE := Lib.hid he
  clear he hkw
  go_enter Tryd.func50, Tryd.ntmps50
  go_wp2_with fail
  refine (width_any r _ (HSP.out _ hb0)).mono ?_
  rintro e w1 ⟨rfl, hw1⟩
  rw [HN.out]
  have HB1 := Lib.hid (hb0.trans (hw1.mono hb0.size))
  have g0 := carry hw1 G0.out
  have g1 := carry hw1 G1.out
  have g2 := carry hw1 G2.out
  have hz1 : W.heap.size + 1 + 1 + 1 ≤ w1.heap.size := by have := hw1.size; rw [hz3] at this; exact this
  have HV1 := Lib.hid (HV.out.below hw1)
  clear hw1 hb0 hz3
  have K0 := Lib.hid g0
  have K1 := Lib.hid g1
  have K2 := Lib.hid g2
  obtain ⟨⟨c0, c1, c2, c3, c4, c5⟩, ⟨f0, f1, f2, f3, f4, f5⟩, z0⟩ := blk6 g0
  have r3 := cell_of_row _ _ 3 _ _ (0, 0) g1
  have z1 : W.heap.size + 1 < w1.heap.size := by omega
  clear g0 g1 g2
  go_wp2_with fail
  have hws : Below W.heap.size W (w1.setCell ⟨W.heap.size, 3, none⟩ (.int .i64 0)) := HB1.out.setCell (by simp) _
  refine (below_any gw gh 0 y true l hR0.out ⟨hy0, hy1⟩ A cap _ (HV0.out.below hws) (HSP.out _ hws) (HT.out _ hws)).mono ?_
  rintro e w2 ⟨ho, hw2⟩
  rw [HDN.out] at ho
  have hz2 : W.heap.size + 1 + 1 + 1 ≤ w2.heap.size := by have := hw2.size; simp at this; omega
  have HB2 := hws.trans (hw2.mono hws.size)
  obtain ⟨A1, cap1, rfl, hk⟩ := ho.op (HV0.out.below HB2)
  have g0 := carry hw2 (heap_setCell_same _ _ 3 _ _ (.int .i64 0) K0.out)
  have g1 := carry hw2 ((heap_setCell_other _ ⟨W.heap.size, 3, none⟩ _ (.int .i64 0) (by simp)).trans K1.out)
  have g2 := carry hw2 ((heap_setCell_other _ ⟨W.heap.size, 3, none⟩ _ (.int .i64 0) (by simp; omega)).trans K2.out)
  have L0 := Lib.hid g0
  have L1 := Lib.hid g1
  have L2 := Lib.hid g2
  have hk' := hk.mono (B' := W.heap.size + 1 + 1 + 1) (by simp; omega)
  have HK := Lib.hid hk'
  have HB2 := Lib.hid HB2
  clear c0 c1 c2 c3 c4 c5 f0 f1 f2 f3 f4 f5 z0 z1 r3 ho hw2 hws hk hk'
  obtain ⟨⟨c0, c1, c2, c3, c4, c5⟩, ⟨f0, f1, f2, f3, f4, f5⟩, z0⟩ := blk6 g0
  clear g0 g1 g2
  go_upto_region 5 with fail
  obtain ⟨w5, hw5⟩ : ∃ w5, w5 = ((((((w2.setCell ⟨W.heap.size, 0, none⟩ (.int .i64 gw)).setCell ⟨W.heap.size, 1, none⟩ (.int .i64 gh)).setCell ⟨W.heap.size, 2, none⟩ (.slice A1 l1.length cap1)).setCell ⟨W.heap.size, 3, none⟩ (.int .i64 0)).setCell ⟨W.heap.size, 4, none⟩ (.int .i64 y1)).setCell ⟨W.heap.size, 5, none⟩ (.bool true)) := ⟨_, rfl⟩
  rw [← hw5]
  have g0 : w5.heap[W.heap.size]? = some (.cells #[.int .i64 gw, .int .i64 gh, .slice A1 l1.length cap1, .int .i64 0, .int .i64 y1, .bool true] 71 (0, 0)) := by rw [hw5]; exact set6 L0.out _ _ _ _ _ _
  have g1 : w5.heap[W.heap.size + 1]? = some (.cells #[.int .i64 kk, .int .i64 a, .int .i64 b, .int .i32 r] 36 (0, 0)) := by rw [hw5]; exact other6 L1.out (by omega) _ _ _ _ _ _
  have g2 : w5.heap[W.heap.size + 1 + 1]? = some (.cells #[.int .i64 0, .int .i64 0, .slice none 0 0, .int .i64 0, .int .i64 0, .bool false] 71 (0, 0)) := by rw [hw5]; exact other6 L2.out (by omega) _ _ _ _ _ _
  have hk5 : Kp (W.heap.size + 1 + 1 + 1) (.slice A l.length cap) l w5 (.slice A1 l1.length cap1) l1 := by
    rw [hw5]
    have HO' := HK.out
    repeat (first | (with_reducible exact HO') | refine Kp.set1 ?_ _ _ _ (by omega))
  have hb5 : Below W.heap.size W w5 := by
    rw [hw5]
    repeat (first | (with_reducible exact HB2.out) | refine Below.setCell ?_ (by simp) _)
  have hz5 : W.heap.size + 1 + 1 + 1 ≤ w5.heap.size := by rw [hw5]; simp; omega
  have HRC := Lib.hid (hk5.rc (HV0.out.below hb5))
  have HBB := Lib.hid hb5
  have K0 := Lib.hid g0
  have K2 := Lib.hid g2
  have r3 := cell_of_row _ _ 3 _ _ (0, 0) g1
  have z1 : W.heap.size + 1 < w5.heap.size := by omega
  clear hw5 hk5 hb5 c0 c1 c2 c3 c4 c5 f0 f1 f2 f3 f4 f5 z0
  obtain ⟨⟨c0, c1, c2, c3, c4, c5⟩, ⟨f0, f1, f2, f3, f4, f5⟩, z0⟩ := blk6 g0
  clear g0 g1 g2
  go_wp2_with fail
  refine (gput_any gw gh 0 y1 r _ l1 _ (HRC.out).rw (by unfold maxLen; omega) (HSP.out _ (HBB.out)) (HT.out _ (HBB.out))).mono ?_
  rintro e w3 ⟨ho, hw3⟩
  obtain ⟨v', rfl, hown⟩ := ho.is HP.out
  obtain ⟨g, cap', rfl, hcap', hrow⟩ := hown
  have HB3 := Lib.hid ((HBB.out).trans (hw3.mono (HBB.out).size))
  have HO := Lib.hid ((Own.sh rfl hcap' hrow).mono (B' := W.heap.size + 1 + 1 + 1) (by omega))
  have g0 := carry hw3 K0.out
  have g2 := carry hw3 K2.out
  clear hrow c0 c1 c2 c3 c4 c5 f0 f1 f2 f3 f4 f5 z0 z1 r3 ho hw3
  obtain ⟨⟨c0, c1, c2, c3, c4, c5⟩, ⟨f0, f1, f2, f3, f4, f5⟩, z0⟩ := blk6 g0
  obtain ⟨⟨k0, k1, k2, k3, k4, k5⟩, ⟨e0, e1, e2, e3, e4, e5⟩, z2⟩ := blk6 g2
  have Q0 := Lib.hid g0
  have Q2 := Lib.hid g2
  clear g0 g2
  generalize hN : (putL gw l1 0 y1 r).length = N at *
  go_upto_region 10 with fail
  obtain ⟨w4, hw4⟩ : ∃ w4, w4 = (((((w3.setCell ⟨W.heap.size, 0, none⟩ (.int .i64 gw)).setCell ⟨W.heap.size, 1, none⟩ (.int .i64 gh)).setCell ⟨W.heap.size, 2, none⟩ (.slice (some ⟨g, 0, none⟩) N cap')).setCell ⟨W.heap.size, 3, none⟩ (.int .i64 (n))).setCell ⟨W.heap.size, 5, none⟩ (.bool false)) := ⟨_, rfl⟩
  rw [← hw4]
  have q0 : w4.heap[W.heap.size]? = some (.cells #[.int .i64 gw, .int .i64 gh, .slice (some ⟨g, 0, none⟩) N cap', .int .i64 (n), .int .i64 y1, .bool false] 71 (0, 0)) := by rw [hw4]; exact set5 Q0.out _ _ _ _ _
  have q2 : w4.heap[W.heap.size + 1 + 1]? = some (.cells #[.int .i64 0, .int .i64 0, .slice none 0 0, .int .i64 0, .int .i64 0, .bool false] 71 (0, 0)) := by rw [hw4]; exact other5 Q2.out (by omega) _ _ _ _ _
  have HO4 : Own (W.heap.size + 1 + 1 + 1) w4 (.slice (some ⟨g, 0, none⟩) N cap') (putL gw l1 0 y1 r) := by
    rw [hw4]
    have HO' := HO.out
    repeat (first | (with_reducible exact HO') | refine Own.set1 ?_ _ _ _ (by omega))
  have HB4 : Below W.heap.size W w4 := by
    rw [hw4]
    repeat (first | (with_reducible exact HB3.out) | refine Below.setCell ?_ (by simp) _)
  have HO5 := Lib.hid HO4
  have HB5 := Lib.hid HB4
  clear hw4 HO4 HB4 c0 c1 c2 c3 c4 c5 f0 f1 f2 f3 f4 f5 k0 k1 k2 k3 k4 k5 e0 e1 e2 e3 e4 e5 z0 z2
  obtain ⟨⟨c0, c1, c2, c3, c4, c5⟩, ⟨f0, f1, f2, f3, f4, f5⟩, z0⟩ := blk6 q0
  obtain ⟨⟨k0, k1, k2, k3, k4, k5⟩, ⟨e0, e1, e2, e3, e4, e5⟩, z2⟩ := blk6 q2
  clear q0 q2
  go_wp2
  refine bodyPost_ret (v := .agg #[.int .i64 gw, .int .i64 gh, .slice (some ⟨g, 0, none⟩) N cap', .int .i64 (n), .int .i64 y1, .bool false]) (by simp [results, Tryd.results50, go_sem, *]) rfl ⟨TO.of (by rw [Int.zero_add]) rfl ?_, ?_⟩
  · refine .inr (Own.mono (B := W.heap.size + 1 + 1 + 1) ?_ (by omega))
    have HO' := HO5.out
    repeat (first | (with_reducible exact HO') | refine Own.set1 ?_ _ _ _ (by omega))
  · repeat (first | (with_reducible exact HB5.out) | refine Below.setCell ?_ (by simp; omega) _)
set_option maxHeartbeats 8000000 in
theorem text_wrap_end (gw gh x y kk a b r : Int) (l : List (Int × Int)) (h : rt ⟨gw, gh, l, x, y, true⟩) (hs : shw r = true) (hkw : gw < gw + 1) (he : 0 + wd r = gw) (A : Option Addr) (cap : Nat) (W : World) (hv : Rc W (.slice A l.length cap) l) (S : Spans W 2) (T : Blk W 0) :
    Calls Tryd.prog 50 #[.agg #[.int .i64 gw, .int .i64 gh, .slice A l.length cap, .int .i64 x, .int .i64 y, .bool true], .agg #[.int .i64 kk, .int .i64 a, .int .i64 b, .int .i32 r]] W fun e w' => TO W.heap.size (.slice A l.length cap) l w' e (tx ⟨gw, gh, l, x, y, true⟩ r) ∧ Below W.heap.size W w' := by
  have hb0 : Below W.heap.size W (((W.alloc (.cells #[.int .i64 gw, .int .i64 gh, .slice A l.length cap, .int .i64 x, .int .i64 y, .bool true] 71)).alloc (.cells #[.int .i64 kk, .int .i64 a, .int .i64 b, .int .i32 r] 36)).alloc (.cells #[.int .i64 0, .int .i64 0, .slice none 0 0, .int .i64 0, .int .i64 0, .bool false] 71)) := (((Below.refl _ _).alloc (Nat.le_refl _) _).alloc (by simp) _).alloc (by simp; omega) _
  have HV := Lib.hid (hv.below hb0)
  have HV0 := Lib.hid hv
  have hz3 : (((W.alloc (.cells #[.int .i64 gw, .int .i64 gh, .slice A l.length cap, .int .i64 x, .int .i64 y, .bool true] 71)).alloc (.cells #[.int .i64 kk, .int .i64 a, .int .i64 b, .int .i32 r] 36)).alloc (.cells #[.int .i64 0, .int .i64 0, .slice none 0 0, .int .i64 0, .int .i64 0, .bool false] 71)).heap.size = W.heap.size + 1 + 1 + 1 := by simp
  have G0 := Lib.hid (carryA (.cells #[.int .i64 0, .int .i64 0, .slice none 0 0, .int .i64 0, .int .i64 0, .bool false] 71) (carryA (.cells #[.int .i64 kk, .int .i64 a, .int .i64 b, .int .i32 r] 36) (heap_alloc_new W (.cells #[.int .i64 gw, .int .i64 gh, .slice A l.length cap, .int .i64 x, .int .i64 y, .bool true] 71))))
  have G1 := Lib.hid (carryA (.cells #[.int .i64 0, .int .i64 0, .slice none 0 0, .int .i64 0, .int .i64 0, .bool false] 71) (heap_alloc_new (W.alloc (.cells #[.int .i64 gw, .int .i64 gh, .slice A l.length cap, .int .i64 x, .int .i64 y, .bool true] 71)) (.cells #[.int .i64 kk, .int .i64 a, .int .i64 b, .int .i32 r] 36)))
  have G2 := Lib.hid (heap_alloc_new ((W.alloc (.cells #[.int .i64 gw, .int .i64 gh, .slice A l.length cap, .int .i64 x, .int .i64 y, .bool true] 71)).alloc (.cells #[.int .i64 kk, .int .i64 a, .int .i64 b, .int .i32 r] 36)) (.cells #[.int .i64 0, .int .i64 0, .slice none 0 0, .int .i64 0, .int .i64 0, .bool false] 71))
  rw [show (W.alloc (.cells #[.int .i64 gw, .int .i64 gh, .slice A l.length cap, .int .i64 x, .int .i64 y, .bool true] 71)).heap.size = W.heap.size + 1 by simp] at G1
  rw [show ((W.alloc (.cells #[.int .i64 gw, .int .i64 gh, .slice A l.length cap, .int .i64 x, .int .i64 y, .bool true] 71)).alloc (.cells #[.int .i64 kk, .int .i64 a, .int .i64 b, .int .i32 r] 36)).heap.size = W.heap.size + 1 + 1 by simp] at G2
  have hcl := cl_w hs
  have hrw := rowed_rt (r := r) h hs
  unfold tx
  have hro : rowed ⟨gw, gh, l, x, y, true⟩ r = { dn ⟨gw, gh, l, x, y, true⟩ with x := 0 } := by unfold rowed; rw [if_pos (.inl rfl)]
  rw [hro] at hrw ⊢
  have HDN := Lib.hid (show dn ⟨gw, gh, l, 0, y, true⟩ = { dn ⟨gw, gh, l, x, y, true⟩ with x := 0 } by unfold dn; split <;> rfl)
  obtain ⟨l1, y1, hdn⟩ := dn_form gw gh x y l true
  rw [hdn] at hrw HDN ⊢
  simp only at hrw ⊢
  obtain ⟨hr1, hfit, -, -⟩ := hrw
  have HP := Lib.hid (put_may hr1 hs hfit)
  have hl1 := right_len hr1.1
  have hsd := hr1.1.1
  have hR0 := Lib.hid h.1
  obtain ⟨-, hx0, hx1, hy0, hy1, -⟩ := h
  obtain ⟨-, -, hqx, hqy0, hqy1, -⟩ := hr1
  simp only at hx0 hx1 hy0 hy1 hl1 hsd HP hqx hqy0 hqy1
  have hwd : wd' r = wd r := rfl
  rw [hwd] at hfit hcl
  generalize hn : wd r = n at *
  have hn2 : 1 ≤ n ∧ n ≤ 2 := by omega
  have HU := Lib.hid (show adv ⟨gw, gh, l1, 0, y1, true⟩ r = ⟨gw, gh, putL gw l1 0 y1 r, gw - 1, y1, true⟩ by unfold adv; simp only; rw [hwd, if_pos (by simpa using he)])
  rw [HU.out]
  have HN := Lib.hid hn
  have HT := Lib.hid (fun (w' : World) hb => T.below (w' := w') hb)
  have HSP := Lib.hid (fun (w' : World) hb => S.below (w' := w') hb)
  clear hn hcl hwd hv hro hdn T S hs
  have d2 : (n == gw) = true := by rw [beq_iff_eq]; omega
  have HE := Lib.hid he
  clear he hkw
  go_enter Tryd.func50, Tryd.ntmps50
  go_wp2_with fail
  refine (width_any r _ (HSP.out _ hb0)).mono ?_
  rintro e w1 ⟨rfl, hw1⟩
  rw [HN.out]
  have HB1 := Lib.hid (hb0.trans (hw1.mono hb0.size))
  have g0 := carry hw1 G0.out
  have g1 := carry hw1 G1.out
  have g2 := carry hw1 G2.out
  have hz1 : W.heap.size + 1 + 1 + 1 ≤ w1.heap.size := by have := hw1.size; rw [hz3] at this; exact this
  have HV1 := Lib.hid (HV.out.below hw1)
  clear hw1 hb0 hz3
  have K0 := Lib.hid g0
  have K1 := Lib.hid g1
  have K2 := Lib.hid g2
  obtain ⟨⟨c0, c1, c2, c3, c4, c5⟩, ⟨f0, f1, f2, f3, f4, f5⟩, z0⟩ := blk6 g0
  have r3 := cell_of_row _ _ 3 _ _ (0, 0) g1
  have z1 : W.heap.size + 1 < w1.heap.size := by omega
  clear g0 g1 g2
  go_wp2_with fail
  have hws : Below W.heap.size W (w1.setCell ⟨W.heap.size, 3, none⟩ (.int .i64 0)) := HB1.out.setCell (by simp) _
  refine (below_any gw gh 0 y true l hR0.out ⟨hy0, hy1⟩ A cap _ (HV0.out.below hws) (HSP.out _ hws) (HT.out _ hws)).mono ?_
  rintro e w2 ⟨ho, hw2⟩
  rw [HDN.out] at ho
  have hz2 : W.heap.size + 1 + 1 + 1 ≤ w2.heap.size := by have := hw2.size; simp at this; omega
  have HB2 := hws.trans (hw2.mono hws.size)
  obtain ⟨A1, cap1, rfl, hk⟩ := ho.op (HV0.out.below HB2)
  have g0 := carry hw2 (heap_setCell_same _ _ 3 _ _ (.int .i64 0) K0.out)
  have g1 := carry hw2 ((heap_setCell_other _ ⟨W.heap.size, 3, none⟩ _ (.int .i64 0) (by simp)).trans K1.out)
  have g2 := carry hw2 ((heap_setCell_other _ ⟨W.heap.size, 3, none⟩ _ (.int .i64 0) (by simp; omega)).trans K2.out)
  have L0 := Lib.hid g0
  have L1 := Lib.hid g1
  have L2 := Lib.hid g2
  have hk' := hk.mono (B' := W.heap.size + 1 + 1 + 1) (by simp; omega)
  have HK := Lib.hid hk'
  have HB2 := Lib.hid HB2
  clear c0 c1 c2 c3 c4 c5 f0 f1 f2 f3 f4 f5 z0 z1 r3 ho hw2 hws hk hk'
  obtain ⟨⟨c0, c1, c2, c3, c4, c5⟩, ⟨f0, f1, f2, f3, f4, f5⟩, z0⟩ := blk6 g0
  clear g0 g1 g2
  go_upto_region 5 with fail
  obtain ⟨w5, hw5⟩ : ∃ w5, w5 = ((((((w2.setCell ⟨W.heap.size, 0, none⟩ (.int .i64 gw)).setCell ⟨W.heap.size, 1, none⟩ (.int .i64 gh)).setCell ⟨W.heap.size, 2, none⟩ (.slice A1 l1.length cap1)).setCell ⟨W.heap.size, 3, none⟩ (.int .i64 0)).setCell ⟨W.heap.size, 4, none⟩ (.int .i64 y1)).setCell ⟨W.heap.size, 5, none⟩ (.bool true)) := ⟨_, rfl⟩
  rw [← hw5]
  have g0 : w5.heap[W.heap.size]? = some (.cells #[.int .i64 gw, .int .i64 gh, .slice A1 l1.length cap1, .int .i64 0, .int .i64 y1, .bool true] 71 (0, 0)) := by rw [hw5]; exact set6 L0.out _ _ _ _ _ _
  have g1 : w5.heap[W.heap.size + 1]? = some (.cells #[.int .i64 kk, .int .i64 a, .int .i64 b, .int .i32 r] 36 (0, 0)) := by rw [hw5]; exact other6 L1.out (by omega) _ _ _ _ _ _
  have g2 : w5.heap[W.heap.size + 1 + 1]? = some (.cells #[.int .i64 0, .int .i64 0, .slice none 0 0, .int .i64 0, .int .i64 0, .bool false] 71 (0, 0)) := by rw [hw5]; exact other6 L2.out (by omega) _ _ _ _ _ _
  have hk5 : Kp (W.heap.size + 1 + 1 + 1) (.slice A l.length cap) l w5 (.slice A1 l1.length cap1) l1 := by
    rw [hw5]
    have HO' := HK.out
    repeat (first | (with_reducible exact HO') | refine Kp.set1 ?_ _ _ _ (by omega))
  have hb5 : Below W.heap.size W w5 := by
    rw [hw5]
    repeat (first | (with_reducible exact HB2.out) | refine Below.setCell ?_ (by simp) _)
  have hz5 : W.heap.size + 1 + 1 + 1 ≤ w5.heap.size := by rw [hw5]; simp; omega
  have HRC := Lib.hid (hk5.rc (HV0.out.below hb5))
  have HBB := Lib.hid hb5
  have K0 := Lib.hid g0
  have K2 := Lib.hid g2
  have r3 := cell_of_row _ _ 3 _ _ (0, 0) g1
  have z1 : W.heap.size + 1 < w5.heap.size := by omega
  clear hw5 hk5 hb5 c0 c1 c2 c3 c4 c5 f0 f1 f2 f3 f4 f5 z0
  obtain ⟨⟨c0, c1, c2, c3, c4, c5⟩, ⟨f0, f1, f2, f3, f4, f5⟩, z0⟩ := blk6 g0
  clear g0 g1 g2
  go_wp2_with fail
  refine (gput_any gw gh 0 y1 r _ l1 _ (HRC.out).rw (by unfold maxLen; omega) (HSP.out _ (HBB.out)) (HT.out _ (HBB.out))).mono ?_
  rintro e w3 ⟨ho, hw3⟩
  obtain ⟨v', rfl, hown⟩ := ho.is HP.out
  obtain ⟨g, cap', rfl, hcap', hrow⟩ := hown
  have HB3 := Lib.hid ((HBB.out).trans (hw3.mono (HBB.out).size))
  have HO := Lib.hid ((Own.sh rfl hcap' hrow).mono (B' := W.heap.size + 1 + 1 + 1) (by omega))
  have g0 := carry hw3 K0.out
  have g2 := carry hw3 K2.out
  clear hrow c0 c1 c2 c3 c4 c5 f0 f1 f2 f3 f4 f5 z0 z1 r3 ho hw3
  obtain ⟨⟨c0, c1, c2, c3, c4, c5⟩, ⟨f0, f1, f2, f3, f4, f5⟩, z0⟩ := blk6 g0
  obtain ⟨⟨k0, k1, k2, k3, k4, k5⟩, ⟨e0, e1, e2, e3, e4, e5⟩, z2⟩ := blk6 g2
  have Q0 := Lib.hid g0
  have Q2 := Lib.hid g2
  clear g0 g2
  generalize hN : (putL gw l1 0 y1 r).length = N at *
  go_upto_region 10 with fail
  obtain ⟨w4, hw4⟩ : ∃ w4, w4 = ((((((w3.setCell ⟨W.heap.size, 0, none⟩ (.int .i64 gw)).setCell ⟨W.heap.size, 1, none⟩ (.int .i64 gh)).setCell ⟨W.heap.size, 2, none⟩ (.slice (some ⟨g, 0, none⟩) N cap')).setCell ⟨W.heap.size, 3, none⟩ (.int .i64 (n))).setCell ⟨W.heap.size, 5, none⟩ (.bool true)).setCell ⟨W.heap.size, 3, none⟩ (.int .i64 (n - 1))) := ⟨_, rfl⟩
  rw [← hw4]
  have q0 : w4.heap[W.heap.size]? = some (.cells #[.int .i64 gw, .int .i64 gh, .slice (some ⟨g, 0, none⟩) N cap', .int .i64 (n - 1), .int .i64 y1, .bool true] 71 (0, 0)) := by rw [hw4]; exact heap_setCell_same _ _ 3 _ _ _ (set5 Q0.out _ _ _ _ _)
  have q2 : w4.heap[W.heap.size + 1 + 1]? = some (.cells #[.int .i64 0, .int .i64 0, .slice none 0 0, .int .i64 0, .int .i64 0, .bool false] 71 (0, 0)) := by rw [hw4]; exact (heap_setCell_other _ _ _ _ (by simp; omega)).trans (other5 Q2.out (by omega) _ _ _ _ _)
  have HO4 : Own (W.heap.size + 1 + 1 + 1) w4 (.slice (some ⟨g, 0, none⟩) N cap') (putL gw l1 0 y1 r) := by
    rw [hw4]
    have HO' := HO.out
    repeat (first | (with_reducible exact HO') | refine Own.set1 ?_ _ _ _ (by omega))
  have HB4 : Below W.heap.size W w4 := by
    rw [hw4]
    repeat (first | (with_reducible exact HB3.out) | refine Below.setCell ?_ (by simp) _)
  have HO5 := Lib.hid HO4
  have HB5 := Lib.hid HB4
  clear hw4 HO4 HB4 c0 c1 c2 c3 c4 c5 f0 f1 f2 f3 f4 f5 k0 k1 k2 k3 k4 k5 e0 e1 e2 e3 e4 e5 z0 z2
  obtain ⟨⟨c0, c1, c2, c3, c4, c5⟩, ⟨f0, f1, f2, f3, f4, f5⟩, z0⟩ := blk6 q0
  obtain ⟨⟨k0, k1, k2, k3, k4, k5⟩, ⟨e0, e1, e2, e3, e4, e5⟩, z2⟩ := blk6 q2
  clear q0 q2
  go_wp2
  refine bodyPost_ret (v := .agg #[.int .i64 gw, .int .i64 gh, .slice (some ⟨g, 0, none⟩) N cap', .int .i64 (n - 1), .int .i64 y1, .bool true]) (by simp [results, Tryd.results50, go_sem, *]) rfl ⟨TO.of (by rw [show gw - 1 = n - 1 by have := HE.out; omega]) rfl ?_, ?_⟩
  · refine .inr (Own.mono (B := W.heap.size + 1 + 1 + 1) ?_ (by omega))
    have HO' := HO5.out
    repeat (first | (with_reducible exact HO') | refine Own.set1 ?_ _ _ _ (by omega))
  · repeat (first | (with_reducible exact HB5.out) | refine Below.setCell ?_ (by simp; omega) _)
theorem mtext_any (gw gh x y kk a b r : Int) (k : Bool) (l : List (Int × Int)) (h : rt ⟨gw, gh, l, x, y, k⟩) (hs : shw r = true) (A : Option Addr) (cap : Nat) (W : World) (hv : Rc W (.slice A l.length cap) l) (S : Spans W 2) (T : Blk W 0) :
    Calls Tryd.prog 50 #[.agg #[.int .i64 gw, .int .i64 gh, .slice A l.length cap, .int .i64 x, .int .i64 y, .bool k], .agg #[.int .i64 kk, .int .i64 a, .int .i64 b, .int .i32 r]] W fun e w' => TO W.heap.size (.slice A l.length cap) l w' e (tx ⟨gw, gh, l, x, y, k⟩ r) ∧ Below W.heap.size W w' := by
  cases k
  · by_cases h1 : gw < x + wd r
    · by_cases h2 : 0 + wd r = gw
      · exact text_row_end gw gh x y kk a b r l h hs h1 h2 A cap W hv S T
      · exact text_row_no gw gh x y kk a b r l h hs h1 h2 A cap W hv S T
    · by_cases h2 : x + wd r = gw
      · exact text_on_end gw gh x y kk a b r l h hs (by omega) h2 A cap W hv S T
      · exact text_on_no gw gh x y kk a b r l h hs (by omega) h2 A cap W hv S T
  · by_cases h2 : 0 + wd r = gw
    · exact text_wrap_end gw gh x y kk a b r l h hs (by omega) h2 A cap W hv S T
    · exact text_wrap_no gw gh x y kk a b r l h hs (by omega) h2 A cap W hv S T
end Go.Proofs.YtkkioajmfkcloaaDoor
/- The program's after: what a right terminal becomes by a right command. -/
set_option linter.unusedVariables false
namespace Go.Proofs.YtkkioajmfkcloaaDoor
open Go.RowKit Gl L Wd Gd Tm Vt
set_option maxRecDepth 100000 in
set_option maxHeartbeats 8000000 in
/-- One walk for all kinds: f is what a command of this kind calls, bw whether Wrap is what it makes of it. -/
theorem after_gen (gw gh x y K a b r : Int) (k : Bool) (l : List (Int × Int)) (hK : 1 ≤ K ∧ K ≤ 12) (f : Nat) (bw : Bool) (hf : dF K = f) (hw : dW K = bw) (hcf : ∀ (args : Array Value) (w : World), (callFunc f args).run Tryd.prog w = .ok (.enter f args) w) (u : Trm) (A : Option Addr) (cap : Nat) (W : World) (hv : Rc W (.slice A l.length cap) l)
    (HM : ∀ wz, Below W.heap.size W wz → Calls Tryd.prog f #[.agg #[.int .i64 gw, .int .i64 gh, .slice A l.length cap, .int .i64 x, .int .i64 y, .bool k], .agg #[.int .i64 K, .int .i64 a, .int .i64 b, .int .i32 r]] wz fun e w' => TO wz.heap.size (.slice A l.length cap) l w' e u ∧ Below wz.heap.size wz w') :
    Calls Tryd.prog 23 #[.agg #[.int .i64 gw, .int .i64 gh, .slice A l.length cap, .int .i64 x, .int .i64 y, .bool k], .agg #[.int .i64 K, .int .i64 a, .int .i64 b, .int .i32 r]] W fun e w' => TO W.heap.size (.slice A l.length cap) l w' e { u with k := u.k && bw } ∧ Below W.heap.size W w' := by
  have hb0 : Below W.heap.size W (((W.alloc (.cells #[.int .i64 gw, .int .i64 gh, .slice A l.length cap, .int .i64 x, .int .i64 y, .bool k] 26)).alloc (.cells #[.int .i64 K, .int .i64 a, .int .i64 b, .int .i32 r] 36)).alloc (.cells #[.int .i64 0, .int .i64 0, .slice none 0 0, .int .i64 0, .int .i64 0, .bool false] 26)) := (((Below.refl _ _).alloc (Nat.le_refl _) _).alloc (by simp) _).alloc (by simp; omega) _
  have HV0 := Lib.hid hv
  have HMM := Lib.hid HM
  have hz3 : (((W.alloc (.cells #[.int .i64 gw, .int .i64 gh, .slice A l.length cap, .int .i64 x, .int .i64 y, .bool k] 26)).alloc (.cells #[.int .i64 K, .int .i64 a, .int .i64 b, .int .i32 r] 36)).alloc (.cells #[.int .i64 0, .int .i64 0, .slice none 0 0, .int .i64 0, .int .i64 0, .bool false] 26)).heap.size = W.heap.size + 1 + 1 + 1 := by simp
  have G0 := Lib.hid (carryA (.cells #[.int .i64 0, .int .i64 0, .slice none 0 0, .int .i64 0, .int .i64 0, .bool false] 26) (carryA (.cells #[.int .i64 K, .int .i64 a, .int .i64 b, .int .i32 r] 36) (heap_alloc_new W (.cells #[.int .i64 gw, .int .i64 gh, .slice A l.length cap, .int .i64 x, .int .i64 y, .bool k] 26))))
  have G1 := Lib.hid (carryA (.cells #[.int .i64 0, .int .i64 0, .slice none 0 0, .int .i64 0, .int .i64 0, .bool false] 26) (heap_alloc_new (W.alloc (.cells #[.int .i64 gw, .int .i64 gh, .slice A l.length cap, .int .i64 x, .int .i64 y, .bool k] 26)) (.cells #[.int .i64 K, .int .i64 a, .int .i64 b, .int .i32 r] 36)))
  have G2 := Lib.hid (heap_alloc_new ((W.alloc (.cells #[.int .i64 gw, .int .i64 gh, .slice A l.length cap, .int .i64 x, .int .i64 y, .bool k] 26)).alloc (.cells #[.int .i64 K, .int .i64 a, .int .i64 b, .int .i32 r] 36)) (.cells #[.int .i64 0, .int .i64 0, .slice none 0 0, .int .i64 0, .int .i64 0, .bool false] 26))
  rw [show (W.alloc (.cells #[.int .i64 gw, .int .i64 gh, .slice A l.length cap, .int .i64 x, .int .i64 y, .bool k] 26)).heap.size = W.heap.size + 1 by simp] at G1
  rw [show ((W.alloc (.cells #[.int .i64 gw, .int .i64 gh, .slice A l.length cap, .int .i64 x, .int .i64 y, .bool k] 26)).alloc (.cells #[.int .i64 K, .int .i64 a, .int .i64 b, .int .i32 r] 36)).heap.size = W.heap.size + 1 + 1 by simp] at G2
  have HF := Lib.hid hf
  have HDW := Lib.hid hw
  clear hv HM hf hw
  have HS : ∀ (ad : Addr) (w : World), (store ad (.func (.func f) #[] #[])).run Tryd.prog w = stored Tryd.prog w ad (.func (.func f) #[] #[]) .plain := fun ad w => run_store _ _ _ _ _ rfl
  go_enter Tryd.func23, Tryd.ntmps23
  go_wp2_with fail
  refine (deedOf_any K hK _).mono ?_
  rintro e w1 ⟨rfl, hw1⟩
  rw [HF.out, HDW.out]
  clear hK
  have hB1 := hb0.trans (hw1.mono hb0.size)
  have g0 := carry hw1 G0.out
  have g1 := carry hw1 G1.out
  have g2 := carry hw1 G2.out
  have hz1 : W.heap.size + 1 + 1 + 1 ≤ w1.heap.size := by have := hw1.size; rw [hz3] at this; exact this
  have hbq : Below W.heap.size W (w1.alloc (.cells #[.func (.func f) #[] #[], .bool bw] 69)) := hB1.alloc (by omega) _
  have K2 := Lib.hid (carryA (.cells #[.func (.func f) #[] #[], .bool bw] 69) g2)
  have K3 := Lib.hid (heap_alloc_new w1 (.cells #[.func (.func f) #[] #[], .bool bw] 69))
  clear hw1 hb0 hz3 hB1
  obtain ⟨⟨c0, c1, c2, c3, c4, c5⟩, ⟨f0, f1, f2, f3, f4, f5⟩, z0⟩ := blk6 g0
  have q0 := cell_of_row _ _ 0 _ _ (0, 0) g1
  have q1 := cell_of_row _ _ 1 _ _ (0, 0) g1
  have q2 := cell_of_row _ _ 2 _ _ (0, 0) g1
  have q3 := cell_of_row _ _ 3 _ _ (0, 0) g1
  have z1 : W.heap.size + 1 < w1.heap.size := by omega
  clear g0 g1 g2
  go_wp2_with fail
  refine (HMM.out _ hbq).mono ?_
  rintro e w2 ⟨ho, hw2⟩
  have hB2 := hbq.trans (hw2.mono hbq.size)
  obtain ⟨A1, cap1, rfl, hk⟩ := ho.op (HV0.out.below hB2)
  have g2 := carry hw2 K2.out
  have g3 := carry hw2 K3.out
  have hz2 : w1.heap.size + 1 ≤ w2.heap.size := by have := hw2.size; simp at this; omega
  have HK := Lib.hid (hk.mono (B' := W.heap.size + 1 + 1 + 1) (by simp; omega))
  have HB2 := Lib.hid hB2
  clear hk ho hw2 hB2 hbq c0 c1 c2 c3 c4 c5 f0 f1 f2 f3 f4 f5 z0 z1 q0 q1 q2 q3
  obtain ⟨uw, uh, ul, ux, uy, uk⟩ := u
  obtain ⟨⟨k0, k1, k2, k3, k4, k5⟩, ⟨e0, e1, e2, e3, e4, e5⟩, z2⟩ := blk6 g2
  have d1 := cell_of_row _ _ 1 _ _ (0, 0) g3
  have z3 : w1.heap.size < w2.heap.size := by omega
  have K4 := Lib.hid g2
  clear g2 g3
  cases uk
  all_goals cases bw
  all_goals
    go_upto_region 4 with fail
  · obtain ⟨w3, hw3⟩ : ∃ w3, w3 = w2.alloc (.cells #[.int .i64 uw, .int .i64 uh, .slice A1 ul.length cap1, .int .i64 ux, .int .i64 uy, .bool false] 71) := ⟨_, rfl⟩
    rw [← hw3]
    have g2 : w3.heap[W.heap.size + 1 + 1]? = some (.cells #[.int .i64 0, .int .i64 0, .slice none 0 0, .int .i64 0, .int .i64 0, .bool false] 26 (0, 0)) := by rw [hw3]; exact carryA _ K4.out
    have g3 : w3.heap[w2.heap.size]? = some (.cells #[.int .i64 uw, .int .i64 uh, .slice A1 ul.length cap1, .int .i64 ux, .int .i64 uy, .bool false] 71 (0, 0)) := by rw [hw3]; exact heap_alloc_new _ _
    have HK3 := Lib.hid (show Kp (W.heap.size + 1 + 1 + 1) (.slice A l.length cap) l w3 (.slice A1 ul.length cap1) ul by rw [hw3]; exact HK.out.alloc _)
    have HB3 := Lib.hid (show Below W.heap.size W w3 by rw [hw3]; exact HB2.out.alloc (by omega) _)
    clear hw3 k0 k1 k2 k3 k4 k5 e0 e1 e2 e3 e4 e5 z2 z3 d1
    obtain ⟨⟨c0, c1, c2, c3, c4, c5⟩, ⟨f0, f1, f2, f3, f4, f5⟩, z0⟩ := blk6 g3
    obtain ⟨⟨k0, k1, k2, k3, k4, k5⟩, ⟨e0, e1, e2, e3, e4, e5⟩, z2⟩ := blk6 g2
    clear g2 g3
    go_wp2
    refine bodyPost_ret (v := .agg #[.int .i64 uw, .int .i64 uh, .slice A1 ul.length cap1, .int .i64 ux, .int .i64 uy, .bool false]) (by simp [results, Tryd.results23, go_sem, *]) rfl ⟨TO.of rfl rfl ?_, ?_⟩
    · refine Kp.mono (B := W.heap.size + 1 + 1 + 1) ?_ (by omega)
      have HO' := HK3.out
      repeat (first | (with_reducible exact HO') | refine Kp.set1 ?_ _ _ _ (by omega))
    · repeat (first | (with_reducible exact HB3.out) | refine Below.setCell ?_ (by simp; omega) _)
  · obtain ⟨w3, hw3⟩ : ∃ w3, w3 = w2.alloc (.cells #[.int .i64 uw, .int .i64 uh, .slice A1 ul.length cap1, .int .i64 ux, .int .i64 uy, .bool false] 71) := ⟨_, rfl⟩
    rw [← hw3]
    have g2 : w3.heap[W.heap.size + 1 + 1]? = some (.cells #[.int .i64 0, .int .i64 0, .slice none 0 0, .int .i64 0, .int .i64 0, .bool false] 26 (0, 0)) := by rw [hw3]; exact carryA _ K4.out
    have g3 : w3.heap[w2.heap.size]? = some (.cells #[.int .i64 uw, .int .i64 uh, .slice A1 ul.length cap1, .int .i64 ux, .int .i64 uy, .bool false] 71 (0, 0)) := by rw [hw3]; exact heap_alloc_new _ _
    have HK3 := Lib.hid (show Kp (W.heap.size + 1 + 1 + 1) (.slice A l.length cap) l w3 (.slice A1 ul.length cap1) ul by rw [hw3]; exact HK.out.alloc _)
    have HB3 := Lib.hid (show Below W.heap.size W w3 by rw [hw3]; exact HB2.out.alloc (by omega) _)
    clear hw3 k0 k1 k2 k3 k4 k5 e0 e1 e2 e3 e4 e5 z2 z3 d1
    obtain ⟨⟨c0, c1, c2, c3, c4, c5⟩, ⟨f0, f1, f2, f3, f4, f5⟩, z0⟩ := blk6 g3
    obtain ⟨⟨k0, k1, k2, k3, k4, k5⟩, ⟨e0, e1, e2, e3, e4, e5⟩, z2⟩ := blk6 g2
    clear g2 g3
    go_wp2
    refine bodyPost_ret (v := .agg #[.int .i64 uw, .int .i64 uh, .slice A1 ul.length cap1, .int .i64 ux, .int .i64 uy, .bool false]) (by simp [results, Tryd.results23, go_sem, *]) rfl ⟨TO.of rfl rfl ?_, ?_⟩
    · refine Kp.mono (B := W.heap.size + 1 + 1 + 1) ?_ (by omega)
      have HO' := HK3.out
      repeat (first | (with_reducible exact HO') | refine Kp.set1 ?_ _ _ _ (by omega))
    · repeat (first | (with_reducible exact HB3.out) | refine Below.setCell ?_ (by simp; omega) _)
  · obtain ⟨w3, hw3⟩ : ∃ w3, w3 = w2.alloc (.cells #[.int .i64 uw, .int .i64 uh, .slice A1 ul.length cap1, .int .i64 ux, .int .i64 uy, .bool false] 71) := ⟨_, rfl⟩
    rw [← hw3]
    have g2 : w3.heap[W.heap.size + 1 + 1]? = some (.cells #[.int .i64 0, .int .i64 0, .slice none 0 0, .int .i64 0, .int .i64 0, .bool false] 26 (0, 0)) := by rw [hw3]; exact carryA _ K4.out
    have g3 : w3.heap[w2.heap.size]? = some (.cells #[.int .i64 uw, .int .i64 uh, .slice A1 ul.length cap1, .int .i64 ux, .int .i64 uy, .bool false] 71 (0, 0)) := by rw [hw3]; exact heap_alloc_new _ _
    have HK3 := Lib.hid (show Kp (W.heap.size + 1 + 1 + 1) (.slice A l.length cap) l w3 (.slice A1 ul.length cap1) ul by rw [hw3]; exact HK.out.alloc _)
    have HB3 := Lib.hid (show Below W.heap.size W w3 by rw [hw3]; exact HB2.out.alloc (by omega) _)
    clear hw3 k0 k1 k2 k3 k4 k5 e0 e1 e2 e3 e4 e5 z2 z3 d1
    obtain ⟨⟨c0, c1, c2, c3, c4, c5⟩, ⟨f0, f1, f2, f3, f4, f5⟩, z0⟩ := blk6 g3
    obtain ⟨⟨k0, k1, k2, k3, k4, k5⟩, ⟨e0, e1, e2, e3, e4, e5⟩, z2⟩ := blk6 g2
    clear g2 g3
    go_wp2
    refine bodyPost_ret (v := .agg #[.int .i64 uw, .int .i64 uh, .slice A1 ul.length cap1, .int .i64 ux, .int .i64 uy, .bool false]) (by simp [results, Tryd.results23, go_sem, *]) rfl ⟨TO.of rfl rfl ?_, ?_⟩
    · refine Kp.mono (B := W.heap.size + 1 + 1 + 1) ?_ (by omega)
      have HO' := HK3.out
      repeat (first | (with_reducible exact HO') | refine Kp.set1 ?_ _ _ _ (by omega))
    · repeat (first | (with_reducible exact HB3.out) | refine Below.setCell ?_ (by simp; omega) _)
  · obtain ⟨w3, hw3⟩ : ∃ w3, w3 = w2.alloc (.cells #[.int .i64 uw, .int .i64 uh, .slice A1 ul.length cap1, .int .i64 ux, .int .i64 uy, .bool true] 71) := ⟨_, rfl⟩
    rw [← hw3]
    have g2 : w3.heap[W.heap.size + 1 + 1]? = some (.cells #[.int .i64 0, .int .i64 0, .slice none 0 0, .int .i64 0, .int .i64 0, .bool false] 26 (0, 0)) := by rw [hw3]; exact carryA _ K4.out
    have g3 : w3.heap[w2.heap.size]? = some (.cells #[.int .i64 uw, .int .i64 uh, .slice A1 ul.length cap1, .int .i64 ux, .int .i64 uy, .bool true] 71 (0, 0)) := by rw [hw3]; exact heap_alloc_new _ _
    have HK3 := Lib.hid (show Kp (W.heap.size + 1 + 1 + 1) (.slice A l.length cap) l w3 (.slice A1 ul.length cap1) ul by rw [hw3]; exact HK.out.alloc _)
    have HB3 := Lib.hid (show Below W.heap.size W w3 by rw [hw3]; exact HB2.out.alloc (by omega) _)
    clear hw3 k0 k1 k2 k3 k4 k5 e0 e1 e2 e3 e4 e5 z2 z3 d1
    obtain ⟨⟨c0, c1, c2, c3, c4, c5⟩, ⟨f0, f1, f2, f3, f4, f5⟩, z0⟩ := blk6 g3
    obtain ⟨⟨k0, k1, k2, k3, k4, k5⟩, ⟨e0, e1, e2, e3, e4, e5⟩, z2⟩ := blk6 g2
    clear g2 g3
    go_wp2
    refine bodyPost_ret (v := .agg #[.int .i64 uw, .int .i64 uh, .slice A1 ul.length cap1, .int .i64 ux, .int .i64 uy, .bool true]) (by simp [results, Tryd.results23, go_sem, *]) rfl ⟨TO.of rfl rfl ?_, ?_⟩
    · refine Kp.mono (B := W.heap.size + 1 + 1 + 1) ?_ (by omega)
      have HO' := HK3.out
      repeat (first | (with_reducible exact HO') | refine Kp.set1 ?_ _ _ _ (by omega))
    · repeat (first | (with_reducible exact HB3.out) | refine Below.setCell ?_ (by simp; omega) _)
theorem and_f (u : Trm) : { u with k := u.k && false } = { u with k := false } := by cases u; simp
theorem and_t (u : Trm) : { u with k := u.k && true } = u := by cases u; simp
theorem after_any (gw gh x y K a b r : Int) (k : Bool) (l : List (Int × Int)) (h : rt ⟨gw, gh, l, x, y, k⟩) (hc : isR (K, a, b, r) = true) (A : Option Addr) (cap : Nat) (W : World) (hv : Rc W (.slice A l.length cap) l) (S : Spans W 2) (T : Blk W 0) :
    Calls Tryd.prog 23 #[.agg #[.int .i64 gw, .int .i64 gh, .slice A l.length cap, .int .i64 x, .int .i64 y, .bool k], .agg #[.int .i64 K, .int .i64 a, .int .i64 b, .int .i32 r]] W fun e w' => TO W.heap.size (.slice A l.length cap) l w' e (doT ⟨gw, gh, l, x, y, k⟩ (K, a, b, r)) ∧ Below W.heap.size W w' := by
  have h' := h
  obtain ⟨h0, hx0, hx1, hy0, hy1, -⟩ := h'
  simp only at h0 hx0 hx1 hy0 hy1
  have hx : 0 ≤ x ∧ x < gw := ⟨hx0, hx1⟩
  have hy : 0 ≤ y ∧ y < gh := ⟨hy0, hy1⟩
  have hsd := h0.1
  have hw : 2 ≤ gw ∧ gw ≤ 80 := ⟨hsd.1, hsd.2.1⟩
  have hh : 1 ≤ gh ∧ gh ≤ 24 := hsd.2.2
  have ex := wi_id x (gw - 1) (by omega)
  have ey := wi_id y (gh - 1) (by omega)
  have e0 := wi_id 0 (gw - 1) (by omega)
  have hca := (isC_iff K a b r).1 hc
  have ha : 0 ≤ a ∧ a ≤ 100 := by omega
  have hkk : 1 ≤ K ∧ K ≤ 12 := by omega
  rcases (show K = 1 ∨ K = 2 ∨ K = 3 ∨ K = 4 ∨ K = 5 ∨ K = 6 ∨ K = 7 ∨ K = 8 ∨ K = 9 ∨ K = 10 ∨ K = 11 ∨ K = 12 by omega) with rfl | rfl | rfl | rfl | rfl | rfl | rfl | rfl | rfl | rfl | rfl | rfl
  · have hs : shw r = true := by rcases hca with h | h | h | h; exact h.2.1; all_goals omega
    have H := after_gen gw gh x y 1 a b r k l hkk 50 true rfl rfl (fun _ _ => by kernel_rfl) (tx ⟨gw, gh, l, x, y, k⟩ r) A cap W hv (fun wz hb => mtext_any gw gh x y 1 a b r k l h hs A cap wz (hv.below hb) (S.below hb) (T.below hb))
    rw [and_t] at H
    exact H
  · have H := after_gen gw gh x y 2 a b r k l hkk 51 false rfl rfl (fun _ _ => by kernel_rfl) ⟨gw, gh, l, wi b (gw - 1), wi a (gh - 1), k⟩ A cap W hv (fun wz hb => mplace_any gw gh x y 2 a b r k l hw hh hx hy ha A cap wz (hv.below hb))
    rw [and_f] at H
    exact H
  · have H := after_gen gw gh x y 3 a b r k l hkk 52 false rfl rfl (fun _ _ => by kernel_rfl) ⟨gw, gh, l, wi x (gw - 1), wi (y - a) (gh - 1), k⟩ A cap W hv (fun wz hb => mup_any gw gh x y 3 a b r k l hw hh hx hy ha A cap wz (hv.below hb))
    rw [and_f] at H
    simp only [ex] at H
    exact H
  · have H := after_gen gw gh x y 4 a b r k l hkk 53 false rfl rfl (fun _ _ => by kernel_rfl) ⟨gw, gh, l, wi x (gw - 1), wi (y + a) (gh - 1), k⟩ A cap W hv (fun wz hb => mdown_any gw gh x y 4 a b r k l hw hh hx hy ha A cap wz (hv.below hb))
    rw [and_f] at H
    simp only [ex] at H
    exact H
  · have H := after_gen gw gh x y 5 a b r k l hkk 54 false rfl rfl (fun _ _ => by kernel_rfl) ⟨gw, gh, l, wi (x + a) (gw - 1), wi y (gh - 1), k⟩ A cap W hv (fun wz hb => mright_any gw gh x y 5 a b r k l hw hh hx hy ha A cap wz (hv.below hb))
    rw [and_f] at H
    simp only [ey] at H
    exact H
  · have H := after_gen gw gh x y 6 a b r k l hkk 55 false rfl rfl (fun _ _ => by kernel_rfl) ⟨gw, gh, l, wi (x - a) (gw - 1), wi y (gh - 1), k⟩ A cap W hv (fun wz hb => mleft_any gw gh x y 6 a b r k l hw hh hx hy ha A cap wz (hv.below hb))
    rw [and_f] at H
    simp only [ey] at H
    exact H
  · have H := after_gen gw gh x y 7 a b r k l hkk 56 false rfl rfl (fun _ _ => by kernel_rfl) ⟨gw, gh, blankL gw l (y * gw + x) ((y + 1) * gw), x, y, k⟩ A cap W hv (fun wz hb => mrow_any gw gh x y 7 a b r k l h0 hx hy A cap wz (hv.below hb) (S.below hb) (T.below hb))
    rw [and_f] at H
    exact H
  · have H := after_gen gw gh x y 8 a b r k l hkk 57 false rfl rfl (fun _ _ => by kernel_rfl) ⟨gw, gh, blankL gw l (y * gw + x) (gh * gw), x, y, k⟩ A cap W hv (fun wz hb => mall_any gw gh x y 8 a b r k l h0 hx hy A cap wz (hv.below hb) (S.below hb) (T.below hb))
    rw [and_f] at H
    rw [Int.mul_comm gh gw] at H
    exact H
  · have H := after_gen gw gh x y 9 a b r k l hkk 58 false rfl rfl (fun _ _ => by kernel_rfl) ⟨gw, gh, l, wi 0 (gw - 1), wi y (gh - 1), k⟩ A cap W hv (fun wz hb => mhome_any gw gh x y 9 a b r k l hw hh hx hy ha A cap wz (hv.below hb))
    rw [and_f] at H
    simp only [ey, e0] at H
    exact H
  · have H := after_gen gw gh x y 10 a b r k l hkk 59 false rfl rfl (fun _ _ => by kernel_rfl) (dn ⟨gw, gh, l, x, y, k⟩) A cap W hv (fun wz hb => mfeed_any gw gh x y 10 a b r k l h0 hx hy A cap wz (hv.below hb) (S.below hb) (T.below hb))
    rw [and_f] at H
    exact H
  · have H := after_gen gw gh x y 11 a b r k l hkk 60 false rfl rfl (fun _ _ => by kernel_rfl) ⟨gw, gh, l, wi (x - 1) (gw - 1), wi y (gh - 1), k⟩ A cap W hv (fun wz hb => mback_any gw gh x y 11 a b r k l hw hh hx hy ha A cap wz (hv.below hb))
    rw [and_f] at H
    simp only [ey] at H
    exact H
  · have H := after_gen gw gh x y 12 a b r k l hkk 61 true rfl rfl (fun _ _ => by kernel_rfl) ⟨gw, gh, l, x, y, k⟩ A cap W hv (fun wz hb => mbell_any gw gh x y 12 a b r k l h0 hx hy A cap wz (hv.below hb))
    rw [and_t] at H
    exact H
end Go.Proofs.YtkkioajmfkcloaaDoor
