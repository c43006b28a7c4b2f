/- The reference's Resize of a terminal. -/
import Derived.Test.YtkkioajmfkcloaaDoorTmN
import Derived.Test.YtkkioajmfkcloaaDoorGdX
import Derived.Deep.Cut
import Derived.IntWalk
import Derived.Test.YtkkioajmfkcloaaDoorMm
set_option linter.unusedVariables false
namespace Go.Proofs.YtkkioajmfkcloaaDoor
open Go.RowKit Gl L Wd Gd Tm Vt
set_option maxRecDepth 100000 in
set_option maxHeartbeats 4000000 in
theorem rtsize_any (gw gh x y fw fh : Int) (k : Bool) (l : List (Int × Int)) (A : Option Addr) (cap : Nat) (W : World) (hv : Rc W (.slice A l.length cap) l) (hm : l.length ≤ maxLen) :
    Calls Tryd.prog 7 #[.agg #[.int .i64 gw, .int .i64 gh, .slice A l.length cap, .int .i64 x, .int .i64 y, .bool k], .int .i64 fw, .int .i64 fh] W fun e w' => DO (decide (rt ⟨gw, gh, l, x, y, k⟩) && sidesB fw fh) (szE ⟨gw, gh, l, x, y, k⟩) W.heap.size (.slice none 0 0) [] w' e (szT ⟨gw, gh, l, x, y, k⟩ fw fh) ∧ Below W.heap.size W w' := by
  have hb0 : Below W.heap.size W ((W.alloc (.cells #[.int .i64 gw, .int .i64 gh, .slice A l.length cap, .int .i64 x, .int .i64 y, .bool k] 26)).alloc (.cells #[.int .i64 0, .int .i64 0, .slice none 0 0, .int .i64 0, .int .i64 0, .bool false] 26)) := ((Below.refl _ _).alloc (Nat.le_refl _) _).alloc (by simp) _
  have HV0 := Lib.hid hv
  have hz3 : ((W.alloc (.cells #[.int .i64 gw, .int .i64 gh, .slice A l.length cap, .int .i64 x, .int .i64 y, .bool k] 26)).alloc (.cells #[.int .i64 0, .int .i64 0, .slice none 0 0, .int .i64 0, .int .i64 0, .bool false] 26)).heap.size = W.heap.size + 1 + 1 := by simp
  have G0 := Lib.hid (carryA (.cells #[.int .i64 0, .int .i64 0, .slice none 0 0, .int .i64 0, .int .i64 0, .bool false] 26) (heap_alloc_new W (.cells #[.int .i64 gw, .int .i64 gh, .slice A l.length cap, .int .i64 x, .int .i64 y, .bool k] 26)))
  have G2 := Lib.hid (heap_alloc_new (W.alloc (.cells #[.int .i64 gw, .int .i64 gh, .slice A l.length cap, .int .i64 x, .int .i64 y, .bool k] 26)) (.cells #[.int .i64 0, .int .i64 0, .slice none 0 0, .int .i64 0, .int .i64 0, .bool false] 26))
  rw [show (W.alloc (.cells #[.int .i64 gw, .int .i64 gh, .slice A l.length cap, .int .i64 x, .int .i64 y, .bool k] 26)).heap.size = W.heap.size + 1 by simp] at G2
  have HM := Lib.hid hm
  clear hv hm
  obtain ⟨u, hu⟩ : ∃ u : Trm, szT ⟨gw, gh, l, x, y, k⟩ fw fh = u := ⟨_, rfl⟩
  have HU := Lib.hid hu
  rw [hu]
  clear hu
  by_cases hr : rt ⟨gw, gh, l, x, y, k⟩
  · have HR := Lib.hid hr
    have HE := Lib.hid (show szE ⟨gw, gh, l, x, y, k⟩ = 4 from if_pos hr)
    rw [decide_eq_true hr, HE.out, Bool.true_and]
    have HFE := Lib.hid (show fitE gw gh l = 4 from if_pos hr.1)
    have HFB := Lib.hid (show fitB gw gh l fw fh = sidesB fw fh by unfold fitB; rw [decide_eq_true hr.1]; rfl)
    obtain ⟨-, hx0, hx1, hy0, hy1, -⟩ := hr
    simp only at hx0 hx1 hy0 hy1
    cases hc : sidesB fw fh
    · have HC := Lib.hid (HFB.out.trans hc)
      clear hc
      go_enter Tryd.func7, Tryd.ntmps7
      go_wp2_with fail
      refine (rtis_any gw gh x y k l A cap _ (HV0.out.below hb0) HM.out).mono ?_
      rintro e w1 ⟨rfl, hw1⟩
      rw [decide_eq_true HR.out]
      have hB1 := hb0.trans (hw1.mono hb0.size)
      have g0 := carry hw1 G0.out
      have g2 := carry hw1 G2.out
      have K2 := Lib.hid g2
      obtain ⟨⟨c0, c1, c2, c3, c4, c5⟩, ⟨f0, f1, f2, f3, f4, f5⟩, z0⟩ := blk6 g0
      clear g0 g2
      go_wp2_with fail
      refine (rfit_any gw gh fw fh _ l _ (HV0.out.below hB1).rw HM.out).mono ?_
      rintro e w2 ⟨ho, hw2⟩
      obtain rfl := ho.isnt HC.out
      rw [HFE.out]
      have HB2 := Lib.hid (hB1.trans (hw2.mono hB1.size))
      have g2 := carry hw2 K2.out
      clear c0 c1 c2 c3 c4 c5 f0 f1 f2 f3 f4 f5 z0 hw1 hw2 hB1 hb0 hz3 ho
      have L2 := Lib.hid g2
      clear g2
      go_upto_region 5 with fail
      obtain ⟨wq, hwq⟩ : ∃ wq, wq = w2.alloc (.cells #[.int .i64 0, .int .i64 0, .slice none 0 0] 24) := ⟨_, rfl⟩
      rw [← hwq]
      obtain ⟨⟨k0, k1, k2, k3, k4, k5⟩, ⟨e0, e1, e2, e3, e4, e5⟩, z2⟩ := blk6 (show wq.heap[W.heap.size + 1]? = some (.cells #[.int .i64 0, .int .i64 0, .slice none 0 0, .int .i64 0, .int .i64 0, .bool false] 26 (0, 0)) by rw [hwq]; exact carryA _ L2.out)
      have HB2 := Lib.hid (show Below W.heap.size W wq by rw [hwq]; exact HB2.out.alloc HB2.out.size _)
      clear hwq
      go_wp2
      refine bodyPost_ret (v := .tuple #[.agg #[.int .i64 0, .int .i64 0, .slice none 0 0, .int .i64 0, .int .i64 0, .bool false], .int .i64 4]) (by simp [results, Tryd.results7, go_sem, *]) rfl ⟨DO.no rfl rfl, ?_⟩
      repeat (first | (with_reducible exact HB2.out) | (with_reducible exact HB2.out.alloc HB2.out.size _) | refine Below.setCell ?_ (by simp) _)
    · have HC := Lib.hid (HFB.out.trans hc)
      have hs : 2 ≤ fw ∧ fw ≤ 80 ∧ 1 ≤ fh ∧ fh ≤ 24 := by unfold sidesB at hc; rwa [decide_eq_true_iff] at hc
      clear hc
      go_enter Tryd.func7, Tryd.ntmps7
      go_wp2_with fail
      refine (rtis_any gw gh x y k l A cap _ (HV0.out.below hb0) HM.out).mono ?_
      rintro e w1 ⟨rfl, hw1⟩
      rw [decide_eq_true HR.out]
      have hB1 := hb0.trans (hw1.mono hb0.size)
      have g0 := carry hw1 G0.out
      have g2 := carry hw1 G2.out
      have K0 := Lib.hid g0
      have K2 := Lib.hid g2
      have hz1 : W.heap.size + 1 + 1 ≤ w1.heap.size := by have := hw1.size; rw [hz3] at this; exact this
      obtain ⟨⟨c0, c1, c2, c3, c4, c5⟩, ⟨f0, f1, f2, f3, f4, f5⟩, z0⟩ := blk6 g0
      clear g0 g2
      go_wp2_with fail
      refine (rfit_any gw gh fw fh _ l _ (HV0.out.below hB1).rw HM.out).mono ?_
      rintro e w2 ⟨ho, hw2⟩
      obtain ⟨v', rfl, hown⟩ := ho.is HC.out
      obtain ⟨g, cap', rfl, hcap', hrow⟩ := hown
      have HO := Lib.hid ((Own.sh rfl hcap' hrow).mono (B' := W.heap.size + 1 + 1) (by omega))
      have HB2 := Lib.hid (hB1.trans (hw2.mono hB1.size))
      have g0 := carry hw2 K0.out
      have g2 := carry hw2 K2.out
      clear c0 c1 c2 c3 c4 c5 f0 f1 f2 f3 f4 f5 z0 hw1 hw2 hB1 hb0 hz3 ho hrow
      have L0 := Lib.hid g0
      have L2 := Lib.hid g2
      clear g0 g2
      have HU2 := Lib.hid (show u = ⟨fw, fh, fitV gw gh l fw fh, wi x (fw - 1), wi y (fh - 1), false⟩ from HU.out.symm)
      generalize hN : (fitV gw gh l fw fh).length = N at *
      go_upto_region 6 with fail
      obtain ⟨wq, hwq⟩ : ∃ wq, wq = (w2.alloc (.cells #[.int .i64 fw, .int .i64 fh, .slice (some ⟨g, 0, none⟩) N cap'] 24)).drew := ⟨_, rfl⟩
      obtain ⟨⟨c0, c1, c2, c3, c4, c5⟩, -, z0⟩ := blk6 (show wq.heap[W.heap.size]? = some (.cells #[.int .i64 gw, .int .i64 gh, .slice A l.length cap, .int .i64 x, .int .i64 y, .bool k] 26 (0, 0)) by rw [hwq]; exact carryA _ L0.out)
      obtain ⟨⟨k0, k1, k2, k3, k4, k5⟩, ⟨e0, e1, e2, e3, e4, e5⟩, z2⟩ := blk6 (show wq.heap[W.heap.size + 1]? = some (.cells #[.int .i64 0, .int .i64 0, .slice none 0 0, .int .i64 0, .int .i64 0, .bool false] 26 (0, 0)) by rw [hwq]; exact carryA _ L2.out)
      obtain ⟨g0, g1, g2, -, -, -, gz⟩ := blk3 (show wq.heap[w2.heap.size]? = some (.cells #[.int .i64 fw, .int .i64 fh, .slice (some ⟨g, 0, none⟩) N cap'] 24 (0, 0)) by rw [hwq]; exact heap_alloc_new _ _)
      have HB2 := Lib.hid (show Below W.heap.size W wq by rw [hwq]; exact (HB2.out.alloc HB2.out.size _).drew)
      have HO := Lib.hid (show Own (W.heap.size + 1 + 1) wq (.slice (some ⟨g, 0, none⟩) N cap') (fitV gw gh l fw fh) by rw [hwq]; exact HO.out.below ((Below.refl _ _).alloc (Nat.le_refl _) _).drew)
      have HSU1 := IntWalk.i64_in (fw - 1) (by omega)
      have HSU2 := IntWalk.i64_in (fh - 1) (by omega)
      refine region_tail wq hwq.symm 12 (by kernel_rfl) (by kernel_rfl) ?_
      simp only [List.take_succ_cons, List.take_zero, List.drop_succ_cons, List.drop_zero]
      clear hwq
      repeat still_step
      still_call ((rwithin_any x (fw - 1) wq).mono fun _ _ ⟨h1, h2⟩ => ⟨h1, h2.symm⟩)
      repeat still_step
      still_call ((rwithin_any y (fh - 1) wq).mono fun _ _ ⟨h1, h2⟩ => ⟨h1, h2.symm⟩)
      repeat still_step
      refine wpStill_nil ?_
      go_wp2
      refine bodyPost_ret (v := .tuple #[.agg #[.int .i64 fw, .int .i64 fh, .slice (some ⟨g, 0, none⟩) N cap', .int .i64 (wi x (fw - 1)), .int .i64 (wi y (fh - 1)), .bool false], .int .i64 0]) (by simp [results, Tryd.results7, go_sem, *]) rfl ⟨DO.yes rfl HU2.out rfl ?_, ?_⟩
      · refine .inr (Own.mono (B := W.heap.size + 1 + 1) ?_ (by omega))
        have HO' := HO.out
        repeat (first | (with_reducible exact HO') | refine Own.set1 ?_ _ _ _ (by omega))
      · have HB' := HB2.out
        repeat (first | (with_reducible exact HB') | refine Below.setCell ?_ (by simp) _)
  · have HR := Lib.hid hr
    have HE := Lib.hid (show szE ⟨gw, gh, l, x, y, k⟩ = 1 from if_neg hr)
    rw [decide_eq_false hr, HE.out, Bool.false_and]
    clear hr
    go_enter Tryd.func7, Tryd.ntmps7
    go_wp2_with fail
    refine (rtis_any gw gh x y k l A cap _ (HV0.out.below hb0) HM.out).mono ?_
    rintro e w1 ⟨rfl, hw1⟩
    rw [decide_eq_false HR.out]
    have HB1 := Lib.hid (hb0.trans (hw1.mono hb0.size))
    have g2 := carry hw1 G2.out
    obtain ⟨⟨k0, k1, k2, k3, k4, k5⟩, ⟨e0, e1, e2, e3, e4, e5⟩, z2⟩ := blk6 g2
    clear g2 hw1 hb0 hz3
    go_wp2
    refine bodyPost_ret (v := .tuple #[.agg #[.int .i64 0, .int .i64 0, .slice none 0 0, .int .i64 0, .int .i64 0, .bool false], .int .i64 1]) (by simp [results, Tryd.results7, go_sem, *]) rfl ⟨DO.no rfl rfl, ?_⟩
    repeat (first | (with_reducible exact HB1.out) | refine Below.setCell ?_ (by simp) _)
end Go.Proofs.YtkkioajmfkcloaaDoor
