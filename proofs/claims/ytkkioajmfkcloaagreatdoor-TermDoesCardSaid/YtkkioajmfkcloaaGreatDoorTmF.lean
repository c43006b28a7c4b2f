/- The program's New and Resize of a terminal. -/
import Derived.Test.YtkkioajmfkcloaaGreatDoorTmE
set_option linter.unusedVariables false
namespace Go.Proofs.YtkkioajmfkcloaaGreatDoor
open Go.RowKit Gl L Wd Gd Tm Vt
theorem rc_nil (w : World) : Rc w (.slice none 0 0) [] := ⟨none, 0, rfl, Nat.le_refl _, rfl, none, 0, rfl, .inl ⟨rfl, fun _ => rfl⟩⟩
set_option maxHeartbeats 4000000 in
theorem tnew_any (gw gh : Int) (W : World) (T : Blk W 0) :
    Calls Tryz.prog 21 #[.int .i64 gw, .int .i64 gh] W fun e w' => DO (sidesB gw gh) 4 W.heap.size (.slice none 0 0) [] w' e (nwT gw gh) ∧ Below W.heap.size W w' := by
  have hb0 : Below W.heap.size W (W.alloc (.cells #[.int .i64 0, .int .i64 0, .slice none 0 0, .int .i64 0, .int .i64 0, .bool false] 26)) := (Below.refl _ _).alloc (Nat.le_refl _) _
  have G0 := Lib.hid (heap_alloc_new W (.cells #[.int .i64 0, .int .i64 0, .slice none 0 0, .int .i64 0, .int .i64 0, .bool false] 26))
  obtain ⟨u, hu⟩ : ∃ u : Trm, nwT gw gh = u := ⟨_, rfl⟩
  have HU := Lib.hid hu
  rw [hu]
  clear hu
  cases hc : sidesB gw gh
  · have HC := Lib.hid hc
    clear hc
    go_enter Tryz.func21, Tryz.ntmps21
    go_wp2_with fail
    refine (new_any gw gh _ (T.below hb0)).mono ?_
    rintro e w1 ⟨ho, hw1⟩
    obtain rfl := ho.isnt HC.out
    have K0 := Lib.hid (carry hw1 G0.out)
    have HB := Lib.hid (hb0.trans (hw1.mono hb0.size))
    clear hw1 hb0 ho
    go_upto_region 2 with fail
    obtain ⟨wq, hwq⟩ : ∃ wq, wq = w1.alloc (.cells #[.int .i64 0, .int .i64 0, .slice none 0 0] 24) := ⟨_, rfl⟩
    rw [← hwq]
    obtain ⟨⟨c0, c1, c2, c3, c4, c5⟩, ⟨f0, f1, f2, f3, f4, f5⟩, z0⟩ := blk6 (show wq.heap[W.heap.size]? = some (.cells #[.int .i64 0, .int .i64 0, .slice none 0 0, .int .i64 0, .int .i64 0, .bool false] 26 (0, 0)) by rw [hwq]; exact carryA _ K0.out)
    obtain ⟨g0, g1, g2, -, -, -, gz⟩ := blk3 (show wq.heap[w1.heap.size]? = some (.cells #[.int .i64 0, .int .i64 0, .slice none 0 0] 24 (0, 0)) by rw [hwq]; exact heap_alloc_new _ _)
    have HB := Lib.hid (show Below W.heap.size W wq by rw [hwq]; exact HB.out.alloc HB.out.size _)
    clear hwq
    go_wp2
    refine bodyPost_ret (v := .tuple #[.agg #[.int .i64 0, .int .i64 0, .slice none 0 0, .int .i64 0, .int .i64 0, .bool false], .int .i64 4]) (by simp [results, Tryz.results21, go_sem, *]) rfl ⟨DO.no rfl rfl, ?_⟩
    repeat (first | (with_reducible exact HB.out) | (with_reducible exact HB.out.alloc HB.out.size _) | refine Below.setCell ?_ (by simp) _)
  · have HC := Lib.hid hc
    clear hc
    go_enter Tryz.func21, Tryz.ntmps21
    go_wp2_with fail
    refine (new_any gw gh _ (T.below hb0)).mono ?_
    rintro e w1 ⟨ho, hw1⟩
    obtain ⟨v', rfl, hown⟩ := ho.is HC.out
    obtain ⟨g, cap', rfl, hcap', hrow⟩ := hown
    have HO := Lib.hid ((Own.sh rfl hcap' hrow).mono (B' := W.heap.size + 1) (by simp))
    have K0 := Lib.hid (carry hw1 G0.out)
    have HB := Lib.hid (hb0.trans (hw1.mono hb0.size))
    clear hw1 hb0 ho hrow
    have HU2 := Lib.hid (show u = ⟨gw, gh, newL gw gh, 0, 0, false⟩ from HU.out.symm)
    generalize hN : (newL gw gh).length = N at *
    go_upto_region 2 with fail
    obtain ⟨wq, hwq⟩ : ∃ wq, wq = w1.alloc (.cells #[.int .i64 gw, .int .i64 gh, .slice (some ⟨g, 0, none⟩) N cap'] 24) := ⟨_, rfl⟩
    rw [← hwq]
    obtain ⟨⟨c0, c1, c2, c3, c4, c5⟩, ⟨f0, f1, f2, f3, f4, f5⟩, z0⟩ := blk6 (show wq.heap[W.heap.size]? = some (.cells #[.int .i64 0, .int .i64 0, .slice none 0 0, .int .i64 0, .int .i64 0, .bool false] 26 (0, 0)) by rw [hwq]; exact carryA _ K0.out)
    obtain ⟨g0, g1, g2, -, -, -, gz⟩ := blk3 (show wq.heap[w1.heap.size]? = some (.cells #[.int .i64 gw, .int .i64 gh, .slice (some ⟨g, 0, none⟩) N cap'] 24 (0, 0)) by rw [hwq]; exact heap_alloc_new _ _)
    have HB := Lib.hid (show Below W.heap.size W wq by rw [hwq]; exact HB.out.alloc HB.out.size _)
    have HO := Lib.hid (show Own (W.heap.size + 1) wq (.slice (some ⟨g, 0, none⟩) N cap') (newL gw gh) by rw [hwq]; exact HO.out.below ((Below.refl _ _).alloc (Nat.le_refl _) _))
    clear hwq
    go_wp2
    refine bodyPost_ret (v := .tuple #[.agg #[.int .i64 gw, .int .i64 gh, .slice (some ⟨g, 0, none⟩) N cap', .int .i64 0, .int .i64 0, .bool false], .int .i64 0]) (by simp [results, Tryz.results21, go_sem, *]) rfl ⟨DO.yes rfl HU2.out rfl ?_, ?_⟩
    · refine .inr (Own.mono (B := W.heap.size + 1) ?_ (by omega))
      have HO' := HO.out
      repeat (first | (with_reducible exact HO') | refine Own.set1 ?_ _ _ _ (by omega))
    · repeat (first | (with_reducible exact HB.out) | (with_reducible exact HB.out.alloc HB.out.size _) | refine Below.setCell ?_ (by simp) _)
/-- What is wrong with a terminal of other sides. -/
def szE (t : Trm) : Int := if rt t then 4 else 1
set_option maxHeartbeats 8000000 in
theorem tsize_any (gw gh x y fw fh : Int) (k : Bool) (l : List (Int × Int)) (A : Option Addr) (cap : Nat) (W : World) (hv : Rc W (.slice A l.length cap) l) (hm : l.length ≤ maxLen) (hg : gw ≤ 9223372036854775807) (S : Spans W 2) (T : Blk W 0) :
    Calls Tryz.prog 22 #[.agg #[.int .i64 gw, .int .i64 gh, .slice A l.length cap, .int .i64 x, .int .i64 y, .bool k], .int .i64 fw, .int .i64 fh] W fun e w' => DO (decide (rt ⟨gw, gh, l, x, y, k⟩) && sidesB fw fh) (szE ⟨gw, gh, l, x, y, k⟩) W.heap.size (.slice none 0 0) [] w' e (szT ⟨gw, gh, l, x, y, k⟩ fw fh) ∧ Below W.heap.size W w' := by
  have hb0 : Below W.heap.size W ((W.alloc (.cells #[.int .i64 gw, .int .i64 gh, .slice A l.length cap, .int .i64 x, .int .i64 y, .bool k] 26)).alloc (.cells #[.int .i64 0, .int .i64 0, .slice none 0 0, .int .i64 0, .int .i64 0, .bool false] 26)) := ((Below.refl _ _).alloc (Nat.le_refl _) _).alloc (by simp) _
  have HV0 := Lib.hid hv
  have hz3 : ((W.alloc (.cells #[.int .i64 gw, .int .i64 gh, .slice A l.length cap, .int .i64 x, .int .i64 y, .bool k] 26)).alloc (.cells #[.int .i64 0, .int .i64 0, .slice none 0 0, .int .i64 0, .int .i64 0, .bool false] 26)).heap.size = W.heap.size + 1 + 1 := by simp
  have G0 := Lib.hid (carryA (.cells #[.int .i64 0, .int .i64 0, .slice none 0 0, .int .i64 0, .int .i64 0, .bool false] 26) (heap_alloc_new W (.cells #[.int .i64 gw, .int .i64 gh, .slice A l.length cap, .int .i64 x, .int .i64 y, .bool k] 26)))
  have G2 := Lib.hid (heap_alloc_new (W.alloc (.cells #[.int .i64 gw, .int .i64 gh, .slice A l.length cap, .int .i64 x, .int .i64 y, .bool k] 26)) (.cells #[.int .i64 0, .int .i64 0, .slice none 0 0, .int .i64 0, .int .i64 0, .bool false] 26))
  rw [show (W.alloc (.cells #[.int .i64 gw, .int .i64 gh, .slice A l.length cap, .int .i64 x, .int .i64 y, .bool k] 26)).heap.size = W.heap.size + 1 by simp] at G2
  have HT := Lib.hid (fun (w' : World) hb => T.below (w' := w') hb)
  have HSP := Lib.hid (fun (w' : World) hb => S.below (w' := w') hb)
  have HM := Lib.hid hm
  clear hv T S hm
  obtain ⟨u, hu⟩ : ∃ u : Trm, szT ⟨gw, gh, l, x, y, k⟩ fw fh = u := ⟨_, rfl⟩
  have HU := Lib.hid hu
  rw [hu]
  clear hu
  by_cases hr : rt ⟨gw, gh, l, x, y, k⟩
  · have HR := Lib.hid hr
    have HE := Lib.hid (show szE ⟨gw, gh, l, x, y, k⟩ = 4 from if_pos hr)
    rw [decide_eq_true hr, HE.out, Bool.true_and]
    have HFE := Lib.hid (show fitE gw gh l = 4 from if_pos hr.1)
    have HFB := Lib.hid (show fitB gw gh l fw fh = sidesB fw fh by unfold fitB; rw [decide_eq_true hr.1]; rfl)
    obtain ⟨-, hx0, hx1, hy0, hy1, -⟩ := hr
    simp only at hx0 hx1 hy0 hy1
    cases hc : sidesB fw fh
    · have HC := Lib.hid (HFB.out.trans hc)
      clear hc
      go_enter Tryz.func22, Tryz.ntmps22
      go_wp2_with fail
      refine (tis_any gw gh x y k l A cap _ (HV0.out.below hb0) HM.out hg (HSP.out _ hb0)).mono ?_
      rintro e w1 ⟨rfl, hw1⟩
      rw [decide_eq_true HR.out]
      have hB1 := hb0.trans (hw1.mono hb0.size)
      have g0 := carry hw1 G0.out
      have g2 := carry hw1 G2.out
      have K2 := Lib.hid g2
      obtain ⟨⟨c0, c1, c2, c3, c4, c5⟩, ⟨f0, f1, f2, f3, f4, f5⟩, z0⟩ := blk6 g0
      clear g0 g2
      go_wp2_with fail
      refine (fit_any gw gh fw fh _ l _ (HV0.out.below hB1).rw (HV0.out.below hB1).cap HM.out (HSP.out _ hB1) (HT.out _ hB1)).mono ?_
      rintro e w2 ⟨ho, hw2⟩
      obtain rfl := ho.isnt HC.out
      rw [HFE.out]
      have HB2 := Lib.hid (hB1.trans (hw2.mono hB1.size))
      have g2 := carry hw2 K2.out
      clear c0 c1 c2 c3 c4 c5 f0 f1 f2 f3 f4 f5 z0 hw1 hw2 hB1 hb0 hz3 ho
      have L2 := Lib.hid g2
      clear g2
      go_upto_region 5 with fail
      obtain ⟨wq, hwq⟩ : ∃ wq, wq = w2.alloc (.cells #[.int .i64 0, .int .i64 0, .slice none 0 0] 24) := ⟨_, rfl⟩
      rw [← hwq]
      obtain ⟨⟨k0, k1, k2, k3, k4, k5⟩, ⟨e0, e1, e2, e3, e4, e5⟩, z2⟩ := blk6 (show wq.heap[W.heap.size + 1]? = some (.cells #[.int .i64 0, .int .i64 0, .slice none 0 0, .int .i64 0, .int .i64 0, .bool false] 26 (0, 0)) by rw [hwq]; exact carryA _ L2.out)
      have HB2 := Lib.hid (show Below W.heap.size W wq by rw [hwq]; exact HB2.out.alloc HB2.out.size _)
      clear hwq
      go_wp2
      refine bodyPost_ret (v := .tuple #[.agg #[.int .i64 0, .int .i64 0, .slice none 0 0, .int .i64 0, .int .i64 0, .bool false], .int .i64 4]) (by simp [results, Tryz.results22, go_sem, *]) rfl ⟨DO.no rfl rfl, ?_⟩
      repeat (first | (with_reducible exact HB2.out) | (with_reducible exact HB2.out.alloc HB2.out.size _) | refine Below.setCell ?_ (by simp) _)
    · have HC := Lib.hid (HFB.out.trans hc)
      have hs : 2 ≤ fw ∧ fw ≤ 80 ∧ 1 ≤ fh ∧ fh ≤ 24 := by unfold sidesB at hc; rwa [decide_eq_true_iff] at hc
      clear hc
      go_enter Tryz.func22, Tryz.ntmps22
      go_wp2_with fail
      refine (tis_any gw gh x y k l A cap _ (HV0.out.below hb0) HM.out hg (HSP.out _ hb0)).mono ?_
      rintro e w1 ⟨rfl, hw1⟩
      rw [decide_eq_true HR.out]
      have hB1 := hb0.trans (hw1.mono hb0.size)
      have g0 := carry hw1 G0.out
      have g2 := carry hw1 G2.out
      have K0 := Lib.hid g0
      have K2 := Lib.hid g2
      have hz1 : W.heap.size + 1 + 1 ≤ w1.heap.size := by have := hw1.size; rw [hz3] at this; exact this
      obtain ⟨⟨c0, c1, c2, c3, c4, c5⟩, ⟨f0, f1, f2, f3, f4, f5⟩, z0⟩ := blk6 g0
      clear g0 g2
      go_wp2_with fail
      refine (fit_any gw gh fw fh _ l _ (HV0.out.below hB1).rw (HV0.out.below hB1).cap HM.out (HSP.out _ hB1) (HT.out _ hB1)).mono ?_
      rintro e w2 ⟨ho, hw2⟩
      obtain ⟨v', rfl, hown⟩ := ho.is HC.out
      obtain ⟨g, cap', rfl, hcap', hrow⟩ := hown
      have HO := Lib.hid ((Own.sh rfl hcap' hrow).mono (B' := W.heap.size + 1 + 1) (by omega))
      have HB2 := Lib.hid (hB1.trans (hw2.mono hB1.size))
      have g0 := carry hw2 K0.out
      have g2 := carry hw2 K2.out
      clear c0 c1 c2 c3 c4 c5 f0 f1 f2 f3 f4 f5 z0 hw1 hw2 hB1 hb0 hz3 ho hrow
      have L0 := Lib.hid g0
      have L2 := Lib.hid g2
      clear g0 g2
      have HU2 := Lib.hid (show u = ⟨fw, fh, fitV gw gh l fw fh, wi x (fw - 1), wi y (fh - 1), false⟩ from HU.out.symm)
      generalize hN : (fitV gw gh l fw fh).length = N at *
      go_upto_region 6 with fail
      obtain ⟨wq, hwq⟩ : ∃ wq, wq = w2.alloc (.cells #[.int .i64 fw, .int .i64 fh, .slice (some ⟨g, 0, none⟩) N cap'] 24) := ⟨_, rfl⟩
      rw [← hwq]
      obtain ⟨⟨c0, c1, c2, c3, c4, c5⟩, -, z0⟩ := blk6 (show wq.heap[W.heap.size]? = some (.cells #[.int .i64 gw, .int .i64 gh, .slice A l.length cap, .int .i64 x, .int .i64 y, .bool k] 26 (0, 0)) by rw [hwq]; exact carryA _ L0.out)
      obtain ⟨⟨k0, k1, k2, k3, k4, k5⟩, ⟨e0, e1, e2, e3, e4, e5⟩, z2⟩ := blk6 (show wq.heap[W.heap.size + 1]? = some (.cells #[.int .i64 0, .int .i64 0, .slice none 0 0, .int .i64 0, .int .i64 0, .bool false] 26 (0, 0)) by rw [hwq]; exact carryA _ L2.out)
      obtain ⟨g0, g1, g2, -, -, -, gz⟩ := blk3 (show wq.heap[w2.heap.size]? = some (.cells #[.int .i64 fw, .int .i64 fh, .slice (some ⟨g, 0, none⟩) N cap'] 24 (0, 0)) by rw [hwq]; exact heap_alloc_new _ _)
      have HB2 := Lib.hid (show Below W.heap.size W wq by rw [hwq]; exact HB2.out.alloc HB2.out.size _)
      have HO := Lib.hid (show Own (W.heap.size + 1 + 1) wq (.slice (some ⟨g, 0, none⟩) N cap') (fitV gw gh l fw fh) by rw [hwq]; exact HO.out.below ((Below.refl _ _).alloc (Nat.le_refl _) _))
      clear hwq
      go_wp2
      all_goals
        refine bodyPost_ret (v := .tuple #[.agg #[.int .i64 fw, .int .i64 fh, .slice (some ⟨g, 0, none⟩) N cap', .int .i64 (wi x (fw - 1)), .int .i64 (wi y (fh - 1)), .bool false], .int .i64 0]) ?_ rfl ⟨DO.yes rfl HU2.out rfl ?_, ?_⟩
        · unfold wi
          simp [results, Tryz.results22, go_sem, *]
          constructor <;> (repeat' split) <;> omega
        · refine .inr (Own.mono (B := W.heap.size + 1 + 1) ?_ (by omega))
          have HO' := HO.out
          repeat (first | (with_reducible exact HO') | refine Own.set1 ?_ _ _ _ (by omega))
        · repeat (first | (with_reducible exact HB2.out) | (with_reducible exact HB2.out.alloc HB2.out.size _) | refine Below.setCell ?_ (by simp) _)
  · have HR := Lib.hid hr
    have HE := Lib.hid (show szE ⟨gw, gh, l, x, y, k⟩ = 1 from if_neg hr)
    rw [decide_eq_false hr, HE.out, Bool.false_and]
    clear hr
    go_enter Tryz.func22, Tryz.ntmps22
    go_wp2_with fail
    refine (tis_any gw gh x y k l A cap _ (HV0.out.below hb0) HM.out hg (HSP.out _ hb0)).mono ?_
    rintro e w1 ⟨rfl, hw1⟩
    rw [decide_eq_false HR.out]
    have HB1 := Lib.hid (hb0.trans (hw1.mono hb0.size))
    have g2 := carry hw1 G2.out
    obtain ⟨⟨k0, k1, k2, k3, k4, k5⟩, ⟨e0, e1, e2, e3, e4, e5⟩, z2⟩ := blk6 g2
    clear g2 hw1 hb0 hz3
    go_wp2
    refine bodyPost_ret (v := .tuple #[.agg #[.int .i64 0, .int .i64 0, .slice none 0 0, .int .i64 0, .int .i64 0, .bool false], .int .i64 1]) (by simp [results, Tryz.results22, go_sem, *]) rfl ⟨DO.no rfl rfl, ?_⟩
    repeat (first | (with_reducible exact HB1.out) | refine Below.setCell ?_ (by simp) _)
end Go.Proofs.YtkkioajmfkcloaaGreatDoor
