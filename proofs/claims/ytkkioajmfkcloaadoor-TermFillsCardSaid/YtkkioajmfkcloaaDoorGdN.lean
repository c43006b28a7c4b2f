/- The contract of Blank of a grid. -/
import Derived.Test.YtkkioajmfkcloaaDoorMWp
import Derived.Test.YtkkioajmfkcloaaDoorGdK
import Derived.Deep.RegionWith
set_option linter.unusedVariables false
namespace Go.Proofs.YtkkioajmfkcloaaDoor
open Go.RowKit Gl L Wd Gd
set_option maxHeartbeats 2000000 in
theorem blank_any (gw gh fr to : Int) (v : Value) (L : List (Int × Int)) (w : World) (hv : Rw w v 2 L.length (flat L)) (hm : L.length ≤ maxLen) (S : Spans w 2) (T : Blk w 0) :
    Calls Tryd.prog 79 #[.agg #[.int .i64 gw, .int .i64 gh, v], .int .i64 fr, .int .i64 to] w fun e w' => Out (blankB gw gh L fr to) 1 w.heap.size w' e gw gh (blankL gw L fr to) ∧ Below w.heap.size w w' := by
  have hb0 : Below w.heap.size w ((w.alloc (.cells #[.int .i64 gw, .int .i64 gh, v] 24)).alloc (.cells #[.int .i64 0, .int .i64 0, .slice none 0 0] 24)) := ((Below.refl _ _).alloc (Nat.le_refl _) _).alloc (by simp) _
  obtain ⟨A, cap, rfl⟩ : ∃ A cap, v = .slice A L.length cap := ⟨_, _, hv.2.choose_spec.choose_spec.1⟩
  have hmm := hm
  unfold maxLen at hmm
  by_cases hp : 0 ≤ fr ∧ fr ≤ to ∧ to ≤ (L.length : Int)
  · have HPL := Lib.hid hp
    obtain ⟨p1, p2, p3⟩ := hp
    have d1 : decide (fr < 0) = false := by rw [decide_eq_false_iff_not]; omega
    have d2 : decide (to < fr) = false := by rw [decide_eq_false_iff_not]; omega
    have d3 : decide ((L.length : Int) < to) = false := by rw [decide_eq_false_iff_not]; omega
    by_cases hr : right gw gh L
    · have HP := Lib.hid (show blankB gw gh L fr to = true by unfold blankB; rw [decide_eq_true hr, decide_eq_true HPL.out]; rfl)
      obtain ⟨W, H, rfl, rfl, hR⟩ := right_R hr
      obtain ⟨F, rfl⟩ : ∃ F : Nat, fr = F := ⟨fr.toNat, by omega⟩
      obtain ⟨N, rfl⟩ : ∃ N : Nat, to = F + N := ⟨(to - F).toNat, by omega⟩
      have hlen : L.length ≤ 1920 := by rw [hR.len]; exact Nat.mul_le_mul hR.w80 hR.h24
      have HR := Lib.hid hR
      have HRR := Lib.hid hr
      clear hr hR
      have hf : F + N ≤ L.length := by omega
      have HBL := Lib.hid (show ∀ wz, Blk wz 0 → Calls Tryd.prog 25 #[.int .i64 ((F : Int) + (N : Int) - (F : Int))] wz fun e w' => ∃ v, e = .returned v ∧ Own wz.heap.size w' v (List.replicate N bl) ∧ Below wz.heap.size wz w' from fun wz T => by rw [show (F : Int) + (N : Int) - (F : Int) = N by omega]; exact blanks_any N (by omega) wz T)
      have HLY := Lib.hid (show ∀ wz vl, Below w.heap.size w wz → Rw wz vl 2 N (flat (List.replicate N bl)) → Calls Tryd.prog 29 #[.agg #[.int .i64 W, .int .i64 H, .slice A L.length cap], .int .i64 (F : Int), vl] wz fun e w' => (∃ v', e = .returned (.agg #[.int .i64 W, .int .i64 H, v']) ∧ Own wz.heap.size w' v' (blankL W L F (F + N))) ∧ Below wz.heap.size wz w' from fun wz vl hb hr => by
        have el : blankL W L F (F + N) = lay L F (List.replicate N bl) := by
          rw [lay_mend HR.out (by simp; omega) (rep_self _ _ _)]
          unfold blankL
          rw [show ((F : Int) + N - F).toNat = N by omega]
          rfl
        rw [el]
        exact glay_any W H _ _ L F (List.replicate N bl) wz (hv.below hb) (by rw [List.length_replicate]; exact hr) HR.out (by simp; omega) (T.below hb))
      go_enter Tryd.func79, Tryd.ntmps79
      go_wp2_with fail
      refine (is_grid_any _ _ _ L _ (hv.below hb0) hm (S.below hb0)).mono ?_
      rintro e w1 ⟨rfl, hb1⟩
      rw [decide_eq_true HRR.out]
      have hc1 := old_cell hb1
      have hf1 := old_frozen hb1
      have hw1 := hb0.trans (hb1.mono hb0.size)
      go_wp2
      have hz0 := hb1.size
      have HSUM := (IntWalk.i64_in ((F : Int) + (N : Int) - (F : Int)) (by omega))
      have hT1 := T.below hw1.drew
      go_region_with (first | (go_at_call 25; refine (HBL.out _ hT1).mono ?_; rintro e w2 ⟨v2, rfl, hown, hb2⟩; have hwb2 := hw1.drew.trans (hb2.mono hw1.size); have hr2 := hown.rw; rw [List.length_replicate] at hr2; have hbb2 := hb1.drew.trans (hb2.mono hb1.size); have hc2 := old_cell hbb2; have hf2 := old_frozen hbb2; have hz2 := hbb2.size) | (go_at_call 29; refine (HLY.out _ _ hwb2 hr2).mono ?_; rintro e w3 ⟨⟨v3, rfl, hown3⟩, hb3⟩; obtain ⟨g3, cap3, rfl, hcap3, hrow3⟩ := hown3; have HO := Lib.hid (Own.sh rfl hcap3 hrow3); clear hrow3; have hc3 := old_cell hb3; have hf3 := old_frozen hb3; have hz3 := hb3.size; have hzz : w.heap.size + 1 < w2.heap.size := (by have := hbb2.size; simp at this; omega); generalize hN : (blankL W L F (F + N)).length = M))
      all_goals go_wp2
      all_goals refine bodyPost_ret (v := .tuple #[.agg #[.int .i64 W, .int .i64 H, .slice (some ⟨g3, 0, none⟩) M cap3], .int .i64 0]) (by simp [results, Tryd.results79, go_sem, hc3, hc2, hzz]) rfl ⟨Out.yes HP.out ⟨_, rfl, ?_⟩, ?_⟩
      all_goals first
        | (rw [← hN]; exact (((HO.out.set1 _ _ _ (by omega)).set1 _ _ _ (by omega)).set1 _ _ _ (by omega)).mono (by omega))
        | exact ((((hwb2.trans (hb3.mono hwb2.size)).setCell (by simp) _).setCell (by simp) _).setCell (by simp) _)
    · have HP := Lib.hid (show blankB gw gh L fr to = false by unfold blankB; rw [decide_eq_false hr]; rfl)
      have HRR := Lib.hid hr
      clear hr
      go_enter Tryd.func79, Tryd.ntmps79
      go_wp2_with fail
      refine (is_grid_any _ _ _ L _ (hv.below hb0) hm (S.below hb0)).mono ?_
      rintro e w1 ⟨rfl, hb1⟩
      rw [decide_eq_false HRR.out]
      have hc1 := old_cell hb1
      have hf1 := old_frozen hb1
      have hw1 := hb0.trans (hb1.mono hb0.size)
      go_wp2
      refine bodyPost_ret (v := .tuple #[.agg #[.int .i64 0, .int .i64 0, .slice none 0 0], .int .i64 1]) (by simp [results, Tryd.results79, go_sem, hc1]) rfl ⟨Out.no HP.out rfl, ?_⟩
      exact (((hw1.setCell (by simp) _).setCell (by simp) _).setCell (by simp) _)
  · have HP := Lib.hid (show blankB gw gh L fr to = false by unfold blankB; rw [decide_eq_false hp, Bool.and_false])
    have HPP := Lib.hid hp
    clear hp
    cases d1 : decide (fr < 0)
    · cases d2 : decide (to < fr)
      · cases d3 : decide ((L.length : Int) < to)
        · simp only [decide_eq_false_iff_not] at d1 d2 d3
          exact absurd (show 0 ≤ fr ∧ fr ≤ to ∧ to ≤ (L.length : Int) by omega) HPP.out
        all_goals
          go_enter Tryd.func79, Tryd.ntmps79
          go_wp2
          refine bodyPost_ret (v := .tuple #[.agg #[.int .i64 0, .int .i64 0, .slice none 0 0], .int .i64 1]) (by simp [results, Tryd.results79, go_sem]) rfl ⟨Out.no HP.out rfl, hb0⟩
      · go_enter Tryd.func79, Tryd.ntmps79
        go_wp2
        refine bodyPost_ret (v := .tuple #[.agg #[.int .i64 0, .int .i64 0, .slice none 0 0], .int .i64 1]) (by simp [results, Tryd.results79, go_sem]) rfl ⟨Out.no HP.out rfl, hb0⟩
    · go_enter Tryd.func79, Tryd.ntmps79
      go_wp2
      refine bodyPost_ret (v := .tuple #[.agg #[.int .i64 0, .int .i64 0, .slice none 0 0], .int .i64 1]) (by simp [results, Tryd.results79, go_sem]) rfl ⟨Out.no HP.out rfl, hb0⟩
end Go.Proofs.YtkkioajmfkcloaaDoor
