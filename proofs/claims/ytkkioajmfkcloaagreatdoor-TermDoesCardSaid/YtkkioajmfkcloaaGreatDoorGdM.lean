/- The contracts of Put and Blank of a grid. -/
import Derived.Test.YtkkioajmfkcloaaGreatDoorMWp
import Derived.Test.YtkkioajmfkcloaaGreatDoorGdK
set_option linter.unusedVariables false
namespace Go.Proofs.YtkkioajmfkcloaaGreatDoor
open Go.RowKit Gl L Wd Gd
set_option maxHeartbeats 4000000 in
theorem gput_any (gw gh x y r : Int) (v : Value) (L : List (Int × Int)) (w : World) (hv : Rw w v 2 L.length (flat L)) (hm : L.length ≤ maxLen) (S : Spans w 2) (T : Blk w 0) :
    Calls Tryz.prog 78 #[.agg #[.int .i64 gw, .int .i64 gh, v], .int .i64 x, .int .i64 y, .int .i32 r] w fun e w' => Out (putB gw gh L x y r) 1 w.heap.size w' e gw gh (putL gw L x y r) ∧ Below w.heap.size w w' := by
  have hb0 : Below w.heap.size w ((w.alloc (.cells #[.int .i64 gw, .int .i64 gh, v] 24)).alloc (.cells #[.int .i64 0, .int .i64 0, .slice none 0 0] 24)) := ((Below.refl _ _).alloc (Nat.le_refl _) _).alloc (by simp) _
  cases hs : shw r
  · have HS := Lib.hid hs
    have HP := Lib.hid (show putB gw gh L x y r = false by unfold putB; rw [hs]; simp)
    clear hs
    go_enter Tryz.func78, Tryz.ntmps78
    go_wp2_with fail
    refine (shown_any _ _).mono ?_
    rintro e w1 ⟨rfl, rfl⟩
    rw [HS.out]
    go_wp2
    refine bodyPost_ret (v := .tuple #[.agg #[.int .i64 0, .int .i64 0, .slice none 0 0], .int .i64 1]) (by simp [results, Tryz.results78, go_sem]) rfl ⟨Out.no HP.out rfl, hb0⟩
  by_cases hp : place gw gh L x y
  · have HPL := Lib.hid hp
    have HS := Lib.hid hs
    obtain ⟨W, H, X, Y, rfl, rfl, rfl, rfl, hR, hX, hY, hlt, hlt2⟩ := place_nat hp
    have hlen : L.length ≤ 1920 := by rw [hR.len]; exact Nat.mul_le_mul hR.w80 hR.h24
    have w80 := hR.w80
    have HR := Lib.hid hR
    clear hp hs hR
    have hcl := cl_len r
    obtain ⟨A, cap, rfl⟩ : ∃ A cap, v = .slice A L.length cap := ⟨_, _, hv.2.choose_spec.choose_spec.1⟩
    have hc00 := old_cell hb0
    go_enter Tryz.func78, Tryz.ntmps78
    go_wp2_with fail
    refine (shown_any _ _).mono ?_
    rintro e w1 ⟨rfl, rfl⟩
    rw [HS.out]
    go_wp2_with fail
    refine (gplace_any _ _ _ _ _ L _ (hv.below hb0) hm (S.below hb0)).mono ?_
    rintro e w1 ⟨rfl, hb1⟩
    rw [decide_eq_true HPL.out]
    have hc1 := old_cell hb1
    have hf1 := old_frozen hb1
    have hw1 := hb0.trans (hb1.mono hb0.size)
    go_wp2_with fail
    refine (cells_any r _ (S.below hw1)).mono ?_
    rintro e w2 ⟨g, capl, rfl, hrl, hb2⟩
    have hrw2 := hw1.trans (hb2.mono hw1.size)
    have hc2 := old_cell (hb1.trans (hb2.mono hb1.size))
    have hf2 := old_frozen (hb1.trans (hb2.mono hb1.size))
    have HRL := Lib.hid hrl
    have hzz : w.heap.size + 1 < w2.heap.size := by have := (hb1.trans (hb2.mono hb1.size)).size; simp at this; omega
    have HW2 := Lib.hid hrw2
    have HX := Lib.hid (put_fits (r := r) (X := X) (W := W) HS.out hX)
    by_cases hfit : X + (cl r).length ≤ W
    · have d1 : decide ((W : Int) < (X : Int) + ((cl r).length : Int)) = false := by rw [decide_eq_false_iff_not]; omega
      have HP := Lib.hid (show putB W H L X Y r = true by
        unfold putB; rw [decide_eq_true HPL.out, HS.out, HX.out.1 (by omega)]; rfl)
      have hfr : Y * W + X + (cl r).length ≤ L.length := by omega
      have HLY := Lib.hid (show ∀ wz, Below w.heap.size w wz → Rw wz (.slice (some ⟨g, 0, none⟩) (cl r).length capl) 2 (cl r).length (flat (cl r)) → Calls Tryz.prog 93 #[.agg #[.int .i64 W, .int .i64 H, .slice A L.length cap], .int .i64 ((Y : Int) * (W : Int) + (X : Int)), .slice (some ⟨g, 0, none⟩) (cl r).length capl] wz fun e w' => (∃ v', e = .returned (.agg #[.int .i64 W, .int .i64 H, v']) ∧ Own wz.heap.size w' v' (putL W L X Y r)) ∧ Below wz.heap.size wz w' from fun wz hb hr => by
        have e : (Y : Int) * (W : Int) + (X : Int) = ((Y * W + X : Nat) : Int) := by simp
        have em : (Y * W + X) % W = X := by rw [Nat.add_comm, Nat.add_mul_mod_self_right, Nat.mod_eq_of_lt hX]
        have el : putL W L X Y r = lay L (Y * W + X) (cl r) := by
          rw [lay_mend HR.out hfr (cl_self HS.out (by rw [em]; omega) (by omega))]; rfl
        rw [e, el]
        exact glay_any W H _ _ L (Y * W + X) (cl r) wz (hv.below hb) hr HR.out hfr (T.below hb))
      clear hfr hrl hrw2 hb1 hb2 hc1 hf1 hw1 hfit
      go_wp2_with fail
      refine (HLY.out _ HW2.out HRL.out).mono ?_
      rintro e w3 ⟨⟨v3, rfl, hown⟩, hb3⟩
      obtain ⟨g3, cap3, rfl, hcap3, hrow⟩ := hown
      have HO := Lib.hid (Own.sh rfl hcap3 hrow)
      have hc3 := old_cell hb3
      have hf3 := old_frozen hb3
      have hz3 := hb3.size
      have hz2 := HW2.out.size
      generalize hN : (putL W L X Y r).length = N
      clear hrow
      go_wp2
      refine bodyPost_ret (v := .tuple #[.agg #[.int .i64 W, .int .i64 H, .slice (some ⟨g3, 0, none⟩) N cap3], .int .i64 0]) (by simp [results, Tryz.results78, go_sem, hc3, hc2, hzz]) rfl ⟨Out.yes HP.out ⟨_, rfl, ?_⟩, ?_⟩
      · rw [← hN]
        exact (((HO.out.set1 _ _ _ (by omega)).set1 _ _ _ (by omega)).set1 _ _ _ (by omega)).mono (by omega)
      · exact ((((HW2.out.trans (hb3.mono HW2.out.size)).setCell (by simp) _).setCell (by simp) _).setCell (by simp) _)
    · have d1 : decide ((W : Int) < (X : Int) + ((cl r).length : Int)) = true := by rw [decide_eq_true_iff]; omega
      have HP := Lib.hid (show putB W H L X Y r = false by
        unfold putB; rw [decide_eq_true HPL.out, HS.out]
        cases h : (wid r && decide ((X : Int) = (W : Int) - 1))
        · exact absurd (HX.out.2 h) (by omega)
        · rfl)
      clear hrl hrw2 hb1 hb2 hc1 hf1 hw1 hfit
      go_wp2
      refine bodyPost_ret (v := .tuple #[.agg #[.int .i64 0, .int .i64 0, .slice none 0 0], .int .i64 1]) (by simp [results, Tryz.results78, go_sem, hc2]) rfl ⟨Out.no HP.out rfl, ?_⟩
      exact (((HW2.out.setCell (by simp) _).setCell (by simp) _).setCell (by simp) _)
  · have HPL := Lib.hid hp
    have HS := Lib.hid hs
    have HP := Lib.hid (show putB gw gh L x y r = false by unfold putB; rw [decide_eq_false hp]; rfl)
    clear hp hs
    go_enter Tryz.func78, Tryz.ntmps78
    go_wp2_with fail
    refine (shown_any _ _).mono ?_
    rintro e w1 ⟨rfl, rfl⟩
    rw [HS.out]
    go_wp2_with fail
    refine (gplace_any _ _ _ _ _ L _ (hv.below hb0) hm (S.below hb0)).mono ?_
    rintro e w1 ⟨rfl, hb1⟩
    rw [decide_eq_false HPL.out]
    have hc1 := old_cell hb1
    have hf1 := old_frozen hb1
    have hw1 := hb0.trans (hb1.mono hb0.size)
    go_wp2
    refine bodyPost_ret (v := .tuple #[.agg #[.int .i64 0, .int .i64 0, .slice none 0 0], .int .i64 1]) (by simp [results, Tryz.results78, go_sem, hc1]) rfl ⟨Out.no HP.out rfl, ?_⟩
    exact (((hw1.setCell (by simp) _).setCell (by simp) _).setCell (by simp) _)
end Go.Proofs.YtkkioajmfkcloaaGreatDoor
