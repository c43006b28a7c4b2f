/- The contract of the reference's Fit of a grid. -/
import Derived.Test.YtkkioajmfkcloaaDoorMGu
import Derived.Test.YtkkioajmfkcloaaDoorMGe
set_option linter.unusedVariables false
namespace Go.Proofs.YtkkioajmfkcloaaDoor
open Go.RowKit Gl L Wd Gd
set_option maxHeartbeats 4000000 in
theorem rfit_any (gw gh fw fh : Int) (v : Value) (L : List (Int × Int)) (w : World) (hv : Rw w v 2 L.length (flat L)) (hm : L.length ≤ maxLen) :
    Calls Tryd.prog 18 #[.agg #[.int .i64 gw, .int .i64 gh, v], .int .i64 fw, .int .i64 fh] w fun e w' => Out (fitB gw gh L fw fh) (fitE gw gh L) w.heap.size w' e fw fh (fitV gw gh L fw fh) ∧ Below w.heap.size w w' := by
  have hb0 : Below w.heap.size w ((w.alloc (.cells #[.int .i64 gw, .int .i64 gh, v] 24)).alloc (.cells #[.int .i64 0, .int .i64 0, .slice none 0 0] 24)) := ((Below.refl _ _).alloc (Nat.le_refl _) _).alloc (by simp) _
  obtain ⟨A, cap, rfl⟩ : ∃ A cap, v = .slice A L.length cap := ⟨_, _, hv.2.choose_spec.choose_spec.1⟩
  by_cases hr : right gw gh L
  · have HRR := Lib.hid hr
    have HE := Lib.hid (show fitE gw gh L = 4 from if_pos hr)
    cases hs : sidesB fw fh
    · have HP := Lib.hid (show fitB gw gh L fw fh = false by unfold fitB; rw [hs, Bool.and_false])
      have HS := Lib.hid hs
      clear hr hs
      go_enter Tryd.func18, Tryd.ntmps18
      go_wp2_with fail
      refine (ris_grid_any _ _ _ L _ (hv.below hb0) hm).mono ?_
      rintro e w1 ⟨rfl, hb1⟩
      rw [decide_eq_true HRR.out]
      have hw1 := hb0.trans (hb1.mono hb0.size)
      go_wp2_with fail
      refine (rnew_any _ _ _).mono ?_
      rintro e w2 ⟨ho, hb2⟩
      obtain rfl := ho.isnt HS.out
      have hbb2 := hb1.trans (hb2.mono hb1.size)
      have hc2 := old_cell hbb2
      have hf2 := old_frozen hbb2
      have hzz : w.heap.size + 1 < w2.heap.size := by have := hbb2.size; simp at this; omega
      have hw2 := hw1.trans (hb2.mono hw1.size)
      go_wp2
      refine bodyPost_ret (v := .tuple #[.agg #[.int .i64 0, .int .i64 0, .slice none 0 0], .int .i64 4]) (by simp [results, Tryd.results18, go_sem, hc2, hzz]) rfl ⟨Out.no HP.out (by rw [HE.out]; rfl), ?_⟩
      exact (((hw2.setCell (by simp) _).setCell (by simp) _).setCell (by simp) _).alloc (by simp; exact hw2.size) _
    · have HP := Lib.hid (show fitB gw gh L fw fh = true by unfold fitB; rw [hs, decide_eq_true hr]; rfl)
      have HS := Lib.hid hs
      obtain ⟨W, H, rfl, rfl, hR⟩ := right_R hr
      obtain ⟨w', h', rfl, rfl, g2, g80, g1, g24⟩ := sides_of hs
      have hlen : L.length ≤ 1920 := by rw [hR.len]; exact Nat.mul_le_mul hR.w80 hR.h24
      have w80 := hR.w80
      have h24 := hR.h24
      have wz2 := hR.w2
      have hz1 := hR.h1
      have h0 : 0 < L.length := by rw [hR.len]; exact Nat.mul_pos (by omega) (by omega)
      have hN : w' * h' ≤ 1920 := Nat.mul_le_mul g80 g24
      have HR := Lib.hid hR
      clear hr hs hR
      obtain ⟨b, off, rfl, _, hc0⟩ := Rw.cell2 hv h0
      have hbw : b < w.heap.size := World.block_lt_of_cell? w _ (hc0 0 h0).1
      clear hc0
      go_enter Tryd.func18, Tryd.ntmps18
      go_wp2_with fail
      refine (ris_grid_any _ _ _ L _ (hv.below hb0) hm).mono ?_
      rintro e w1 ⟨rfl, hb1⟩
      rw [decide_eq_true HRR.out]
      have hw1 := hb0.trans (hb1.mono hb0.size)
      go_wp2_with fail
      refine (rnew_any _ _ _).mono ?_
      rintro e w2 ⟨ho, hb2⟩
      obtain ⟨v2, rfl, hown⟩ := ho.is HS.out
      obtain ⟨g, capg, rfl, hcapg, hrow⟩ := hown.op (n := w' * h') (by unfold newL; simp)
      have hbb2 := hb1.trans (hb2.mono hb1.size)
      have hzz : w.heap.size + 1 < w2.heap.size := by have := hbb2.size; simp at this; omega
      have hzy : w.heap.size < w2.heap.size := by omega
      have hz11 : w.heap.size + 1 + 1 ≤ w1.heap.size := by have := hb1.size; simp at this; omega
      have hgl := hrow.lt g rfl
      have hrow0 : w2.ownsRow (w.heap.size + 1 + 1) 48 2 (.slice (some ⟨g, 0, none⟩) (w' * h') capg) (w' * h') (flat (cellsK W H w' h' L 0 0)) := by
        rw [cellsK_0]; unfold newL at hrow; simpa using ownsRow_mono hrow hz11
      have hb3 : Below (w.heap.size + 1 + 1) _ w2 := hbb2.mono (B' := w.heap.size + 1 + 1) (by simp)
      have hc2 := old_cell hbb2
      have HW2 := Lib.hid (hw1.trans (hb2.mono hw1.size))
      clear hown hrow hb1 hb2 hw1 hbb2
      go_wp2
      go_loopw [10] (fun i wr => ∃ k : Nat, (k ≤ h' ∧ k ≤ H) ∧ i = .int .i64 k ∧ wr.ownsRow (w.heap.size + 1 + 1) 48 2 (.slice (some ⟨g, 0, none⟩) (w' * h') capg) (w' * h') (flat (cellsK W H w' h' L k 0)) ∧ wr.heap[w2.heap.size]? = some (.cells #[.int .i64 w', .int .i64 h', .slice (some ⟨g, 0, none⟩) (w' * h') capg] 24 (0, 0)) ∧ Below (w.heap.size + 1 + 1) ((w.alloc (.cells #[.int .i64 W, .int .i64 H, .slice (some ⟨b, off, none⟩) L.length cap] 24)).alloc (.cells #[.int .i64 0, .int .i64 0, .slice none 0 0] 24)) wr) (fun i _ => h' - (intOf i).toNat)
      case atStart => exact ⟨0, ⟨Nat.zero_le _, Nat.zero_le _⟩, rfl, hrow0.alloc _, heap_alloc_new w2 _, hb3.alloc (by omega) _⟩
      case round =>
        obtain ⟨k, ⟨hk, hkH⟩, rfl, hown, hg, hw⟩ := hrel
        obtain ⟨b1, b2, b3, f1, f2, f3, hsz⟩ := blk3 hg
        have hww : Below w.heap.size w wr := hb0.trans (hw.mono (by omega))
        have hc1 := old_cell (hw.mono (by simp))
        have hf1 := old_frozen (hw.mono (by simp))
        have hwz : w.heap.size + 1 + 1 ≤ wr.heap.size := by omega
        by_cases hlt : k < h' ∧ k < H
        · obtain ⟨hkh, hkH2⟩ := hlt
          have HO := Lib.hid hown
          have HG := Lib.hid hg
          have HB := Lib.hid hw
          clear hown hg hw
          obtain ⟨wo, hwo⟩ : ∃ wo : World, wo = wr := ⟨_, rfl⟩
          subst hwo
          go_wp2
          go_loopw [11] (fun i wi => ∃ j : Nat, (j ≤ w' ∧ j ≤ W) ∧ i = .int .i64 j ∧ wi.ownsRow (w.heap.size + 1 + 1) 48 2 (.slice (some ⟨g, 0, none⟩) (w' * h') capg) (w' * h') (flat (cellsK W H w' h' L k j)) ∧ wi.heap[w2.heap.size]? = some (.cells #[.int .i64 w', .int .i64 h', .slice (some ⟨g, 0, none⟩) (w' * h') capg] 24 (0, 0)) ∧ Below (w.heap.size + 1 + 1) ((w.alloc (.cells #[.int .i64 W, .int .i64 H, .slice (some ⟨b, off, none⟩) L.length cap] 24)).alloc (.cells #[.int .i64 0, .int .i64 0, .slice none 0 0] 24)) wi) (fun i _ => w' - (intOf i).toNat)
          case atStart => exact ⟨0, ⟨Nat.zero_le _, Nat.zero_le _⟩, rfl, HO.out, HG.out, HB.out⟩
          case round =>
            obtain ⟨j, ⟨hj, hjW⟩, rfl, hown, hg, hw⟩ := hrel
            clear b1 b2 b3 f1 f2 f3 hc1 hf1
            obtain ⟨b1, b2, b3, f1, f2, f3, hsz2⟩ := blk3 hg
            have hww2 : Below w.heap.size w wr := hb0.trans (hw.mono (by omega))
            have hc1 := old_cell (hw.mono (by simp))
            have hf1 := old_frozen (hw.mono (by simp))
            have hwz2 : w.heap.size + 1 + 1 ≤ wr.heap.size := by omega
            have HO2 := Lib.hid hown
            have HG2 := Lib.hid hg
            have HB2 := Lib.hid hw
            by_cases hlt : j < w' ∧ j < W
            · obtain ⟨hjw, hjW2⟩ := hlt
              have hi1 : k * w' + j < w' * h' := in_lt hkh hjw
              have hi2 : k * W + j < L.length := by rw [HR.out.len]; exact in_lt hkH2 hjW2
              have HNX := Lib.hid (cellsK_next (L := L) hkh hkH2 hjw hjW2)
              obtain ⟨p1, p2⟩ := Rw.at2 (hv.below hww2) (k * W + j) hi2
              have hbr : b < wr.heap.size := World.block_lt_of_cell? wr _ p1
              obtain ⟨p1', p2'⟩ := Rw.at2 hv (k * W + j) hi2
              generalize hxy : L.getD (k * W + j) (0, 0) = xy at p1 p2 p1' p2'
              obtain ⟨x3, y3⟩ := xy
              simp only at p1 p2 p1' p2'
              have HXY := Lib.hid hxy
              obtain ⟨x4, y4, _, p3, p4, q3, q4⟩ := own_cells hown (k * w' + j) hi1
              have HS3 := Lib.hid (ownsRow_set2 hown ((k * w' + j) * 2) (.int .i32 x3) (.int .i64 y3))
              have m1 : 0 ≤ (k : Int) * (w' : Int) := Int.mul_nonneg (Int.natCast_nonneg _) (Int.natCast_nonneg _)
              have m2 : 0 ≤ (k : Int) * (W : Int) := Int.mul_nonneg (Int.natCast_nonneg _) (Int.natCast_nonneg _)
              have i1 : (k : Int) * (w' : Int) + (j : Int) < ((w' * h' : Nat) : Int) := by rw [← Int.natCast_mul]; omega
              have i2 : (k : Int) * (W : Int) + (j : Int) < (L.length : Int) := by rw [← Int.natCast_mul]; omega
              have n1 : 0 ≤ (k : Int) * (w' : Int) + (j : Int) := by omega
              have n2 : 0 ≤ (k : Int) * (W : Int) + (j : Int) := by omega
              have n3 : ((k : Int) * (w' : Int) + (j : Int)).toNat = k * w' + j := by rw [← Int.natCast_mul]; omega
              have n4 : ((k : Int) * (W : Int) + (j : Int)).toNat = k * W + j := by rw [← Int.natCast_mul]; omega
              have hNi : ((w' * h' : Nat) : Int) ≤ 1920 := by omega
              have i3 : (k : Int) * (w' : Int) + (j : Int) < (w' : Int) * (h' : Int) := by rw [Int.natCast_mul] at i1; exact i1
              have s1 := IntWalk.i64_in ((k : Int) * (w' : Int)) (by omega)
              have s2 := IntWalk.i64_in ((k : Int) * (w' : Int) + (j : Int)) (by omega)
              have s3 := IntWalk.i64_in ((k : Int) * (W : Int)) (by omega)
              have s4 := IntWalk.i64_in ((k : Int) * (W : Int) + (j : Int)) (by omega)
              clear hown hg hw hxy hNi
              go_wp2
              go_region
              clear s1 s2 s3 s4 n1 n2 n3 n4 i1 i2 i3 m1 m2 p1 p2 p1' p2' p3 p4 q3 q4
              go_wp2
              go_roundw
              case rel =>
                obtain ⟨o1, g1⟩ := HS3.out
                refine ⟨j + 1, ⟨by omega, by omega⟩, by go_num, ?_, (g1.block _ hsz2 (by simp; omega)).trans HG2.out, (below_own HB2.out g1 HO2.out (Nat.le_refl _) hwz2).drew⟩
                rw [HNX.out, HXY.out, flat_set]
                exact o1.drew
              case measure => simp [intOf]; omega
            · rw [cellsK_row (k := k) (show j = min w' W by omega)] at hown
              have HO3 := Lib.hid hown
              clear hown hg hw
              cases dj : decide ((j : Int) < (w' : Int))
              all_goals
                have dW : decide ((j : Int) < (w' : Int)) = true → decide ((j : Int) < (W : Int)) = false := fun h => by
                  rw [decide_eq_true_iff] at h
                  rw [decide_eq_false_iff_not]; omega
                try (have dW2 := dW dj)
                clear dW
                go_wp2 <;> (go_roundw; (case rel => exact ⟨k + 1, ⟨by omega, by omega⟩, by go_num, HO3.out, HG2.out, HB2.out⟩); (case measure => simp [intOf]; omega))
        · rw [cellsK_end (show k = min h' H by omega)] at hown
          have HO := Lib.hid hown
          have hlm : (fitM W H w' h' L).length = w' * h' := fitM_len ..
          have hrm : Rw wr (.slice (some ⟨g, 0, none⟩) (w' * h') capg) 2 (fitM W H w' h' L).length (flat (fitM W H w' h' L)) := by
            rw [hlm]; exact Rw.of_owns hown
          have HRM := Lib.hid hrm
          have HWW := Lib.hid hww
          have hwzz : w.heap.size + 1 < wr.heap.size := by omega
          clear hown hg hw hrm hww
          cases dk : decide ((k : Int) < (h' : Int))
          all_goals
            have dH : decide ((k : Int) < (h' : Int)) = true → decide ((k : Int) < (H : Int)) = false := fun h => by
              rw [decide_eq_true_iff] at h
              rw [decide_eq_false_iff_not]; omega
            try (have dH2 := dH dk)
            clear dH
            go_wp2_with fail
            all_goals
              refine (mend_any w' h' _ _ _ HRM.out g2 g80 g1 g24 hlm).mono ?_
              rintro e w4 ⟨⟨v4, rfl, hown4⟩, hb4⟩
              obtain ⟨g4, cap4, rfl, hcap4, hrow4⟩ := hown4
              have HO4 := Lib.hid (Own.sh rfl hcap4 hrow4)
              have hc4 := old_cell hb4
              have hf4 := old_frozen hb4
              have hz4 := hb4.size
              generalize hN : (mend w' (fitM W H w' h' L)).length = M
              clear hrow4 HRM
              go_wp2
              refine bodyPost_ret (v := .tuple #[.agg #[.int .i64 w', .int .i64 h', .slice (some ⟨g4, 0, none⟩) M cap4], .int .i64 0]) (by simp [results, Tryd.results18, go_sem, hc4, hc1, hwzz]) rfl ⟨Out.yes HP.out ⟨_, rfl, ?_⟩, ?_⟩
              · rw [← hN]
                unfold fitV fitL
                simp only [Int.toNat_natCast]
                exact (((HO4.out.set1 _ _ _ (by omega)).set1 _ _ _ (by omega)).set1 _ _ _ (by omega)).mono (by omega)
              · exact ((((HWW.out.trans (hb4.mono HWW.out.size)).setCell (by simp) _).setCell (by simp) _).setCell (by simp) _)
  · have HP := Lib.hid (show fitB gw gh L fw fh = false by unfold fitB; rw [decide_eq_false hr]; rfl)
    have HE := Lib.hid (show fitE gw gh L = 1 from if_neg hr)
    have HRR := Lib.hid hr
    clear hr
    go_enter Tryd.func18, Tryd.ntmps18
    go_wp2_with fail
    refine (ris_grid_any _ _ _ L _ (hv.below hb0) hm).mono ?_
    rintro e w1 ⟨rfl, hb1⟩
    rw [decide_eq_false HRR.out]
    have hc1 := old_cell hb1
    have hf1 := old_frozen hb1
    have hw1 := hb0.trans (hb1.mono hb0.size)
    go_wp2
    refine bodyPost_ret (v := .tuple #[.agg #[.int .i64 0, .int .i64 0, .slice none 0 0], .int .i64 1]) (by simp [results, Tryd.results18, go_sem, hc1]) rfl ⟨Out.no HP.out (by rw [HE.out]; rfl), ?_⟩
    exact (((hw1.setCell (by simp) _).setCell (by simp) _).setCell (by simp) _)
end Go.Proofs.YtkkioajmfkcloaaDoor
