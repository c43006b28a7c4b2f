/- Contracts of the reference of grid: Blank, Scroll. -/
import Derived.Test.YtkkioajmfkcloaaGreatDoorGdN
import Derived.Test.YtkkioajmfkcloaaGreatDoorMGu
import Derived.Test.YtkkioajmfkcloaaGreatDoorMWp
/- The contracts of the reference's Blank and Scroll of a grid. -/
set_option linter.unusedVariables false
namespace Go.Proofs.YtkkioajmfkcloaaGreatDoor
open Go.RowKit Gl L Wd Gd
namespace Gd
theorem blankK_len {L : List (Int × Int)} {fr n : Nat} (hf : fr + n ≤ L.length) {k : Nat} (hk : k ≤ n) : (Go.splice L fr (List.replicate k bl)).length = L.length := by
  rw [splice_len]; rw [List.length_replicate]; omega
theorem blankK_0 (L : List (Int × Int)) (fr : Nat) : Go.splice L fr (List.replicate 0 bl) = L := by simp [Go.splice]
theorem blankK_next {L : List (Int × Int)} {fr n : Nat} (hf : fr + n ≤ L.length) {k : Nat} (hk : k < n) : Go.splice L fr (List.replicate (k + 1) bl) = (Go.splice L fr (List.replicate k bl)).set (fr + k) bl := by
  apply ext_getD (by rw [List.length_set, blankK_len hf (by omega), blankK_len hf (by omega)])
  intro i hi
  rw [set_getD _ _ _ _ (by rw [blankK_len hf (by omega)]; omega), splice_getD _ _ _ _ (by rw [List.length_replicate]; omega), splice_getD _ _ _ _ (by rw [List.length_replicate]; omega), List.length_replicate, List.length_replicate]
  by_cases h1 : i = fr + k
  · subst h1
    rw [if_pos rfl, if_pos (by omega)]
    simp [List.getD]
  · rw [if_neg h1]
    by_cases h2 : fr ≤ i ∧ i < fr + k
    · rw [if_pos h2, if_pos (by omega)]
      simp only [List.getD, List.getElem?_replicate]
      rw [if_pos (by omega), if_pos (by omega)]
    · rw [if_neg h2, if_neg (by omega)]
/-- Behind k cells of the reference's scrolling. -/
def scrollK (W : Nat) (L : List (Int × Int)) (k : Nat) : List (Int × Int) := (List.range L.length).map fun i => if i < k then (scrollL W L).getD i (0, 0) else L.getD i (0, 0)
theorem scrollK_len (W : Nat) (L : List (Int × Int)) (k : Nat) : (scrollK W L k).length = L.length := by simp [scrollK]
theorem scrollK_at (W : Nat) (L : List (Int × Int)) (k : Nat) {i : Nat} (hi : i < L.length) : (scrollK W L k).getD i (0, 0) = if i < k then (scrollL W L).getD i (0, 0) else L.getD i (0, 0) := by
  unfold scrollK; rw [map_getD, if_pos hi]
theorem scrollK_0 (W : Nat) (L : List (Int × Int)) : scrollK W L 0 = L := by
  apply ext_getD (scrollK_len ..)
  intro i hi
  rw [scrollK_len] at hi
  rw [scrollK_at W L 0 hi, if_neg (by omega)]
theorem scrollK_all (W : Nat) (L : List (Int × Int)) : scrollK W L L.length = scrollL W L := by
  apply ext_getD (by rw [scrollK_len, scrollL_len])
  intro i hi
  rw [scrollK_len] at hi
  rw [scrollK_at W L _ hi, if_pos hi]
theorem scrollK_next {W : Nat} {L : List (Int × Int)} {k : Nat} (hk : k < L.length) : scrollK W L (k + 1) = (scrollK W L k).set k (if k + W < L.length then L.getD (k + W) (0, 0) else bl) := by
  apply ext_getD (by rw [List.length_set, scrollK_len, scrollK_len])
  intro i hi
  rw [scrollK_len] at hi
  rw [set_getD _ _ _ _ (by rw [scrollK_len]; exact hk), scrollK_at W L _ hi, scrollK_at W L _ hi]
  by_cases h1 : i = k
  · subst h1
    rw [if_pos (by omega), if_pos rfl, scrollL_at W L hi]
  · rw [if_neg h1]
    by_cases h2 : i < k
    · rw [if_pos h2, if_pos (by omega)]
    · rw [if_neg h2, if_neg (by omega)]
end Gd
set_option maxHeartbeats 4000000 in
theorem rblank_any (gw gh fr to : Int) (v : Value) (L : List (Int × Int)) (w : World) (hv : Rw w v 2 L.length (flat L)) (hm : L.length ≤ maxLen) :
    Calls Tryz.prog 18 #[.agg #[.int .i64 gw, .int .i64 gh, v], .int .i64 fr, .int .i64 to] w fun e w' => Out (blankB gw gh L fr to) 1 w.heap.size w' e gw gh (blankL gw L fr to) ∧ Below w.heap.size w w' := by
  have hb0 : Below w.heap.size w ((w.alloc (.cells #[.int .i64 gw, .int .i64 gh, v] 24)).alloc (.cells #[.int .i64 0, .int .i64 0, .slice none 0 0] 24)) := ((Below.refl _ _).alloc (Nat.le_refl _) _).alloc (by simp) _
  obtain ⟨A, cap, rfl⟩ : ∃ A cap, v = .slice A L.length cap := ⟨_, _, hv.2.choose_spec.choose_spec.1⟩
  by_cases hr : right gw gh L
  · have HRR := Lib.hid hr
    obtain ⟨W, H, rfl, rfl, hR⟩ := right_R hr
    have hlen : L.length ≤ 1920 := by rw [hR.len]; exact Nat.mul_le_mul hR.w80 hR.h24
    have hWH : ((W : Int) * (H : Int)) = (L.length : Int) := by rw [← Int.natCast_mul, hR.len]
    have h0 : 0 < L.length := by rw [hR.len]; exact Nat.mul_pos (by have := hR.w2; omega) (by have := hR.h1; omega)
    have HR := Lib.hid hR
    clear hr hR
    by_cases hp : 0 ≤ fr ∧ fr ≤ to ∧ to ≤ (L.length : Int)
    · have HP := Lib.hid (show blankB W H L fr to = true by unfold blankB; rw [decide_eq_true HRR.out, decide_eq_true hp]; rfl)
      obtain ⟨F, rfl⟩ : ∃ F : Nat, fr = F := ⟨fr.toNat, by omega⟩
      obtain ⟨N, rfl⟩ : ∃ N : Nat, to = F + N := ⟨(to - F).toNat, by omega⟩
      have hf : F + N ≤ L.length := by omega
      have d1 : decide ((F : Int) < 0) = false := by rw [decide_eq_false_iff_not]; omega
      have d2 : decide ((F : Int) + (N : Int) < (F : Int)) = false := by rw [decide_eq_false_iff_not]; omega
      clear hp
      go_enter Tryz.func18, Tryz.ntmps18
      go_wp2_with fail
      refine (ris_grid_any _ _ _ L _ (hv.below hb0) hm).mono ?_
      rintro e w1 ⟨rfl, hb1⟩
      rw [decide_eq_true HRR.out]
      have hc1 := old_cell hb1
      have hf1 := old_frozen hb1
      have hw1 := hb0.trans (hb1.mono hb0.size)
      go_wp2_with fail
      refine (own_any W H _ L _ (hv.below hw1) (by omega) h0).mono ?_
      rintro e w3 ⟨⟨v3, rfl, hown⟩, hb3⟩
      obtain ⟨g, capg, rfl, hcapg, hrow⟩ := hown
      have hgl := hrow.lt g rfl
      have hzz : w.heap.size + 1 < w1.heap.size := by have := hb1.size; simp at this; omega
      have hrow0 : w3.ownsRow w1.heap.size 49 2 (.slice (some ⟨g, 0, none⟩) L.length capg) L.length (flat (splice L F (List.replicate 0 bl))) := by
        rw [blankK_0]; exact hrow
      have HW1 := Lib.hid hw1
      have hc3 := old_cell hb3
      have hf3 := old_frozen hb3
      clear hrow hw1 hb1
      go_wp2
      go_loopw [9] (fun i wr => ∃ k : Nat, k ≤ N ∧ i = .int .i64 (F + k) ∧ wr.ownsRow w1.heap.size 49 2 (.slice (some ⟨g, 0, none⟩) L.length capg) L.length (flat (splice L F (List.replicate k bl))) ∧ wr.heap[w3.heap.size]? = some (.cells #[.int .i64 W, .int .i64 H, .slice (some ⟨g, 0, none⟩) L.length capg] 24 (0, 0)) ∧ Below w1.heap.size w1 wr) (fun i _ => F + N - (intOf i).toNat)
      case atStart => exact ⟨0, Nat.zero_le _, by simp, hrow0.alloc _, heap_alloc_new w3 _, hb3.alloc hb3.size _⟩
      case round =>
        obtain ⟨k, hk, rfl, hown, hg, hw⟩ := hrel
        obtain ⟨b1, b2, b3, f1, f2, f3, hsz⟩ := blk3 hg
        have hcw := old_cell hw
        have hfw := old_frozen hw
        have hwz := hw.size
        have HO := Lib.hid hown
        have HG := Lib.hid hg
        have HB := Lib.hid hw
        clear hc3 hf3
        by_cases hlt : k < N
        · have HNX := Lib.hid (blankK_next hf hlt)
          obtain ⟨x4, y4, _, p3, p4, q3, q4⟩ := own_cells hown (F + k) (by omega)
          have HS3 := Lib.hid (ownsRow_set2 hown ((F + k) * 2) (.int .i32 32) (.int .i64 0))
          clear hown hg hw
          go_wp2
          go_roundw
          case rel =>
            obtain ⟨o1, g1⟩ := HS3.out
            refine ⟨k + 1, by omega, by go_num, ?_, (g1.block _ hsz (by simp; omega)).trans HG.out, below_own HB.out g1 HO.out (Nat.le_refl _) hwz⟩
            rw [HNX.out, show bl = (32, 0) from rfl, flat_set]
            exact o1
          case measure => simp [intOf]; omega
        · obtain rfl : N = k := by omega
          have hww := HW1.out.trans (hw.mono HW1.out.size)
          have hlm : (splice L F (List.replicate N bl)).length = L.length := blankK_len hf (Nat.le_refl _)
          have hrm : Rw wr (.slice (some ⟨g, 0, none⟩) L.length capg) 2 (splice L F (List.replicate N bl)).length (flat (splice L F (List.replicate N bl))) := by
            rw [hlm]; exact Rw.of_owns hown
          have HRM := Lib.hid hrm
          have HWW := Lib.hid hww
          clear hown hg hw hrm hww
          go_wp2_with fail
          refine (mend_any W H _ _ _ HRM.out HR.out.w2 HR.out.w80 HR.out.h1 HR.out.h24 (hlm.trans HR.out.len)).mono ?_
          rintro e w4 ⟨⟨v4, rfl, hown4⟩, hb4⟩
          obtain ⟨g4, cap4, rfl, hcap4, hrow4⟩ := hown4
          have HO4 := Lib.hid (Own.sh rfl hcap4 hrow4)
          have hc4 := old_cell hb4
          have hf4 := old_frozen hb4
          have hz4 := hb4.size
          have hzw : w.heap.size + 1 < wr.heap.size := by omega
          generalize hN : (mend W (splice L F (List.replicate N bl))).length = M
          clear hrow4 HRM
          go_wp2
          refine bodyPost_ret (v := .tuple #[.agg #[.int .i64 W, .int .i64 H, .slice (some ⟨g4, 0, none⟩) M cap4], .int .i64 0]) (by simp [results, Tryz.results18, go_sem, hc4, hcw, hc1, hzw, hzz]) rfl ⟨Out.yes HP.out ⟨_, rfl, ?_⟩, ?_⟩
          · rw [← hN]
            unfold blankL
            rw [Int.toNat_natCast, Int.toNat_natCast, show ((F : Int) + N - F).toNat = N by omega]
            exact (((HO4.out.set1 _ _ _ (by omega)).set1 _ _ _ (by omega)).set1 _ _ _ (by omega)).mono (by omega)
          · exact ((((HWW.out.trans (hb4.mono HWW.out.size)).setCell (by simp) _).setCell (by simp) _).setCell (by simp) _)
    · have HP := Lib.hid (show blankB W H L fr to = false by unfold blankB; rw [decide_eq_false hp, Bool.and_false])
      have HPP := Lib.hid hp
      clear hp
      cases d1 : decide (fr < 0)
      · cases d2 : decide (to < fr)
        · cases d3 : decide ((W : Int) * (H : Int) < to)
          · simp only [decide_eq_false_iff_not] at d1 d2 d3
            exact absurd (show 0 ≤ fr ∧ fr ≤ to ∧ to ≤ (L.length : Int) by omega) HPP.out
          have hWW : (W : Int) * (H : Int) ≤ 1920 := by omega
          have hW0 : 0 ≤ (W : Int) * (H : Int) := by omega
          have HWH := Lib.hid hWH
          clear hWH
          all_goals
            go_enter Tryz.func18, Tryz.ntmps18
            go_wp2_with fail
            refine (ris_grid_any _ _ _ L _ (hv.below hb0) hm).mono ?_
            rintro e w1 ⟨rfl, hb1⟩
            rw [decide_eq_true HRR.out]
            have hc1 := old_cell hb1
            have hf1 := old_frozen hb1
            have hw1 := hb0.trans (hb1.mono hb0.size)
            go_wp2
            refine bodyPost_ret (v := .tuple #[.agg #[.int .i64 0, .int .i64 0, .slice none 0 0], .int .i64 1]) (by simp [results, Tryz.results18, go_sem, hc1]) rfl ⟨Out.no HP.out rfl, ?_⟩
            exact (((hw1.setCell (by simp) _).setCell (by simp) _).setCell (by simp) _)
        all_goals
          go_enter Tryz.func18, Tryz.ntmps18
          go_wp2_with fail
          refine (ris_grid_any _ _ _ L _ (hv.below hb0) hm).mono ?_
          rintro e w1 ⟨rfl, hb1⟩
          rw [decide_eq_true HRR.out]
          have hc1 := old_cell hb1
          have hf1 := old_frozen hb1
          have hw1 := hb0.trans (hb1.mono hb0.size)
          go_wp2
          refine bodyPost_ret (v := .tuple #[.agg #[.int .i64 0, .int .i64 0, .slice none 0 0], .int .i64 1]) (by simp [results, Tryz.results18, go_sem, hc1]) rfl ⟨Out.no HP.out rfl, ?_⟩
          exact (((hw1.setCell (by simp) _).setCell (by simp) _).setCell (by simp) _)
      all_goals
        go_enter Tryz.func18, Tryz.ntmps18
        go_wp2_with fail
        refine (ris_grid_any _ _ _ L _ (hv.below hb0) hm).mono ?_
        rintro e w1 ⟨rfl, hb1⟩
        rw [decide_eq_true HRR.out]
        have hc1 := old_cell hb1
        have hf1 := old_frozen hb1
        have hw1 := hb0.trans (hb1.mono hb0.size)
        go_wp2
        refine bodyPost_ret (v := .tuple #[.agg #[.int .i64 0, .int .i64 0, .slice none 0 0], .int .i64 1]) (by simp [results, Tryz.results18, go_sem, hc1]) rfl ⟨Out.no HP.out rfl, ?_⟩
        exact (((hw1.setCell (by simp) _).setCell (by simp) _).setCell (by simp) _)
  · have HP := Lib.hid (show blankB gw gh L fr to = false by unfold blankB; rw [decide_eq_false hr]; rfl)
    have HRR := Lib.hid hr
    clear hr
    go_enter Tryz.func18, Tryz.ntmps18
    go_wp2_with fail
    refine (ris_grid_any _ _ _ L _ (hv.below hb0) hm).mono ?_
    rintro e w1 ⟨rfl, hb1⟩
    rw [decide_eq_false HRR.out]
    have hc1 := old_cell hb1
    have hf1 := old_frozen hb1
    have hw1 := hb0.trans (hb1.mono hb0.size)
    go_wp2
    refine bodyPost_ret (v := .tuple #[.agg #[.int .i64 0, .int .i64 0, .slice none 0 0], .int .i64 1]) (by simp [results, Tryz.results18, go_sem, hc1]) rfl ⟨Out.no HP.out rfl, ?_⟩
    exact (((hw1.setCell (by simp) _).setCell (by simp) _).setCell (by simp) _)
end Go.Proofs.YtkkioajmfkcloaaGreatDoor
/- The contract of the reference's Scroll of a grid. -/
set_option linter.unusedVariables false
namespace Go.Proofs.YtkkioajmfkcloaaGreatDoor
open Go.RowKit Gl L Wd Gd
set_option maxHeartbeats 4000000 in
theorem rscroll_any (gw gh : Int) (v : Value) (L : List (Int × Int)) (w : World) (hv : Rw w v 2 L.length (flat L)) (hm : L.length ≤ maxLen) :
    Calls Tryz.prog 36 #[.agg #[.int .i64 gw, .int .i64 gh, v]] w fun e w' => ScrollTold w.heap.size w' e gw gh v L ∧ Below w.heap.size w w' := by
  have hb0 : Below w.heap.size w ((w.alloc (.cells #[.int .i64 gw, .int .i64 gh, v] 24)).alloc (.cells #[.int .i64 0, .int .i64 0, .slice none 0 0] 24)) := ((Below.refl _ _).alloc (Nat.le_refl _) _).alloc (by simp) _
  obtain ⟨A, cap, rfl⟩ : ∃ A cap, v = .slice A L.length cap := ⟨_, _, hv.2.choose_spec.choose_spec.1⟩
  by_cases hr : right gw gh L
  · have HRR := Lib.hid hr
    obtain ⟨W, H, rfl, rfl, hR⟩ := right_R hr
    have hlen : L.length ≤ 1920 := by rw [hR.len]; exact Nat.mul_le_mul hR.w80 hR.h24
    have h0 : 0 < L.length := by rw [hR.len]; exact Nat.mul_pos (by have := hR.w2; omega) (by have := hR.h1; omega)
    have w80 := hR.w80
    have HR := Lib.hid hR
    clear hr hR
    obtain ⟨b, off, rfl, _, hc0⟩ := Rw.cell2 hv h0
    have hbw : b < w.heap.size := World.block_lt_of_cell? w _ (hc0 0 h0).1
    clear hc0
    go_enter Tryz.func36, Tryz.ntmps36
    go_wp2_with fail
    refine (ris_grid_any _ _ _ L _ (hv.below hb0) hm).mono ?_
    rintro e w1 ⟨rfl, hb1⟩
    rw [decide_eq_true HRR.out]
    have hc1 := old_cell hb1
    have hf1 := old_frozen hb1
    have hw1 := hb0.trans (hb1.mono hb0.size)
    go_wp2_with fail
    refine (own_any W H _ L _ (hv.below hw1) (by omega) h0).mono ?_
    rintro e w3 ⟨⟨v3, rfl, hown⟩, hb3⟩
    obtain ⟨g, capg, rfl, hcapg, hrow⟩ := hown
    have hgl := hrow.lt g rfl
    have hzz : w.heap.size + 1 < w1.heap.size := by have := hb1.size; simp at this; omega
    have hzy : w.heap.size < w1.heap.size := by omega
    have hrow0 : w3.ownsRow w1.heap.size 49 2 (.slice (some ⟨g, 0, none⟩) L.length capg) L.length (flat (scrollK W L 0)) := by
      rw [scrollK_0]; exact hrow
    have HW1 := Lib.hid hw1
    have hc3 := old_cell hb3
    have hf3 := old_frozen hb3
    clear hrow hw1 hb1
    go_wp2
    go_loopw [4] (fun i wr => ∃ k : Nat, k ≤ L.length ∧ i = .int .i64 k ∧ wr.ownsRow w1.heap.size 49 2 (.slice (some ⟨g, 0, none⟩) L.length capg) L.length (flat (scrollK W L k)) ∧ wr.heap[w3.heap.size]? = some (.cells #[.int .i64 W, .int .i64 H, .slice (some ⟨g, 0, none⟩) L.length capg] 24 (0, 0)) ∧ Below w1.heap.size w1 wr) (fun i _ => L.length - (intOf i).toNat)
    case atStart => exact ⟨0, Nat.zero_le _, rfl, hrow0.alloc _, heap_alloc_new w3 _, hb3.alloc hb3.size _⟩
    case round =>
      obtain ⟨k, hk, rfl, hown, hg, hw⟩ := hrel
      obtain ⟨b1, b2, b3, f1, f2, f3, hsz⟩ := blk3 hg
      have hcw := old_cell hw
      have hfw := old_frozen hw
      have hwz := hw.size
      have hww := HW1.out.trans (hw.mono HW1.out.size)
      have HO := Lib.hid hown
      have HG := Lib.hid hg
      have HB := Lib.hid hw
      clear hc3 hf3
      by_cases hlt : k < L.length
      · have hNX := scrollK_next (W := W) hlt
        obtain ⟨x4, y4, _, p3, p4, q3, q4⟩ := own_cells hown k hlt
        by_cases hin : k + W < L.length
        · rw [if_pos hin] at hNX
          have HNX := Lib.hid hNX
          obtain ⟨p1, p2⟩ := Rw.at2 (hv.below hww) (k + W) hin
          have hbr : b < wr.heap.size := World.block_lt_of_cell? wr _ p1
          have hcv := old_cell hww
          generalize hxy : L.getD (k + W) (0, 0) = xy at p1 p2
          obtain ⟨x3, y3⟩ := xy
          simp only at p1 p2
          have HXY := Lib.hid hxy
          have HS3 := Lib.hid (ownsRow_set2 hown (k * 2) (.int .i32 x3) (.int .i64 y3))
          have HWW := Lib.hid hww
          clear hown hg hw hxy hNX hww hcv
          have p1' : w.cell? ⟨b, off + (k + W) * 2, none⟩ = some (.int .i32 x3) := by rw [← old_cell HWW.out _ _ hbw]; exact p1
          have p2' : w.cell? ⟨b, off + (k + W) * 2 + 1, none⟩ = some (.int .i64 y3) := by rw [← old_cell HWW.out _ _ hbw]; exact p2
          have n1 : 0 ≤ (k : Int) + (W : Int) := by omega
          have n2 : ((k : Int) + (W : Int)).toNat = k + W := by omega
          have n3 : (k : Int) + (W : Int) < (L.length : Int) := by omega
          have s1 := IntWalk.i64_in ((k : Int) + (W : Int)) (by omega)
          go_wp2
          go_region
          clear s1 n1 n2 n3 p1 p2 p3 p4 q3 q4 p1' p2'
          go_wp2
          go_roundw
          case rel =>
            obtain ⟨o1, g1⟩ := HS3.out
            refine ⟨k + 1, by omega, by go_num, ?_, (g1.block _ hsz (by simp; omega)).trans HG.out, (below_own HB.out g1 HO.out (Nat.le_refl _) hwz).drew⟩
            rw [HNX.out, HXY.out, flat_set]
            exact o1.drew
          case measure => simp [intOf]; omega
        · rw [if_neg hin] at hNX
          have HNX := Lib.hid hNX
          have HS3 := Lib.hid (ownsRow_set2 hown (k * 2) (.int .i32 32) (.int .i64 0))
          clear hown hg hw hNX hww
          go_wp2
          go_roundw
          case rel =>
            obtain ⟨o1, g1⟩ := HS3.out
            refine ⟨k + 1, by omega, by go_num, ?_, (g1.block _ hsz (by simp; omega)).trans HG.out, below_own HB.out g1 HO.out (Nat.le_refl _) hwz⟩
            rw [HNX.out, show bl = (32, 0) from rfl, flat_set]
            exact o1
          case measure => simp [intOf]; omega
      · obtain rfl : L.length = k := by omega
        rw [scrollK_all] at hown
        have HOA := Lib.hid hown
        have HWW := Lib.hid hww
        clear hown hg hw hww
        go_wp2
        refine bodyPost_ret (v := .agg #[.int .i64 W, .int .i64 H, .slice (some ⟨g, 0, none⟩) L.length capg]) (by simp [results, Tryz.results36, go_sem, hcw, hc1, hzz]) rfl ⟨ScrollTold.yes HRR.out ⟨_, rfl, ?_⟩, ?_⟩
        · rw [Int.toNat_natCast]
          exact ((((Own.sh (scrollL_len ..) hcapg HOA.out).set1 _ _ _ (by omega)).set1 _ _ _ (by omega)).set1 _ _ _ (by omega)).mono (by omega)
        · exact (((HWW.out.setCell (by simp) _).setCell (by simp) _).setCell (by simp) _)
  · have HP := Lib.hid hr
    clear hr
    go_enter Tryz.func36, Tryz.ntmps36
    go_wp2_with fail
    refine (ris_grid_any _ _ _ L _ (hv.below hb0) hm).mono ?_
    rintro e w1 ⟨rfl, hb1⟩
    rw [decide_eq_false HP.out]
    have hc1 := old_cell hb1
    have hf1 := old_frozen hb1
    have hz1 := hb1.size
    have hw1 := hb0.trans (hb1.mono hb0.size)
    go_wp2
    refine bodyPost_ret (v := .agg #[.int .i64 gw, .int .i64 gh, .slice A L.length cap]) (by simp [results, Tryz.results36, go_sem, hc1]) rfl ⟨ScrollTold.no HP.out rfl, ?_⟩
    exact (((hw1.setCell (by simp) _).setCell (by simp) _).setCell (by simp) _)
end Go.Proofs.YtkkioajmfkcloaaGreatDoor
