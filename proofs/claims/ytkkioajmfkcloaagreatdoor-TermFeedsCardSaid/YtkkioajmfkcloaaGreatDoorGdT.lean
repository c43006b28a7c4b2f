/- The contract of the reference's Put of a grid. -/
import Derived.Test.YtkkioajmfkcloaaGreatDoorMGu
set_option linter.unusedVariables false
namespace Go.Proofs.YtkkioajmfkcloaaGreatDoor
open Go.RowKit Gl L Wd Gd
namespace Gd
/-- Behind k cells of a row that is laid from a place on. -/
def putK (L : List (Int × Int)) (fr : Nat) (c : List (Int × Int)) (k : Nat) : List (Int × Int) := Go.splice L fr (c.take k)
theorem putK_0 (L : List (Int × Int)) (fr : Nat) (c : List (Int × Int)) : putK L fr c 0 = L := by simp [putK, Go.splice]
theorem putK_len {L : List (Int × Int)} {fr : Nat} {c : List (Int × Int)} (hf : fr + c.length ≤ L.length) (k : Nat) : (putK L fr c k).length = L.length := by
  unfold putK; rw [splice_len]; rw [List.length_take]; omega
theorem putK_all (L : List (Int × Int)) (fr : Nat) (c : List (Int × Int)) : putK L fr c c.length = Go.splice L fr c := by unfold putK; rw [List.take_length]
theorem putK_next {L : List (Int × Int)} {fr : Nat} {c : List (Int × Int)} (hf : fr + c.length ≤ L.length) {k : Nat} (hk : k < c.length) : putK L fr c (k + 1) = (putK L fr c k).set (fr + k) (c.getD k (0, 0)) := by
  apply ext_getD (by rw [List.length_set, putK_len hf, putK_len hf])
  intro i hi
  rw [set_getD _ _ _ _ (by rw [putK_len hf]; omega)]
  unfold putK
  have hl1 : (c.take (k + 1)).length = k + 1 := by rw [List.length_take]; omega
  have hl2 : (c.take k).length = k := by rw [List.length_take]; omega
  rw [splice_getD _ _ _ _ (by rw [hl1]; omega), splice_getD _ _ _ _ (by rw [hl2]; omega), hl1, hl2]
  by_cases h1 : i = fr + k
  · subst h1
    rw [if_pos rfl, if_pos (by omega)]
    simp [List.getD]
  · rw [if_neg h1]
    by_cases h2 : fr ≤ i ∧ i < fr + k
    · rw [if_pos h2, if_pos (by omega)]
      simp only [List.getD, List.getElem?_take]
      rw [if_pos (by omega), if_pos (by omega)]
    · rw [if_neg h2, if_neg (by omega)]
end Gd
theorem mend_right_any (W H : Nat) (L M : List (Int × Int)) (hR : R W H L) (hl : M.length = L.length) (v : Value) (w : World) (hv : Rw w v 2 M.length (flat M)) :
    Calls Tryz.prog 35 #[.agg #[.int .i64 W, .int .i64 H, v]] w fun e w' => (∃ v', e = .returned (.agg #[.int .i64 W, .int .i64 H, v']) ∧ Own w.heap.size w' v' (mend W M)) ∧ Below w.heap.size w w' :=
  mend_any W H v M w hv hR.w2 hR.w80 hR.h1 hR.h24 (hl.trans hR.len)
set_option maxHeartbeats 4000000 in
theorem grput_any (gw gh x y r : Int) (v : Value) (L : List (Int × Int)) (w : World) (hv : Rw w v 2 L.length (flat L)) (hm : L.length ≤ maxLen) :
    Calls Tryz.prog 33 #[.agg #[.int .i64 gw, .int .i64 gh, v], .int .i64 x, .int .i64 y, .int .i32 r] w fun e w' => Out (putB gw gh L x y r) 1 w.heap.size w' e gw gh (putL gw L x y r) ∧ Below w.heap.size w w' := by
  have hb0 : Below w.heap.size w ((w.alloc (.cells #[.int .i64 gw, .int .i64 gh, v] 24)).alloc (.cells #[.int .i64 0, .int .i64 0, .slice none 0 0] 24)) := ((Below.refl _ _).alloc (Nat.le_refl _) _).alloc (by simp) _
  obtain ⟨A, cap, rfl⟩ : ∃ A cap, v = .slice A L.length cap := ⟨_, _, hv.2.choose_spec.choose_spec.1⟩
  by_cases hp : place gw gh L x y
  · have HPL := Lib.hid hp
    cases hs : shw r
    · have HS := Lib.hid hs
      have HP := Lib.hid (show putB gw gh L x y r = false by unfold putB; rw [hs]; simp)
      clear hs hp
      go_enter Tryz.func33, Tryz.ntmps33
      go_wp2_with fail
      refine (rplace_any _ _ _ _ _ L _ (hv.below hb0) hm).mono ?_
      rintro e w1 ⟨rfl, hb1⟩
      rw [decide_eq_true HPL.out]
      have hc1 := old_cell hb1
      have hf1 := old_frozen hb1
      have hw1 := hb0.trans (hb1.mono hb0.size)
      go_wp2_with fail
      refine (rshown_any _ _).mono ?_
      rintro e w2 ⟨rfl, rfl⟩
      rw [HS.out]
      go_wp2
      refine bodyPost_ret (v := .tuple #[.agg #[.int .i64 0, .int .i64 0, .slice none 0 0], .int .i64 1]) (by simp [results, Tryz.results33, go_sem, hc1]) rfl ⟨Out.no HP.out rfl, ?_⟩
      exact (((hw1.setCell (by simp) _).setCell (by simp) _).setCell (by simp) _)
    obtain ⟨W, H, X, Y, rfl, rfl, rfl, rfl, hR, hX, hY, hlt, hlt2⟩ := place_nat hp
    have hlen : L.length ≤ 1920 := by rw [hR.len]; exact Nat.mul_le_mul hR.w80 hR.h24
    have h0 : 0 < L.length := by omega
    have w80 := hR.w80
    have HR := Lib.hid hR
    have HS := Lib.hid hs
    have hfit := put_fits (r := r) (X := X) (W := W) hs hX
    have hcl := cl_len r
    clear hp hs hR
    by_cases hno : wid r = true ∧ X + 1 = W
    · have HWD := Lib.hid hno.1
      have d1 : ((X : Int) == (W : Int) - 1) = true := by rw [beq_iff_eq]; omega
      have HP := Lib.hid (show putB W H L X Y r = false by
        unfold putB; rw [HPL.out |> decide_eq_true, HS.out, hno.1, decide_eq_true (show (X : Int) = (W : Int) - 1 by omega)]; rfl)
      clear hno hfit
      go_enter Tryz.func33, Tryz.ntmps33
      go_wp2_with fail
      refine (rplace_any _ _ _ _ _ L _ (hv.below hb0) hm).mono ?_
      rintro e w1 ⟨rfl, hb1⟩
      rw [decide_eq_true HPL.out]
      have hc1 := old_cell hb1
      have hf1 := old_frozen hb1
      have hw1 := hb0.trans (hb1.mono hb0.size)
      go_wp2_with fail
      refine (rshown_any _ _).mono ?_
      rintro e w1' ⟨rfl, rfl⟩
      rw [HS.out]
      go_wp2_with fail
      refine (rwide_any _ _).mono ?_
      rintro e w1' ⟨rfl, rfl⟩
      rw [HWD.out]
      go_wp2
      refine bodyPost_ret (v := .tuple #[.agg #[.int .i64 0, .int .i64 0, .slice none 0 0], .int .i64 1]) (by simp [results, Tryz.results33, go_sem, hc1]) rfl ⟨Out.no HP.out rfl, ?_⟩
      exact (((hw1.setCell (by simp) _).setCell (by simp) _).setCell (by simp) _)
    have hfit2 : X + (cl r).length ≤ W := by
      have hx : (wid r && decide ((X : Int) = (W : Int) - 1)) = false := by
        cases hq : wid r
        · rfl
        · rw [Bool.true_and, decide_eq_false_iff_not]; intro h; exact hno ⟨hq, by omega⟩
      have := hfit.2 hx; omega
    have HP := Lib.hid (show putB W H L X Y r = true by
      unfold putB; rw [HPL.out |> decide_eq_true, HS.out, hfit.1 (by omega)]; rfl)
    have hfr : Y * W + X + (cl r).length ≤ L.length := by omega
    cases hwd : wid r
    · have HWD := Lib.hid hwd
      clear hno hfit hwd
      go_enter Tryz.func33, Tryz.ntmps33
      go_wp2_with fail
      refine (rplace_any _ _ _ _ _ L _ (hv.below hb0) hm).mono ?_
      rintro e w1 ⟨rfl, hb1⟩
      rw [decide_eq_true HPL.out]
      have hc1 := old_cell hb1
      have hf1 := old_frozen hb1
      have hw1 := hb0.trans (hb1.mono hb0.size)
      go_wp2_with fail
      refine (rshown_any _ _).mono ?_
      rintro e w1' ⟨rfl, rfl⟩
      rw [HS.out]
      go_wp2_with fail
      refine (rwide_any _ _).mono ?_
      rintro e w1' ⟨rfl, rfl⟩
      rw [HWD.out]
      go_wp2_with fail
      refine (rcells_any _ _).mono ?_
      rintro e w2 ⟨gc, capc, rfl, hrc, hb2⟩
      have hbb2 := hb1.trans (hb2.mono hb1.size)
      have hw2 := hw1.trans (hb2.mono hw1.size)
      have hzz : w.heap.size + 1 < w2.heap.size := by have := hbb2.size; simp at this; omega
      have hzy : w.heap.size < w2.heap.size := by omega
      have hc2 := old_cell hbb2
      have hf2 := old_frozen hbb2
      clear hc1 hf1
      go_wp2_with fail
      refine (own_any W H _ L _ (hv.below hw2) (by omega) h0).mono ?_
      rintro e w3 ⟨⟨v3, rfl, hown⟩, hb3⟩
      obtain ⟨g, capg, rfl, hcapg, hrow⟩ := hown
      have hgl := hrow.lt g rfl
      have hrow0 : w3.ownsRow w2.heap.size 49 2 (.slice (some ⟨g, 0, none⟩) L.length capg) L.length (flat (putK L (Y * W + X) (cl r) 0)) := by
        rw [putK_0]; exact hrow
      have HW2 := Lib.hid hw2
      have HRC := Lib.hid hrc
      have hc3 := old_cell hb3
      have hf3 := old_frozen hb3
      clear hrow hrc hw1 hb1 hb2 hbb2
      go_wp2
      go_loopw [12] (fun i wr => ∃ k : Nat, k ≤ (cl r).length ∧ i = .int .i64 k ∧ wr.ownsRow w2.heap.size 49 2 (.slice (some ⟨g, 0, none⟩) L.length capg) L.length (flat (putK L (Y * W + X) (cl r) k)) ∧ wr.heap[w3.heap.size]? = some (.cells #[.int .i64 W, .int .i64 H, .slice (some ⟨g, 0, none⟩) L.length capg] 24 (0, 0)) ∧ Below w2.heap.size w2 wr) (fun i _ => (cl r).length - (intOf i).toNat)
      case atStart => exact ⟨0, Nat.zero_le _, rfl, hrow0.alloc _, heap_alloc_new w3 _, hb3.alloc hb3.size _⟩
      case round =>
        obtain ⟨k, hk, rfl, hown, hg, hw⟩ := hrel
        obtain ⟨b1, b2, b3, f1, f2, f3, hsz⟩ := blk3 hg
        have hcw := old_cell hw
        have hfw := old_frozen hw
        have hwz := hw.size
        have HO := Lib.hid hown
        have HG := Lib.hid hg
        have HB := Lib.hid hw
        clear hc3 hf3
        by_cases hlt : k < (cl r).length
        · obtain ⟨p1, p2⟩ := Rw.at2 (HRC.out.below hw) k hlt
          rw [Nat.zero_add] at p1 p2
          have hgc : gc < wr.heap.size := World.block_lt_of_cell? wr _ p1
          have HNX := Lib.hid (putK_next (L := L) (fr := Y * W + X) (c := cl r) (by omega) hlt)
          generalize hxy : (cl r).getD k (0, 0) = xy at p1 p2
          obtain ⟨x3, y3⟩ := xy
          simp only at p1 p2
          have HXY := Lib.hid hxy
          obtain ⟨x4, y4, _, p3, p4, q3, q4⟩ := own_cells hown (Y * W + X + k) (by omega)
          have HS3 := Lib.hid (ownsRow_set2 hown ((Y * W + X + k) * 2) (.int .i32 x3) (.int .i64 y3))
          have n1 : 0 ≤ (Y : Int) * (W : Int) + (X : Int) + (k : Int) := by
            have := Int.mul_nonneg (Int.natCast_nonneg Y) (Int.natCast_nonneg W); omega
          have n2 : ((Y : Int) * (W : Int) + (X : Int) + (k : Int)).toNat = Y * W + X + k := by
            rw [← Int.natCast_mul]; omega
          have n3 : (Y : Int) * (W : Int) + (X : Int) + (k : Int) < (L.length : Int) := by
            rw [← Int.natCast_mul]; omega
          have n4 : 0 ≤ (Y : Int) * (W : Int) := Int.mul_nonneg (Int.natCast_nonneg Y) (Int.natCast_nonneg W)
          have s1 := IntWalk.i64_in ((Y : Int) * (W : Int)) (by omega)
          have s2 := IntWalk.i64_in ((Y : Int) * (W : Int) + (X : Int)) (by omega)
          have s3 := IntWalk.i64_in ((Y : Int) * (W : Int) + (X : Int) + (k : Int)) (by omega)
          clear hown hg hw hxy
          go_wp2
          go_region
          clear s1 s2 s3 n1 n2 n3 n4 p1 p2 p3 p4 q3 q4
          go_wp2
          go_roundw
          case rel =>
            obtain ⟨o1, g1⟩ := HS3.out
            refine ⟨k + 1, by omega, by go_num, ?_, (g1.block _ hsz (by simp; omega)).trans HG.out, (below_own HB.out g1 HO.out (Nat.le_refl _) hwz).drew⟩
            rw [HNX.out, HXY.out, flat_set]
            exact o1.drew
          case measure => simp [intOf]; omega
        · obtain rfl : (cl r).length = k := by omega
          rw [putK_all] at hown
          have HOA := Lib.hid hown
          have hww := HW2.out.trans (hw.mono HW2.out.size)
          have hlm : (splice L (Y * W + X) (cl r)).length = L.length := splice_len _ _ _ hfr
          have hrm : Rw wr (.slice (some ⟨g, 0, none⟩) L.length capg) 2 (splice L (Y * W + X) (cl r)).length (flat (splice L (Y * W + X) (cl r))) := by
            rw [hlm]; exact Rw.of_owns hown
          have HRM := Lib.hid hrm
          have HWW := Lib.hid hww
          clear hown hg hw hrm hww
          go_wp2_with fail
          refine (mend_right_any W H L _ HR.out hlm _ _ HRM.out).mono ?_
          rintro e w4 ⟨⟨v4, rfl, hown4⟩, hb4⟩
          obtain ⟨g4, cap4, rfl, hcap4, hrow4⟩ := hown4
          have HO4 := Lib.hid (Own.sh rfl hcap4 hrow4)
          have hc4 := old_cell hb4
          have hf4 := old_frozen hb4
          have hz4 := hb4.size
          have hzw : w.heap.size + 1 < wr.heap.size := by omega
          generalize hN : (mend W (splice L (Y * W + X) (cl r))).length = N
          clear hrow4 HRM
          go_wp2
          refine bodyPost_ret (v := .tuple #[.agg #[.int .i64 W, .int .i64 H, .slice (some ⟨g4, 0, none⟩) N cap4], .int .i64 0]) (by simp [results, Tryz.results33, go_sem, hc4, hcw, hc2, hzw, hzz]) rfl ⟨Out.yes HP.out ⟨_, rfl, ?_⟩, ?_⟩
          · rw [← hN]
            unfold putL
            simp only [Int.toNat_natCast]
            exact (((HO4.out.set1 _ _ _ (by omega)).set1 _ _ _ (by omega)).set1 _ _ _ (by omega)).mono (by omega)
          · exact ((((HWW.out.trans (hb4.mono HWW.out.size)).setCell (by simp) _).setCell (by simp) _).setCell (by simp) _)
    · have HWD := Lib.hid hwd
      have d1 : ((X : Int) == (W : Int) - 1) = false := by
        rw [beq_eq_false_iff_ne]; intro h; exact hno ⟨hwd, by omega⟩
      clear hno hfit hwd
      go_enter Tryz.func33, Tryz.ntmps33
      go_wp2_with fail
      refine (rplace_any _ _ _ _ _ L _ (hv.below hb0) hm).mono ?_
      rintro e w1 ⟨rfl, hb1⟩
      rw [decide_eq_true HPL.out]
      have hc1 := old_cell hb1
      have hf1 := old_frozen hb1
      have hw1 := hb0.trans (hb1.mono hb0.size)
      go_wp2_with fail
      refine (rshown_any _ _).mono ?_
      rintro e w1' ⟨rfl, rfl⟩
      rw [HS.out]
      go_wp2_with fail
      refine (rwide_any _ _).mono ?_
      rintro e w1' ⟨rfl, rfl⟩
      rw [HWD.out]
      go_wp2_with fail
      refine (rcells_any _ _).mono ?_
      rintro e w2 ⟨gc, capc, rfl, hrc, hb2⟩
      have hbb2 := hb1.trans (hb2.mono hb1.size)
      have hw2 := hw1.trans (hb2.mono hw1.size)
      have hzz : w.heap.size + 1 < w2.heap.size := by have := hbb2.size; simp at this; omega
      have hzy : w.heap.size < w2.heap.size := by omega
      have hc2 := old_cell hbb2
      have hf2 := old_frozen hbb2
      clear hc1 hf1
      go_wp2_with fail
      refine (own_any W H _ L _ (hv.below hw2) (by omega) h0).mono ?_
      rintro e w3 ⟨⟨v3, rfl, hown⟩, hb3⟩
      obtain ⟨g, capg, rfl, hcapg, hrow⟩ := hown
      have hgl := hrow.lt g rfl
      have hrow0 : w3.ownsRow w2.heap.size 49 2 (.slice (some ⟨g, 0, none⟩) L.length capg) L.length (flat (putK L (Y * W + X) (cl r) 0)) := by
        rw [putK_0]; exact hrow
      have HW2 := Lib.hid hw2
      have HRC := Lib.hid hrc
      have hc3 := old_cell hb3
      have hf3 := old_frozen hb3
      clear hrow hrc hw1 hb1 hb2 hbb2
      go_wp2
      go_loopw [12] (fun i wr => ∃ k : Nat, k ≤ (cl r).length ∧ i = .int .i64 k ∧ wr.ownsRow w2.heap.size 49 2 (.slice (some ⟨g, 0, none⟩) L.length capg) L.length (flat (putK L (Y * W + X) (cl r) k)) ∧ wr.heap[w3.heap.size]? = some (.cells #[.int .i64 W, .int .i64 H, .slice (some ⟨g, 0, none⟩) L.length capg] 24 (0, 0)) ∧ Below w2.heap.size w2 wr) (fun i _ => (cl r).length - (intOf i).toNat)
      case atStart => exact ⟨0, Nat.zero_le _, rfl, hrow0.alloc _, heap_alloc_new w3 _, hb3.alloc hb3.size _⟩
      case round =>
        obtain ⟨k, hk, rfl, hown, hg, hw⟩ := hrel
        obtain ⟨b1, b2, b3, f1, f2, f3, hsz⟩ := blk3 hg
        have hcw := old_cell hw
        have hfw := old_frozen hw
        have hwz := hw.size
        have HO := Lib.hid hown
        have HG := Lib.hid hg
        have HB := Lib.hid hw
        clear hc3 hf3
        by_cases hlt : k < (cl r).length
        · obtain ⟨p1, p2⟩ := Rw.at2 (HRC.out.below hw) k hlt
          rw [Nat.zero_add] at p1 p2
          have hgc : gc < wr.heap.size := World.block_lt_of_cell? wr _ p1
          have HNX := Lib.hid (putK_next (L := L) (fr := Y * W + X) (c := cl r) (by omega) hlt)
          generalize hxy : (cl r).getD k (0, 0) = xy at p1 p2
          obtain ⟨x3, y3⟩ := xy
          simp only at p1 p2
          have HXY := Lib.hid hxy
          obtain ⟨x4, y4, _, p3, p4, q3, q4⟩ := own_cells hown (Y * W + X + k) (by omega)
          have HS3 := Lib.hid (ownsRow_set2 hown ((Y * W + X + k) * 2) (.int .i32 x3) (.int .i64 y3))
          have n1 : 0 ≤ (Y : Int) * (W : Int) + (X : Int) + (k : Int) := by
            have := Int.mul_nonneg (Int.natCast_nonneg Y) (Int.natCast_nonneg W); omega
          have n2 : ((Y : Int) * (W : Int) + (X : Int) + (k : Int)).toNat = Y * W + X + k := by
            rw [← Int.natCast_mul]; omega
          have n3 : (Y : Int) * (W : Int) + (X : Int) + (k : Int) < (L.length : Int) := by
            rw [← Int.natCast_mul]; omega
          have n4 : 0 ≤ (Y : Int) * (W : Int) := Int.mul_nonneg (Int.natCast_nonneg Y) (Int.natCast_nonneg W)
          have s1 := IntWalk.i64_in ((Y : Int) * (W : Int)) (by omega)
          have s2 := IntWalk.i64_in ((Y : Int) * (W : Int) + (X : Int)) (by omega)
          have s3 := IntWalk.i64_in ((Y : Int) * (W : Int) + (X : Int) + (k : Int)) (by omega)
          clear hown hg hw hxy
          go_wp2
          go_region
          clear s1 s2 s3 n1 n2 n3 n4 p1 p2 p3 p4 q3 q4
          go_wp2
          go_roundw
          case rel =>
            obtain ⟨o1, g1⟩ := HS3.out
            refine ⟨k + 1, by omega, by go_num, ?_, (g1.block _ hsz (by simp; omega)).trans HG.out, (below_own HB.out g1 HO.out (Nat.le_refl _) hwz).drew⟩
            rw [HNX.out, HXY.out, flat_set]
            exact o1.drew
          case measure => simp [intOf]; omega
        · obtain rfl : (cl r).length = k := by omega
          rw [putK_all] at hown
          have HOA := Lib.hid hown
          have hww := HW2.out.trans (hw.mono HW2.out.size)
          have hlm : (splice L (Y * W + X) (cl r)).length = L.length := splice_len _ _ _ hfr
          have hrm : Rw wr (.slice (some ⟨g, 0, none⟩) L.length capg) 2 (splice L (Y * W + X) (cl r)).length (flat (splice L (Y * W + X) (cl r))) := by
            rw [hlm]; exact Rw.of_owns hown
          have HRM := Lib.hid hrm
          have HWW := Lib.hid hww
          clear hown hg hw hrm hww
          go_wp2_with fail
          refine (mend_right_any W H L _ HR.out hlm _ _ HRM.out).mono ?_
          rintro e w4 ⟨⟨v4, rfl, hown4⟩, hb4⟩
          obtain ⟨g4, cap4, rfl, hcap4, hrow4⟩ := hown4
          have HO4 := Lib.hid (Own.sh rfl hcap4 hrow4)
          have hc4 := old_cell hb4
          have hf4 := old_frozen hb4
          have hz4 := hb4.size
          have hzw : w.heap.size + 1 < wr.heap.size := by omega
          generalize hN : (mend W (splice L (Y * W + X) (cl r))).length = N
          clear hrow4 HRM
          go_wp2
          refine bodyPost_ret (v := .tuple #[.agg #[.int .i64 W, .int .i64 H, .slice (some ⟨g4, 0, none⟩) N cap4], .int .i64 0]) (by simp [results, Tryz.results33, go_sem, hc4, hcw, hc2, hzw, hzz]) rfl ⟨Out.yes HP.out ⟨_, rfl, ?_⟩, ?_⟩
          · rw [← hN]
            unfold putL
            simp only [Int.toNat_natCast]
            exact (((HO4.out.set1 _ _ _ (by omega)).set1 _ _ _ (by omega)).set1 _ _ _ (by omega)).mono (by omega)
          · exact ((((HWW.out.trans (hb4.mono HWW.out.size)).setCell (by simp) _).setCell (by simp) _).setCell (by simp) _)
  · have HPL := Lib.hid hp
    have HP := Lib.hid (show putB gw gh L x y r = false by unfold putB; rw [decide_eq_false hp]; rfl)
    clear hp
    go_enter Tryz.func33, Tryz.ntmps33
    go_wp2_with fail
    refine (rplace_any _ _ _ _ _ L _ (hv.below hb0) hm).mono ?_
    rintro e w1 ⟨rfl, hb1⟩
    rw [decide_eq_false HPL.out]
    have hc1 := old_cell hb1
    have hf1 := old_frozen hb1
    have hw1 := hb0.trans (hb1.mono hb0.size)
    go_wp2
    refine bodyPost_ret (v := .tuple #[.agg #[.int .i64 0, .int .i64 0, .slice none 0 0], .int .i64 1]) (by simp [results, Tryz.results33, go_sem, hc1]) rfl ⟨Out.no HP.out rfl, ?_⟩
    exact (((hw1.setCell (by simp) _).setCell (by simp) _).setCell (by simp) _)
end Go.Proofs.YtkkioajmfkcloaaGreatDoor
