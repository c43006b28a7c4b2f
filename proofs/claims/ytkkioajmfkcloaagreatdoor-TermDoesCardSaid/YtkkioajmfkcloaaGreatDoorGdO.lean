/- The contract of Scroll of a grid. -/
import Derived.Test.YtkkioajmfkcloaaGreatDoorMWp
import Derived.Test.YtkkioajmfkcloaaGreatDoorGdK
set_option linter.unusedVariables false
namespace Go.Proofs.YtkkioajmfkcloaaGreatDoor
open Go.RowKit Gl L Wd Gd
/-- A grid is told by itself: the one that came in, or a new one. -/
def ScrollTold (B : Nat) (w' : World) (e : Ending) (gw gh : Int) (v : Value) (L : List (Int × Int)) : Prop := if right gw gh L then ∃ v', e = .returned (.agg #[.int .i64 gw, .int .i64 gh, v']) ∧ Own B w' v' (scrollL gw.toNat L) else e = .returned (.agg #[.int .i64 gw, .int .i64 gh, v])
theorem ScrollTold.yes {B : Nat} {w' : World} {e : Ending} {gw gh : Int} {v : Value} {L : List (Int × Int)} (hr : right gw gh L) (h : ∃ v', e = .returned (.agg #[.int .i64 gw, .int .i64 gh, v']) ∧ Own B w' v' (scrollL gw.toNat L)) : ScrollTold B w' e gw gh v L := by
  unfold ScrollTold; rw [if_pos hr]; exact h
theorem ScrollTold.no {B : Nat} {w' : World} {e : Ending} {gw gh : Int} {v : Value} {L : List (Int × Int)} (hr : ¬ right gw gh L) (h : e = .returned (.agg #[.int .i64 gw, .int .i64 gh, v])) : ScrollTold B w' e gw gh v L := by
  unfold ScrollTold; rw [if_neg hr]; exact h
/-- A slice has room for what it has. -/
def Capped (v : Value) : Prop := ∀ A n c, v = .slice A n c → n ≤ c
set_option maxHeartbeats 2000000 in
theorem scroll_any (gw gh : Int) (v : Value) (L : List (Int × Int)) (w : World) (hv : Rw w v 2 L.length (flat L)) (hcp : Capped v) (hm : L.length ≤ maxLen) (S : Spans w 2) (T : Blk w 0) :
    Calls Tryz.prog 90 #[.agg #[.int .i64 gw, .int .i64 gh, v]] w fun e w' => ScrollTold w.heap.size w' e gw gh v L ∧ Below w.heap.size w w' := by
  have hb0 : Below w.heap.size w ((w.alloc (.cells #[.int .i64 gw, .int .i64 gh, v] 24)).alloc (.cells #[.int .i64 0, .int .i64 0, .slice none 0 0] 24)) := ((Below.refl _ _).alloc (Nat.le_refl _) _).alloc (by simp) _
  obtain ⟨A, cap, rfl⟩ : ∃ A cap, v = .slice A L.length cap := ⟨_, _, hv.2.choose_spec.choose_spec.1⟩
  by_cases hr : right gw gh L
  · have HRR := Lib.hid hr
    obtain ⟨W, H, rfl, rfl, hR⟩ := right_R hr
    have hlen : L.length ≤ 1920 := by rw [hR.len]; exact Nat.mul_le_mul hR.w80 hR.h24
    have hW : W ≤ L.length := by rw [hR.len]; exact Nat.le_mul_of_pos_right _ hR.h1
    have hW2 := hR.w2
    have h0 : 0 < L.length := by omega
    have HR := Lib.hid hR
    clear hr hR
    have HBL := Lib.hid (show ∀ wz, Blk wz 0 → Calls Tryz.prog 67 #[.int .i64 (L.length : Int)] wz fun e w' => ∃ v, e = .returned v ∧ Own wz.heap.size w' v (List.replicate L.length bl) ∧ Below wz.heap.size wz w' from fun wz T => blanks_any L.length (by omega) wz T)
    obtain ⟨b, off, rfl, _, hc0⟩ := Rw.cell2 hv h0
    have hbw : b < w.heap.size := World.block_lt_of_cell? w _ (hc0 0 h0).1
    clear hc0
    have hcc := hcp _ _ _ rfl
    by_cases hcw : cap = W
    · have hcw' := hcw.symm
      subst hcw'
      go_enter Tryz.func90, Tryz.ntmps90
      go_wp2_with fail
      refine (is_grid_any _ _ _ L _ (hv.below hb0) hm (S.below hb0)).mono ?_
      rintro e w1 ⟨rfl, hb1⟩
      rw [decide_eq_true HRR.out]
      have hc1 := old_cell hb1
      have hf1 := old_frozen hb1
      have hw1 := hb0.trans (hb1.mono hb0.size)
      go_wp2_with fail
      refine (HBL.out _ (T.below hw1)).mono ?_
      rintro e w2 ⟨v2, rfl, hown, hb2⟩
      obtain ⟨g, capg, rfl, hcapg, hrow⟩ := hown.op (List.length_replicate ..)
      have hbb2 := hb1.trans (hb2.mono hb1.size)
      have hw2 := hw1.trans (hb2.mono hw1.size)
      have hc2 := old_cell hbb2
      have hf2 := old_frozen hbb2
      have hz2 := hbb2.size
      have hsz2 : w.heap.size + 1 + 1 ≤ w1.heap.size := by have := hb1.size; simp at this; omega
      have HRO := Lib.hid (ownsRow_mono hrow hsz2)
      have HW2 := Lib.hid hw2
      have HBB := Lib.hid (hbb2.mono (B' := w.heap.size + 1 + 1) (by simp))
      clear hown hrow hb1 hb2 hw1 hc1 hf1 hw2 hbb2
      go_wp2_with (with_reducible refine wpList_copy_rw rfl (.tmp 12) (.tmp 17) 22 22 rfl 49 2 Tryz.underlying22 Tryz.size30 _ _ _ _ _ _ rfl rfl (w.heap.size + 1 + 1) g L.length capg _ HRO.out 0 (L.length - W) (flat (L.drop W)) (by show min _ _ = _; omega) (by rw [flat_len, List.length_drop]) (fun h => absurd h (by omega)) (by omega) (flat_one _) ?_)
      intro w3 hown3 hgr3
      have hB3 := below_own HBB.out hgr3 HRO.out (Nat.le_refl _) (by simp at hz2; omega)
      have HO3 := Lib.hid (show w3.ownsRow (w.heap.size + 1 + 1) 49 2 (.slice (some ⟨g, 0, none⟩) L.length capg) L.length (flat (scrollL W L)) by
        have e := flat_splice (List.replicate L.length bl) 0 (L.drop W)
        rw [Nat.zero_mul] at e
        unfold scrollL; rw [← e]; exact hown3)
      have HB3 := Lib.hid hB3
      have hc3 := old_cell (hB3.mono (by simp))
      have hf3 := old_frozen (hB3.mono (by simp))
      have hz3 := hB3.size
      clear hB3 hown3 hgr3 hc2 hf2
      go_wp2
      refine bodyPost_ret (v := .agg #[.int .i64 W, .int .i64 H, .slice (some ⟨g, 0, none⟩) L.length capg]) (by simp [results, Tryz.results90, go_sem, hc3]) rfl ⟨ScrollTold.yes HRR.out ⟨_, rfl, ?_⟩, ?_⟩
      · rw [Int.toNat_natCast]
        exact ((((Own.sh (scrollL_len ..) hcapg HO3.out).set1 _ _ _ (by simp)).set1 _ _ _ (by simp)).set1 _ _ _ (by simp)).mono (by omega)
      · exact ((((hb0.trans (HB3.out.mono (by omega))).setCell (by simp) _).setCell (by simp) _).setCell (by simp) _)
    ·
      go_enter Tryz.func90, Tryz.ntmps90
      go_wp2_with fail
      refine (is_grid_any _ _ _ L _ (hv.below hb0) hm (S.below hb0)).mono ?_
      rintro e w1 ⟨rfl, hb1⟩
      rw [decide_eq_true HRR.out]
      have hc1 := old_cell hb1
      have hf1 := old_frozen hb1
      have hw1 := hb0.trans (hb1.mono hb0.size)
      go_wp2_with fail
      refine (HBL.out _ (T.below hw1)).mono ?_
      rintro e w2 ⟨v2, rfl, hown, hb2⟩
      obtain ⟨g, capg, rfl, hcapg, hrow⟩ := hown.op (List.length_replicate ..)
      have hbb2 := hb1.trans (hb2.mono hb1.size)
      have hw2 := hw1.trans (hb2.mono hw1.size)
      have hc2 := old_cell hbb2
      have hf2 := old_frozen hbb2
      have hz2 := hbb2.size
      have hsz2 : w.heap.size + 1 + 1 ≤ w1.heap.size := by have := hb1.size; simp at this; omega
      have HPOS := Lib.hid (show 0 < L.length - W → ∀ j u, (flat (L.drop W))[j]? = some u → w2.cell? ((⟨b, off + W * 2, none⟩ : Addr).add j) = some u from fun hn j u hu => by
        rw [flat_drop, List.getElem?_drop] at hu
        have := Rw.src (hv.below hw2) h0 _ _ hu
        rw [add_none] at this ⊢
        rw [Nat.add_assoc]; exact this)
      have HRO := Lib.hid (ownsRow_mono hrow hsz2)
      have HW2 := Lib.hid hw2
      have HBB := Lib.hid (hbb2.mono (B' := w.heap.size + 1 + 1) (by simp))
      clear hown hrow hb1 hb2 hw1 hc1 hf1 hw2 hbb2
      go_wp2_with (with_reducible refine wpList_copy_rw rfl (.tmp 12) (.tmp 17) 22 22 rfl 49 2 Tryz.underlying22 Tryz.size30 _ _ _ _ _ _ rfl rfl (w.heap.size + 1 + 1) g L.length capg _ HRO.out 0 (L.length - W) (flat (L.drop W)) (by show min _ _ = _; omega) (by rw [flat_len, List.length_drop]) (fun h => ⟨rfl, _, rfl, HPOS.out h⟩) (by omega) (flat_one _) ?_)
      intro w3 hown3 hgr3
      have hB3 := below_own HBB.out hgr3 HRO.out (Nat.le_refl _) (by simp at hz2; omega)
      have HO3 := Lib.hid (show w3.ownsRow (w.heap.size + 1 + 1) 49 2 (.slice (some ⟨g, 0, none⟩) L.length capg) L.length (flat (scrollL W L)) by
        have e := flat_splice (List.replicate L.length bl) 0 (L.drop W)
        rw [Nat.zero_mul] at e
        unfold scrollL; rw [← e]; exact hown3)
      have HB3 := Lib.hid hB3
      have hc3 := old_cell (hB3.mono (by simp))
      have hf3 := old_frozen (hB3.mono (by simp))
      have hz3 := hB3.size
      clear hB3 hown3 hgr3 hc2 hf2
      go_wp2
      refine bodyPost_ret (v := .agg #[.int .i64 W, .int .i64 H, .slice (some ⟨g, 0, none⟩) L.length capg]) (by simp [results, Tryz.results90, go_sem, hc3]) rfl ⟨ScrollTold.yes HRR.out ⟨_, rfl, ?_⟩, ?_⟩
      · rw [Int.toNat_natCast]
        exact ((((Own.sh (scrollL_len ..) hcapg HO3.out).set1 _ _ _ (by simp)).set1 _ _ _ (by simp)).set1 _ _ _ (by simp)).mono (by omega)
      · exact ((((hb0.trans (HB3.out.mono (by omega))).setCell (by simp) _).setCell (by simp) _).setCell (by simp) _)
  · have HP := Lib.hid hr
    clear hr
    go_enter Tryz.func90, Tryz.ntmps90
    go_wp2_with fail
    refine (is_grid_any _ _ _ L _ (hv.below hb0) hm (S.below hb0)).mono ?_
    rintro e w1 ⟨rfl, hb1⟩
    rw [decide_eq_false HP.out]
    have hc1 := old_cell hb1
    have hf1 := old_frozen hb1
    have hz1 := hb1.size
    have hw1 := hb0.trans (hb1.mono hb0.size)
    go_wp2
    refine bodyPost_ret (v := .agg #[.int .i64 gw, .int .i64 gh, .slice A L.length cap]) (by simp [results, Tryz.results90, go_sem, hc1]) rfl ⟨ScrollTold.no HP.out rfl, ?_⟩
    exact (((hw1.setCell (by simp) _).setCell (by simp) _).setCell (by simp) _)
end Go.Proofs.YtkkioajmfkcloaaGreatDoor
