/- The program: Scroll, Fit, Put of a grid. -/
import Derived.Test.YtkkioajmfkcloaaDoorMWp
import Derived.Test.YtkkioajmfkcloaaDoorGdK
/- The contract of Scroll of a grid. -/
set_option linter.unusedVariables false
namespace Go.Proofs.YtkkioajmfkcloaaDoor
open Go.RowKit Gl L Wd Gd
/-- A grid is told by itself: the one that came in, or a new one. -/
def ScrollTold (B : Nat) (w' : World) (e : Ending) (gw gh : Int) (v : Value) (L : List (Int × Int)) : Prop := if right gw gh L then ∃ v', e = .returned (.agg #[.int .i64 gw, .int .i64 gh, v']) ∧ Own B w' v' (scrollL gw.toNat L) else e = .returned (.agg #[.int .i64 gw, .int .i64 gh, v])
theorem ScrollTold.yes {B : Nat} {w' : World} {e : Ending} {gw gh : Int} {v : Value} {L : List (Int × Int)} (hr : right gw gh L) (h : ∃ v', e = .returned (.agg #[.int .i64 gw, .int .i64 gh, v']) ∧ Own B w' v' (scrollL gw.toNat L)) : ScrollTold B w' e gw gh v L := by
  unfold ScrollTold; rw [if_pos hr]; exact h
theorem ScrollTold.no {B : Nat} {w' : World} {e : Ending} {gw gh : Int} {v : Value} {L : List (Int × Int)} (hr : ¬ right gw gh L) (h : e = .returned (.agg #[.int .i64 gw, .int .i64 gh, v])) : ScrollTold B w' e gw gh v L := by
  unfold ScrollTold; rw [if_neg hr]; exact h
/-- A slice has room for what it has. -/
def Capped (v : Value) : Prop := ∀ A n c, v = .slice A n c → n ≤ c
set_option maxHeartbeats 2000000 in
theorem scroll_any (gw gh : Int) (v : Value) (L : List (Int × Int)) (w : World) (hv : Rw w v 2 L.length (flat L)) (hcp : Capped v) (hm : L.length ≤ maxLen) (S : Spans w 2) (T : Blk w 0) :
    Calls Tryd.prog 78 #[.agg #[.int .i64 gw, .int .i64 gh, v]] w fun e w' => ScrollTold w.heap.size w' e gw gh v L ∧ Below w.heap.size w w' := by
  have hb0 : Below w.heap.size w ((w.alloc (.cells #[.int .i64 gw, .int .i64 gh, v] 24)).alloc (.cells #[.int .i64 0, .int .i64 0, .slice none 0 0] 24)) := ((Below.refl _ _).alloc (Nat.le_refl _) _).alloc (by simp) _
  obtain ⟨A, cap, rfl⟩ : ∃ A cap, v = .slice A L.length cap := ⟨_, _, hv.2.choose_spec.choose_spec.1⟩
  by_cases hr : right gw gh L
  · have HRR := Lib.hid hr
    obtain ⟨W, H, rfl, rfl, hR⟩ := right_R hr
    have hlen : L.length ≤ 1920 := by rw [hR.len]; exact Nat.mul_le_mul hR.w80 hR.h24
    have hW : W ≤ L.length := by rw [hR.len]; exact Nat.le_mul_of_pos_right _ hR.h1
    have hW2 := hR.w2
    have h0 : 0 < L.length := by omega
    have HR := Lib.hid hR
    clear hr hR
    have HBL := Lib.hid (show ∀ wz, Blk wz 0 → Calls Tryd.prog 25 #[.int .i64 (L.length : Int)] wz fun e w' => ∃ v, e = .returned v ∧ Own wz.heap.size w' v (List.replicate L.length bl) ∧ Below wz.heap.size wz w' from fun wz T => blanks_any L.length (by omega) wz T)
    obtain ⟨b, off, rfl, _, hc0⟩ := Rw.cell2 hv h0
    have hbw : b < w.heap.size := World.block_lt_of_cell? w _ (hc0 0 h0).1
    clear hc0
    have hcc := hcp _ _ _ rfl
    by_cases hcw : cap = W
    · have hcw' := hcw.symm
      subst hcw'
      go_enter Tryd.func78, Tryd.ntmps78
      go_wp2_with fail
      refine (is_grid_any _ _ _ L _ (hv.below hb0) hm (S.below hb0)).mono ?_
      rintro e w1 ⟨rfl, hb1⟩
      rw [decide_eq_true HRR.out]
      have hc1 := old_cell hb1
      have hf1 := old_frozen hb1
      have hw1 := hb0.trans (hb1.mono hb0.size)
      go_wp2_with fail
      refine (HBL.out _ (T.below hw1)).mono ?_
      rintro e w2 ⟨v2, rfl, hown, hb2⟩
      obtain ⟨g, capg, rfl, hcapg, hrow⟩ := hown.op (List.length_replicate ..)
      have hbb2 := hb1.trans (hb2.mono hb1.size)
      have hw2 := hw1.trans (hb2.mono hw1.size)
      have hc2 := old_cell hbb2
      have hf2 := old_frozen hbb2
      have hz2 := hbb2.size
      have hsz2 : w.heap.size + 1 + 1 ≤ w1.heap.size := by have := hb1.size; simp at this; omega
      have HRO := Lib.hid (ownsRow_mono hrow hsz2)
      have HW2 := Lib.hid hw2
      have HBB := Lib.hid (hbb2.mono (B' := w.heap.size + 1 + 1) (by simp))
      clear hown hrow hb1 hb2 hw1 hc1 hf1 hw2 hbb2
      go_wp2_with (with_reducible refine wpList_copy_rw rfl (.tmp 12) (.tmp 17) 22 22 rfl 48 2 Tryd.underlying22 Tryd.size30 _ _ _ _ _ _ rfl rfl (w.heap.size + 1 + 1) g L.length capg _ HRO.out 0 (L.length - W) (flat (L.drop W)) (by show min _ _ = _; omega) (by rw [flat_len, List.length_drop]) (fun h => absurd h (by omega)) (by omega) (flat_one _) ?_)
      intro w3 hown3 hgr3
      have hB3 := below_own HBB.out hgr3 HRO.out (Nat.le_refl _) (by simp at hz2; omega)
      have HO3 := Lib.hid (show w3.ownsRow (w.heap.size + 1 + 1) 48 2 (.slice (some ⟨g, 0, none⟩) L.length capg) L.length (flat (scrollL W L)) by
        have e := flat_splice (List.replicate L.length bl) 0 (L.drop W)
        rw [Nat.zero_mul] at e
        unfold scrollL; rw [← e]; exact hown3)
      have HB3 := Lib.hid hB3
      have hc3 := old_cell (hB3.mono (by simp))
      have hf3 := old_frozen (hB3.mono (by simp))
      have hz3 := hB3.size
      clear hB3 hown3 hgr3 hc2 hf2
      go_wp2
      refine bodyPost_ret (v := .agg #[.int .i64 W, .int .i64 H, .slice (some ⟨g, 0, none⟩) L.length capg]) (by simp [results, Tryd.results78, go_sem, hc3]) rfl ⟨ScrollTold.yes HRR.out ⟨_, rfl, ?_⟩, ?_⟩
      · rw [Int.toNat_natCast]
        exact ((((Own.sh (scrollL_len ..) hcapg HO3.out).set1 _ _ _ (by simp)).set1 _ _ _ (by simp)).set1 _ _ _ (by simp)).mono (by omega)
      · exact ((((hb0.trans (HB3.out.mono (by omega))).setCell (by simp) _).setCell (by simp) _).setCell (by simp) _)
    ·
      go_enter Tryd.func78, Tryd.ntmps78
      go_wp2_with fail
      refine (is_grid_any _ _ _ L _ (hv.below hb0) hm (S.below hb0)).mono ?_
      rintro e w1 ⟨rfl, hb1⟩
      rw [decide_eq_true HRR.out]
      have hc1 := old_cell hb1
      have hf1 := old_frozen hb1
      have hw1 := hb0.trans (hb1.mono hb0.size)
      go_wp2_with fail
      refine (HBL.out _ (T.below hw1)).mono ?_
      rintro e w2 ⟨v2, rfl, hown, hb2⟩
      obtain ⟨g, capg, rfl, hcapg, hrow⟩ := hown.op (List.length_replicate ..)
      have hbb2 := hb1.trans (hb2.mono hb1.size)
      have hw2 := hw1.trans (hb2.mono hw1.size)
      have hc2 := old_cell hbb2
      have hf2 := old_frozen hbb2
      have hz2 := hbb2.size
      have hsz2 : w.heap.size + 1 + 1 ≤ w1.heap.size := by have := hb1.size; simp at this; omega
      have HPOS := Lib.hid (show 0 < L.length - W → ∀ j u, (flat (L.drop W))[j]? = some u → w2.cell? ((⟨b, off + W * 2, none⟩ : Addr).add j) = some u from fun hn j u hu => by
        rw [flat_drop, List.getElem?_drop] at hu
        have := Rw.src (hv.below hw2) h0 _ _ hu
        rw [add_none] at this ⊢
        rw [Nat.add_assoc]; exact this)
      have HRO := Lib.hid (ownsRow_mono hrow hsz2)
      have HW2 := Lib.hid hw2
      have HBB := Lib.hid (hbb2.mono (B' := w.heap.size + 1 + 1) (by simp))
      clear hown hrow hb1 hb2 hw1 hc1 hf1 hw2 hbb2
      go_wp2_with (with_reducible refine wpList_copy_rw rfl (.tmp 12) (.tmp 17) 22 22 rfl 48 2 Tryd.underlying22 Tryd.size30 _ _ _ _ _ _ rfl rfl (w.heap.size + 1 + 1) g L.length capg _ HRO.out 0 (L.length - W) (flat (L.drop W)) (by show min _ _ = _; omega) (by rw [flat_len, List.length_drop]) (fun h => ⟨rfl, _, rfl, HPOS.out h⟩) (by omega) (flat_one _) ?_)
      intro w3 hown3 hgr3
      have hB3 := below_own HBB.out hgr3 HRO.out (Nat.le_refl _) (by simp at hz2; omega)
      have HO3 := Lib.hid (show w3.ownsRow (w.heap.size + 1 + 1) 48 2 (.slice (some ⟨g, 0, none⟩) L.length capg) L.length (flat (scrollL W L)) by
        have e := flat_splice (List.replicate L.length bl) 0 (L.drop W)
        rw [Nat.zero_mul] at e
        unfold scrollL; rw [← e]; exact hown3)
      have HB3 := Lib.hid hB3
      have hc3 := old_cell (hB3.mono (by simp))
      have hf3 := old_frozen (hB3.mono (by simp))
      have hz3 := hB3.size
      clear hB3 hown3 hgr3 hc2 hf2
      go_wp2
      refine bodyPost_ret (v := .agg #[.int .i64 W, .int .i64 H, .slice (some ⟨g, 0, none⟩) L.length capg]) (by simp [results, Tryd.results78, go_sem, hc3]) rfl ⟨ScrollTold.yes HRR.out ⟨_, rfl, ?_⟩, ?_⟩
      · rw [Int.toNat_natCast]
        exact ((((Own.sh (scrollL_len ..) hcapg HO3.out).set1 _ _ _ (by simp)).set1 _ _ _ (by simp)).set1 _ _ _ (by simp)).mono (by omega)
      · exact ((((hb0.trans (HB3.out.mono (by omega))).setCell (by simp) _).setCell (by simp) _).setCell (by simp) _)
  · have HP := Lib.hid hr
    clear hr
    go_enter Tryd.func78, Tryd.ntmps78
    go_wp2_with fail
    refine (is_grid_any _ _ _ L _ (hv.below hb0) hm (S.below hb0)).mono ?_
    rintro e w1 ⟨rfl, hb1⟩
    rw [decide_eq_false HP.out]
    have hc1 := old_cell hb1
    have hf1 := old_frozen hb1
    have hz1 := hb1.size
    have hw1 := hb0.trans (hb1.mono hb0.size)
    go_wp2
    refine bodyPost_ret (v := .agg #[.int .i64 gw, .int .i64 gh, .slice A L.length cap]) (by simp [results, Tryd.results78, go_sem, hc1]) rfl ⟨ScrollTold.no HP.out rfl, ?_⟩
    exact (((hw1.setCell (by simp) _).setCell (by simp) _).setCell (by simp) _)
end Go.Proofs.YtkkioajmfkcloaaDoor
/- The contract of Fit of a grid. -/
set_option linter.unusedVariables false
namespace Go.Proofs.YtkkioajmfkcloaaDoor
open Go.RowKit Gl L Wd Gd
set_option maxHeartbeats 4000000 in
theorem fit_any (gw gh fw fh : Int) (v : Value) (L : List (Int × Int)) (w : World) (hv : Rw w v 2 L.length (flat L)) (hcp : Capped v) (hm : L.length ≤ maxLen) (S : Spans w 2) (T : Blk w 0) :
    Calls Tryd.prog 16 #[.agg #[.int .i64 gw, .int .i64 gh, v], .int .i64 fw, .int .i64 fh] w fun e w' => Out (fitB gw gh L fw fh) (fitE gw gh L) w.heap.size w' e fw fh (fitV gw gh L fw fh) ∧ Below w.heap.size w w' := by
  have hb0 : Below w.heap.size w ((w.alloc (.cells #[.int .i64 gw, .int .i64 gh, v] 24)).alloc (.cells #[.int .i64 0, .int .i64 0, .slice none 0 0] 24)) := ((Below.refl _ _).alloc (Nat.le_refl _) _).alloc (by simp) _
  obtain ⟨A, cap, rfl⟩ : ∃ A cap, v = .slice A L.length cap := ⟨_, _, hv.2.choose_spec.choose_spec.1⟩
  by_cases hr : right gw gh L
  · have HRR := Lib.hid hr
    have HE := Lib.hid (show fitE gw gh L = 4 from if_pos hr)
    cases hs : sidesB fw fh
    · have HP := Lib.hid (show fitB gw gh L fw fh = false by unfold fitB; rw [hs, Bool.and_false])
      have HS := Lib.hid hs
      clear hr hs
      go_enter Tryd.func16, Tryd.ntmps16
      go_wp2_with fail
      refine (is_grid_any _ _ _ L _ (hv.below hb0) hm (S.below hb0)).mono ?_
      rintro e w1 ⟨rfl, hb1⟩
      rw [decide_eq_true HRR.out]
      have hw1 := hb0.trans (hb1.mono hb0.size)
      go_wp2_with fail
      refine (new_any _ _ _ (T.below hw1)).mono ?_
      rintro e w2 ⟨ho, hb2⟩
      obtain rfl := ho.isnt HS.out
      have hbb2 := hb1.trans (hb2.mono hb1.size)
      have hc2 := old_cell hbb2
      have hf2 := old_frozen hbb2
      have hzz : w.heap.size + 1 < w2.heap.size := by have := hbb2.size; simp at this; omega
      have hzy : w.heap.size < w2.heap.size := by omega
      have hw2 := hw1.trans (hb2.mono hw1.size)
      go_wp2
      refine bodyPost_ret (v := .tuple #[.agg #[.int .i64 0, .int .i64 0, .slice none 0 0], .int .i64 4]) (by simp [results, Tryd.results16, go_sem, hc2, hzz]) rfl ⟨Out.no HP.out (by rw [HE.out]; rfl), ?_⟩
      exact (((hw2.setCell (by simp) _).setCell (by simp) _).setCell (by simp) _).alloc (by simp; exact hw2.size) _
    · have HP := Lib.hid (show fitB gw gh L fw fh = true by unfold fitB; rw [hs, decide_eq_true hr]; rfl)
      have HS := Lib.hid hs
      obtain ⟨W, H, rfl, rfl, hR⟩ := right_R hr
      obtain ⟨w', h', rfl, rfl, g2, g80, g1, g24⟩ := sides_of hs
      have hlen : L.length ≤ 1920 := by rw [hR.len]; exact Nat.mul_le_mul hR.w80 hR.h24
      have w80 := hR.w80
      have h24 := hR.h24
      have wz2 := hR.w2
      have hz1 := hR.h1
      have h0 : 0 < L.length := by rw [hR.len]; exact Nat.mul_pos (by omega) (by omega)
      have hN : w' * h' ≤ 1920 := Nat.mul_le_mul g80 g24
      have HR := Lib.hid hR
      clear hr hs hR
      obtain ⟨b, off, rfl, _, hc0⟩ := Rw.cell2 hv h0
      have hbw : b < w.heap.size := World.block_lt_of_cell? w _ (hc0 0 h0).1
      clear hc0
      have hcc := hcp _ _ _ rfl
      rcases Nat.lt_trichotomy h' H with hmn | hmn | hmn
      ·
        go_enter Tryd.func16, Tryd.ntmps16
        go_wp2_with fail
        refine (is_grid_any _ _ _ L _ (hv.below hb0) hm (S.below hb0)).mono ?_
        rintro e w1 ⟨rfl, hb1⟩
        rw [decide_eq_true HRR.out]
        have hw1 := hb0.trans (hb1.mono hb0.size)
        go_wp2_with fail
        refine (new_any _ _ _ (T.below hw1)).mono ?_
        rintro e w2 ⟨ho, hb2⟩
        obtain ⟨v2, rfl, hown⟩ := ho.is HS.out
        obtain ⟨g, capg, rfl, hcapg, hrow⟩ := hown.op (n := w' * h') (by unfold newL; simp)
        have hbb2 := hb1.trans (hb2.mono hb1.size)
        have hzz : w.heap.size + 1 < w2.heap.size := by have := hbb2.size; simp at this; omega
        have hzy : w.heap.size < w2.heap.size := by omega
        have hz11 : w.heap.size + 1 + 1 ≤ w1.heap.size := by have := hb1.size; simp at this; omega
        have hgl := hrow.lt g rfl
        have hT1 := T.1
        have hT2 := T.2
        have hw0 : 0 < w.heap.size := World.block_lt_of_cell? w _ hT1
        have hrow0 : w2.ownsRow (w.heap.size + 1 + 1) 48 2 (.slice (some ⟨g, 0, none⟩) (w' * h') capg) (w' * h') (flat (rowsK W H w' h' L 0)) := by
          rw [rowsK_0]; unfold newL at hrow; simpa using ownsRow_mono hrow hz11
        have hb3 : Below (w.heap.size + 1 + 1) _ w2 := hbb2.mono (B' := w.heap.size + 1 + 1) (by simp)
        have hc2 := old_cell hbb2
        have HW2 := Lib.hid (hw1.trans (hb2.mono hw1.size))
        clear hown hrow hb1 hb2 hw1 hbb2
        go_wp2
        go_loopw [30] (fun i wr => ∃ k : Nat, k ≤ h' ∧ i = .int .i64 k ∧ wr.ownsRow (w.heap.size + 1 + 1) 48 2 (.slice (some ⟨g, 0, none⟩) (w' * h') capg) (w' * h') (flat (rowsK W H w' h' L k)) ∧ wr.heap[w2.heap.size]? = some (.cells #[.int .i64 w', .int .i64 h', .slice (some ⟨g, 0, none⟩) (w' * h') capg] 24 (0, 0)) ∧ Below (w.heap.size + 1 + 1) ((w.alloc (.cells #[.int .i64 W, .int .i64 H, .slice (some ⟨b, off, none⟩) L.length cap] 24)).alloc (.cells #[.int .i64 0, .int .i64 0, .slice none 0 0] 24)) wr) (fun i _ => h' - (intOf i).toNat)
        case atStart => exact ⟨0, Nat.zero_le _, rfl, hrow0.alloc _, heap_alloc_new w2 _, hb3.alloc (by omega) _⟩
        case round =>
          obtain ⟨k, hk, rfl, hown, hg, hw⟩ := hrel
          obtain ⟨b1, b2, b3, f1, f2, f3, hsz⟩ := blk3 hg
          have hww : Below w.heap.size w wr := hb0.trans (hw.mono (by omega))
          have hc1 := old_cell (hw.mono (by simp))
          have hf1 := old_frozen (hw.mono (by simp))
          have hwz : w.heap.size + 1 + 1 ≤ wr.heap.size := by omega
          by_cases hlt : k < h'
          · have hkh : k < h' := by omega
            have hkH : k < H := by omega
            have e1 : ((k : Int) + 1) * (w' : Int) = (k : Int) * (w' : Int) + (w' : Int) := by rw [Int.add_mul, Int.one_mul]
            have e2 : ((k : Int) + 1) * (W : Int) = (k : Int) * (W : Int) + (W : Int) := by rw [Int.add_mul, Int.one_mul]
            have hkw : k * w' + w' ≤ w' * h' := by
              have := Nat.mul_le_mul_right w' (show k + 1 ≤ h' by omega)
              rw [Nat.add_mul, Nat.mul_comm h' w'] at this
              omega
            have hkW : k * W + W ≤ L.length := by
              have := Nat.mul_le_mul_right W (show k + 1 ≤ H by omega)
              rw [Nat.add_mul, Nat.mul_comm H W, ← HR.out.len] at this
              omega
            have HSEG := Lib.hid (show ∀ j u, (flat (seg W w' k L))[j]? = some u → wr.cell? ((⟨b, off + k * W * 2, none⟩ : Addr).add j) = some u from fun j u hu => by
              unfold seg at hu
              rw [flat_take, flat_drop, List.getElem?_take] at hu
              split at hu
              · rw [List.getElem?_drop] at hu
                have := Rw.src (hv.below hww) h0 _ _ hu
                rw [add_none] at this ⊢
                rw [Nat.add_assoc]; exact this
              · cases hu)
            have hsl : (seg W w' k L).length = min w' W := seg_len HR.out.len hkH
            have HSL := Lib.hid hsl
            have HO := Lib.hid hown
            have HG := Lib.hid hg
            have HB := Lib.hid hw
            clear hown hg hw hsl
            go_wp2_with (with_reducible refine wpList_copy_rw rfl (.tmp 43) (.tmp 55) 22 22 rfl 48 2 Tryd.underlying22 Tryd.size30 _ _ _ _ _ _ rfl rfl (w.heap.size + 1 + 1) g (w' * h') capg _ HO.out (k * w' * 2) (min w' W) (flat (seg W w' k L)) (by show min _ _ = _; omega) (by rw [flat_len, HSL.out]) (fun _ => ⟨rfl, _, rfl, HSEG.out⟩) (by omega) (flat_one _) ?_)
            intro w3 hown3 hgr3
            have HB3 := Lib.hid (below_own HB.out hgr3 HO.out (Nat.le_refl _) hwz)
            have hg3 := (hgr3.block _ hsz (by simp; omega)).trans HG.out
            have hn3 : w3.ownsRow (w.heap.size + 1 + 1) 48 2 (.slice (some ⟨g, 0, none⟩) (w' * h') capg) (w' * h') (flat (rowsX W H w' h' L k)) := by
              unfold rowsX
              have e := flat_splice (rowsK W H w' h' L k) (k * w') (seg W w' k L)
              rw [show splice (rowsK W H w' h' L k) (k * w') (List.take (min w' W) (List.drop (k * W) L)) = splice (rowsK W H w' h' L k) (k * w') (seg W w' k L) from rfl, ← e]
              exact hown3
            have hi3 : k * w' + (w' - 1) < w' * h' := by omega
            obtain ⟨x, y, hxy, c1, c2, q1, q2⟩ := own_cells hn3 (k * w' + (w' - 1)) hi3
            have hS := ownsRow_set2 hn3 ((k * w' + (w' - 1)) * 2) (.int .i32 32) (.int .i64 0)
            rw [← flat_set] at hS
            have eA : (k * w' + (w' - 1)) * 2 = k * w' * 2 + (w' - 1) * 2 := Nat.add_mul _ _ _
            rw [eA] at c1 c2 q1 q2 hS
            have HS3 := Lib.hid hS
            have HG3 := Lib.hid hg3
            have HN3 := Lib.hid hn3
            have HXY := Lib.hid hxy
            obtain ⟨b1, b2, b3, f1, f2, f3, hsz3⟩ := blk3 hg3
            have hc3 := old_cell (HB3.out.mono (by simp))
            have hf3 := old_frozen (HB3.out.mono (by simp))
            have hwz3 : w.heap.size + 1 + 1 ≤ w3.heap.size := by omega
            have hsucc := rowsK_succ (w := w') (h := h') HR.out (by omega) hkH hkh
            rw [HXY.out] at hsucc
            simp only at hsucc
            by_cases hy : y = 1
            · subst hy
              rw [if_pos rfl] at hsucc
              have HSU := Lib.hid hsucc
              clear hS hg3 hn3 hxy hgr3 hown3 hc1 hf1 hsucc eA
              go_wp2
              go_roundw
              case rel =>
                obtain ⟨o1, g1⟩ := HS3.out
                refine ⟨k + 1, by omega, by go_num, ?_, (g1.block _ hsz3 (by simp; omega)).trans HG3.out, below_own HB3.out g1 HN3.out (Nat.le_refl _) hwz3⟩
                rw [HSU.out]
                exact o1
              case measure => simp [intOf]; omega
            · rw [if_neg hy] at hsucc
              have HSU := Lib.hid hsucc
              have hyb : (y == 1) = false := by simpa using hy
              clear hS hg3 hn3 hxy hgr3 hown3 hc1 hf1 hsucc eA hy
              go_wp2
              go_roundw
              case rel => exact ⟨k + 1, by omega, by go_num, by rw [HSU.out]; exact HN3.out, HG3.out, HB3.out⟩
              case measure => simp [intOf]; omega
          · have hkm : k = min h' H := by omega
            rw [rowsK_end HR.out hkm] at hown
            have HO := Lib.hid hown
            obtain rfl : h' = k := by omega
            clear hown hg hkm
            go_wp2
            refine bodyPost_ret (v := .tuple #[.agg #[.int .i64 w', .int .i64 h', .slice (some ⟨g, 0, none⟩) (w' * h') capg], .int .i64 0]) (by simp [results, Tryd.results16, go_sem, hc1]) rfl ⟨Out.yes HP.out ⟨_, rfl, ?_⟩, ?_⟩
            · unfold fitV
              simp only [Int.toNat_natCast]
              exact ((((Own.sh (fitL_len ..) hcapg HO.out).set1 _ _ _ (by simp)).set1 _ _ _ (by simp)).set1 _ _ _ (by simp)).mono (by omega)
            · exact ((((hww.setCell (by simp) _).setCell (by simp) _).setCell (by simp) _))
      · subst hmn
        go_enter Tryd.func16, Tryd.ntmps16
        go_wp2_with fail
        refine (is_grid_any _ _ _ L _ (hv.below hb0) hm (S.below hb0)).mono ?_
        rintro e w1 ⟨rfl, hb1⟩
        rw [decide_eq_true HRR.out]
        have hw1 := hb0.trans (hb1.mono hb0.size)
        go_wp2_with fail
        refine (new_any _ _ _ (T.below hw1)).mono ?_
        rintro e w2 ⟨ho, hb2⟩
        obtain ⟨v2, rfl, hown⟩ := ho.is HS.out
        obtain ⟨g, capg, rfl, hcapg, hrow⟩ := hown.op (n := w' * h') (by unfold newL; simp)
        have hbb2 := hb1.trans (hb2.mono hb1.size)
        have hzz : w.heap.size + 1 < w2.heap.size := by have := hbb2.size; simp at this; omega
        have hzy : w.heap.size < w2.heap.size := by omega
        have hz11 : w.heap.size + 1 + 1 ≤ w1.heap.size := by have := hb1.size; simp at this; omega
        have hgl := hrow.lt g rfl
        have hT1 := T.1
        have hT2 := T.2
        have hw0 : 0 < w.heap.size := World.block_lt_of_cell? w _ hT1
        have hrow0 : w2.ownsRow (w.heap.size + 1 + 1) 48 2 (.slice (some ⟨g, 0, none⟩) (w' * h') capg) (w' * h') (flat (rowsK W h' w' h' L 0)) := by
          rw [rowsK_0]; unfold newL at hrow; simpa using ownsRow_mono hrow hz11
        have hb3 : Below (w.heap.size + 1 + 1) _ w2 := hbb2.mono (B' := w.heap.size + 1 + 1) (by simp)
        have hc2 := old_cell hbb2
        have HW2 := Lib.hid (hw1.trans (hb2.mono hw1.size))
        clear hown hrow hb1 hb2 hw1 hbb2
        go_wp2
        go_loopw [30] (fun i wr => ∃ k : Nat, k ≤ h' ∧ i = .int .i64 k ∧ wr.ownsRow (w.heap.size + 1 + 1) 48 2 (.slice (some ⟨g, 0, none⟩) (w' * h') capg) (w' * h') (flat (rowsK W h' w' h' L k)) ∧ wr.heap[w2.heap.size]? = some (.cells #[.int .i64 w', .int .i64 h', .slice (some ⟨g, 0, none⟩) (w' * h') capg] 24 (0, 0)) ∧ Below (w.heap.size + 1 + 1) ((w.alloc (.cells #[.int .i64 W, .int .i64 h', .slice (some ⟨b, off, none⟩) L.length cap] 24)).alloc (.cells #[.int .i64 0, .int .i64 0, .slice none 0 0] 24)) wr) (fun i _ => h' - (intOf i).toNat)
        case atStart => exact ⟨0, Nat.zero_le _, rfl, hrow0.alloc _, heap_alloc_new w2 _, hb3.alloc (by omega) _⟩
        case round =>
          obtain ⟨k, hk, rfl, hown, hg, hw⟩ := hrel
          obtain ⟨b1, b2, b3, f1, f2, f3, hsz⟩ := blk3 hg
          have hww : Below w.heap.size w wr := hb0.trans (hw.mono (by omega))
          have hc1 := old_cell (hw.mono (by simp))
          have hf1 := old_frozen (hw.mono (by simp))
          have hwz : w.heap.size + 1 + 1 ≤ wr.heap.size := by omega
          by_cases hlt : k < h'
          · have hkh : k < h' := by omega
            have hkH : k < h' := by omega
            have e1 : ((k : Int) + 1) * (w' : Int) = (k : Int) * (w' : Int) + (w' : Int) := by rw [Int.add_mul, Int.one_mul]
            have e2 : ((k : Int) + 1) * (W : Int) = (k : Int) * (W : Int) + (W : Int) := by rw [Int.add_mul, Int.one_mul]
            have hkw : k * w' + w' ≤ w' * h' := by
              have := Nat.mul_le_mul_right w' (show k + 1 ≤ h' by omega)
              rw [Nat.add_mul, Nat.mul_comm h' w'] at this
              omega
            have hkW : k * W + W ≤ L.length := by
              have := Nat.mul_le_mul_right W (show k + 1 ≤ h' by omega)
              rw [Nat.add_mul, Nat.mul_comm h' W, ← HR.out.len] at this
              omega
            have HSEG := Lib.hid (show ∀ j u, (flat (seg W w' k L))[j]? = some u → wr.cell? ((⟨b, off + k * W * 2, none⟩ : Addr).add j) = some u from fun j u hu => by
              unfold seg at hu
              rw [flat_take, flat_drop, List.getElem?_take] at hu
              split at hu
              · rw [List.getElem?_drop] at hu
                have := Rw.src (hv.below hww) h0 _ _ hu
                rw [add_none] at this ⊢
                rw [Nat.add_assoc]; exact this
              · cases hu)
            have hsl : (seg W w' k L).length = min w' W := seg_len HR.out.len hkH
            have HSL := Lib.hid hsl
            have HO := Lib.hid hown
            have HG := Lib.hid hg
            have HB := Lib.hid hw
            clear hown hg hw hsl
            go_wp2_with (with_reducible refine wpList_copy_rw rfl (.tmp 43) (.tmp 55) 22 22 rfl 48 2 Tryd.underlying22 Tryd.size30 _ _ _ _ _ _ rfl rfl (w.heap.size + 1 + 1) g (w' * h') capg _ HO.out (k * w' * 2) (min w' W) (flat (seg W w' k L)) (by show min _ _ = _; omega) (by rw [flat_len, HSL.out]) (fun _ => ⟨rfl, _, rfl, HSEG.out⟩) (by omega) (flat_one _) ?_)
            intro w3 hown3 hgr3
            have HB3 := Lib.hid (below_own HB.out hgr3 HO.out (Nat.le_refl _) hwz)
            have hg3 := (hgr3.block _ hsz (by simp; omega)).trans HG.out
            have hn3 : w3.ownsRow (w.heap.size + 1 + 1) 48 2 (.slice (some ⟨g, 0, none⟩) (w' * h') capg) (w' * h') (flat (rowsX W h' w' h' L k)) := by
              unfold rowsX
              have e := flat_splice (rowsK W h' w' h' L k) (k * w') (seg W w' k L)
              rw [show splice (rowsK W h' w' h' L k) (k * w') (List.take (min w' W) (List.drop (k * W) L)) = splice (rowsK W h' w' h' L k) (k * w') (seg W w' k L) from rfl, ← e]
              exact hown3
            have hi3 : k * w' + (w' - 1) < w' * h' := by omega
            obtain ⟨x, y, hxy, c1, c2, q1, q2⟩ := own_cells hn3 (k * w' + (w' - 1)) hi3
            have hS := ownsRow_set2 hn3 ((k * w' + (w' - 1)) * 2) (.int .i32 32) (.int .i64 0)
            rw [← flat_set] at hS
            have eA : (k * w' + (w' - 1)) * 2 = k * w' * 2 + (w' - 1) * 2 := Nat.add_mul _ _ _
            rw [eA] at c1 c2 q1 q2 hS
            have HS3 := Lib.hid hS
            have HG3 := Lib.hid hg3
            have HN3 := Lib.hid hn3
            have HXY := Lib.hid hxy
            obtain ⟨b1, b2, b3, f1, f2, f3, hsz3⟩ := blk3 hg3
            have hc3 := old_cell (HB3.out.mono (by simp))
            have hf3 := old_frozen (HB3.out.mono (by simp))
            have hwz3 : w.heap.size + 1 + 1 ≤ w3.heap.size := by omega
            have hsucc := rowsK_succ (w := w') (h := h') HR.out (by omega) hkH hkh
            rw [HXY.out] at hsucc
            simp only at hsucc
            by_cases hy : y = 1
            · subst hy
              rw [if_pos rfl] at hsucc
              have HSU := Lib.hid hsucc
              clear hS hg3 hn3 hxy hgr3 hown3 hc1 hf1 hsucc eA
              go_wp2
              go_roundw
              case rel =>
                obtain ⟨o1, g1⟩ := HS3.out
                refine ⟨k + 1, by omega, by go_num, ?_, (g1.block _ hsz3 (by simp; omega)).trans HG3.out, below_own HB3.out g1 HN3.out (Nat.le_refl _) hwz3⟩
                rw [HSU.out]
                exact o1
              case measure => simp [intOf]; omega
            · rw [if_neg hy] at hsucc
              have HSU := Lib.hid hsucc
              have hyb : (y == 1) = false := by simpa using hy
              clear hS hg3 hn3 hxy hgr3 hown3 hc1 hf1 hsucc eA hy
              go_wp2
              go_roundw
              case rel => exact ⟨k + 1, by omega, by go_num, by rw [HSU.out]; exact HN3.out, HG3.out, HB3.out⟩
              case measure => simp [intOf]; omega
          · have hkm : k = min h' h' := by omega
            rw [rowsK_end HR.out hkm] at hown
            have HO := Lib.hid hown
            obtain rfl : h' = k := by omega
            clear hown hg hkm
            go_wp2
            refine bodyPost_ret (v := .tuple #[.agg #[.int .i64 w', .int .i64 h', .slice (some ⟨g, 0, none⟩) (w' * h') capg], .int .i64 0]) (by simp [results, Tryd.results16, go_sem, hc1]) rfl ⟨Out.yes HP.out ⟨_, rfl, ?_⟩, ?_⟩
            · unfold fitV
              simp only [Int.toNat_natCast]
              exact ((((Own.sh (fitL_len ..) hcapg HO.out).set1 _ _ _ (by simp)).set1 _ _ _ (by simp)).set1 _ _ _ (by simp)).mono (by omega)
            · exact ((((hww.setCell (by simp) _).setCell (by simp) _).setCell (by simp) _))
      ·
        go_enter Tryd.func16, Tryd.ntmps16
        go_wp2_with fail
        refine (is_grid_any _ _ _ L _ (hv.below hb0) hm (S.below hb0)).mono ?_
        rintro e w1 ⟨rfl, hb1⟩
        rw [decide_eq_true HRR.out]
        have hw1 := hb0.trans (hb1.mono hb0.size)
        go_wp2_with fail
        refine (new_any _ _ _ (T.below hw1)).mono ?_
        rintro e w2 ⟨ho, hb2⟩
        obtain ⟨v2, rfl, hown⟩ := ho.is HS.out
        obtain ⟨g, capg, rfl, hcapg, hrow⟩ := hown.op (n := w' * h') (by unfold newL; simp)
        have hbb2 := hb1.trans (hb2.mono hb1.size)
        have hzz : w.heap.size + 1 < w2.heap.size := by have := hbb2.size; simp at this; omega
        have hzy : w.heap.size < w2.heap.size := by omega
        have hz11 : w.heap.size + 1 + 1 ≤ w1.heap.size := by have := hb1.size; simp at this; omega
        have hgl := hrow.lt g rfl
        have hT1 := T.1
        have hT2 := T.2
        have hw0 : 0 < w.heap.size := World.block_lt_of_cell? w _ hT1
        have hrow0 : w2.ownsRow (w.heap.size + 1 + 1) 48 2 (.slice (some ⟨g, 0, none⟩) (w' * h') capg) (w' * h') (flat (rowsK W H w' h' L 0)) := by
          rw [rowsK_0]; unfold newL at hrow; simpa using ownsRow_mono hrow hz11
        have hb3 : Below (w.heap.size + 1 + 1) _ w2 := hbb2.mono (B' := w.heap.size + 1 + 1) (by simp)
        have hc2 := old_cell hbb2
        have HW2 := Lib.hid (hw1.trans (hb2.mono hw1.size))
        clear hown hrow hb1 hb2 hw1 hbb2
        go_wp2
        go_loopw [30] (fun i wr => ∃ k : Nat, k ≤ H ∧ i = .int .i64 k ∧ wr.ownsRow (w.heap.size + 1 + 1) 48 2 (.slice (some ⟨g, 0, none⟩) (w' * h') capg) (w' * h') (flat (rowsK W H w' h' L k)) ∧ wr.heap[w2.heap.size]? = some (.cells #[.int .i64 w', .int .i64 h', .slice (some ⟨g, 0, none⟩) (w' * h') capg] 24 (0, 0)) ∧ Below (w.heap.size + 1 + 1) ((w.alloc (.cells #[.int .i64 W, .int .i64 H, .slice (some ⟨b, off, none⟩) L.length cap] 24)).alloc (.cells #[.int .i64 0, .int .i64 0, .slice none 0 0] 24)) wr) (fun i _ => H - (intOf i).toNat)
        case atStart => exact ⟨0, Nat.zero_le _, rfl, hrow0.alloc _, heap_alloc_new w2 _, hb3.alloc (by omega) _⟩
        case round =>
          obtain ⟨k, hk, rfl, hown, hg, hw⟩ := hrel
          obtain ⟨b1, b2, b3, f1, f2, f3, hsz⟩ := blk3 hg
          have hww : Below w.heap.size w wr := hb0.trans (hw.mono (by omega))
          have hc1 := old_cell (hw.mono (by simp))
          have hf1 := old_frozen (hw.mono (by simp))
          have hwz : w.heap.size + 1 + 1 ≤ wr.heap.size := by omega
          by_cases hlt : k < H
          · have hkh : k < h' := by omega
            have hkH : k < H := by omega
            have e1 : ((k : Int) + 1) * (w' : Int) = (k : Int) * (w' : Int) + (w' : Int) := by rw [Int.add_mul, Int.one_mul]
            have e2 : ((k : Int) + 1) * (W : Int) = (k : Int) * (W : Int) + (W : Int) := by rw [Int.add_mul, Int.one_mul]
            have hkw : k * w' + w' ≤ w' * h' := by
              have := Nat.mul_le_mul_right w' (show k + 1 ≤ h' by omega)
              rw [Nat.add_mul, Nat.mul_comm h' w'] at this
              omega
            have hkW : k * W + W ≤ L.length := by
              have := Nat.mul_le_mul_right W (show k + 1 ≤ H by omega)
              rw [Nat.add_mul, Nat.mul_comm H W, ← HR.out.len] at this
              omega
            have HSEG := Lib.hid (show ∀ j u, (flat (seg W w' k L))[j]? = some u → wr.cell? ((⟨b, off + k * W * 2, none⟩ : Addr).add j) = some u from fun j u hu => by
              unfold seg at hu
              rw [flat_take, flat_drop, List.getElem?_take] at hu
              split at hu
              · rw [List.getElem?_drop] at hu
                have := Rw.src (hv.below hww) h0 _ _ hu
                rw [add_none] at this ⊢
                rw [Nat.add_assoc]; exact this
              · cases hu)
            have hsl : (seg W w' k L).length = min w' W := seg_len HR.out.len hkH
            have HSL := Lib.hid hsl
            have HO := Lib.hid hown
            have HG := Lib.hid hg
            have HB := Lib.hid hw
            clear hown hg hw hsl
            go_wp2_with (with_reducible refine wpList_copy_rw rfl (.tmp 43) (.tmp 55) 22 22 rfl 48 2 Tryd.underlying22 Tryd.size30 _ _ _ _ _ _ rfl rfl (w.heap.size + 1 + 1) g (w' * h') capg _ HO.out (k * w' * 2) (min w' W) (flat (seg W w' k L)) (by show min _ _ = _; omega) (by rw [flat_len, HSL.out]) (fun _ => ⟨rfl, _, rfl, HSEG.out⟩) (by omega) (flat_one _) ?_)
            intro w3 hown3 hgr3
            have HB3 := Lib.hid (below_own HB.out hgr3 HO.out (Nat.le_refl _) hwz)
            have hg3 := (hgr3.block _ hsz (by simp; omega)).trans HG.out
            have hn3 : w3.ownsRow (w.heap.size + 1 + 1) 48 2 (.slice (some ⟨g, 0, none⟩) (w' * h') capg) (w' * h') (flat (rowsX W H w' h' L k)) := by
              unfold rowsX
              have e := flat_splice (rowsK W H w' h' L k) (k * w') (seg W w' k L)
              rw [show splice (rowsK W H w' h' L k) (k * w') (List.take (min w' W) (List.drop (k * W) L)) = splice (rowsK W H w' h' L k) (k * w') (seg W w' k L) from rfl, ← e]
              exact hown3
            have hi3 : k * w' + (w' - 1) < w' * h' := by omega
            obtain ⟨x, y, hxy, c1, c2, q1, q2⟩ := own_cells hn3 (k * w' + (w' - 1)) hi3
            have hS := ownsRow_set2 hn3 ((k * w' + (w' - 1)) * 2) (.int .i32 32) (.int .i64 0)
            rw [← flat_set] at hS
            have eA : (k * w' + (w' - 1)) * 2 = k * w' * 2 + (w' - 1) * 2 := Nat.add_mul _ _ _
            rw [eA] at c1 c2 q1 q2 hS
            have HS3 := Lib.hid hS
            have HG3 := Lib.hid hg3
            have HN3 := Lib.hid hn3
            have HXY := Lib.hid hxy
            obtain ⟨b1, b2, b3, f1, f2, f3, hsz3⟩ := blk3 hg3
            have hc3 := old_cell (HB3.out.mono (by simp))
            have hf3 := old_frozen (HB3.out.mono (by simp))
            have hwz3 : w.heap.size + 1 + 1 ≤ w3.heap.size := by omega
            have hsucc := rowsK_succ (w := w') (h := h') HR.out (by omega) hkH hkh
            rw [HXY.out] at hsucc
            simp only at hsucc
            by_cases hy : y = 1
            · subst hy
              rw [if_pos rfl] at hsucc
              have HSU := Lib.hid hsucc
              clear hS hg3 hn3 hxy hgr3 hown3 hc1 hf1 hsucc eA
              go_wp2
              go_roundw
              case rel =>
                obtain ⟨o1, g1⟩ := HS3.out
                refine ⟨k + 1, by omega, by go_num, ?_, (g1.block _ hsz3 (by simp; omega)).trans HG3.out, below_own HB3.out g1 HN3.out (Nat.le_refl _) hwz3⟩
                rw [HSU.out]
                exact o1
              case measure => simp [intOf]; omega
            · rw [if_neg hy] at hsucc
              have HSU := Lib.hid hsucc
              have hyb : (y == 1) = false := by simpa using hy
              clear hS hg3 hn3 hxy hgr3 hown3 hc1 hf1 hsucc eA hy
              go_wp2
              go_roundw
              case rel => exact ⟨k + 1, by omega, by go_num, by rw [HSU.out]; exact HN3.out, HG3.out, HB3.out⟩
              case measure => simp [intOf]; omega
          · have hkm : k = min h' H := by omega
            rw [rowsK_end HR.out hkm] at hown
            have HO := Lib.hid hown
            obtain rfl : H = k := by omega
            clear hown hg hkm
            go_wp2
            refine bodyPost_ret (v := .tuple #[.agg #[.int .i64 w', .int .i64 h', .slice (some ⟨g, 0, none⟩) (w' * h') capg], .int .i64 0]) (by simp [results, Tryd.results16, go_sem, hc1]) rfl ⟨Out.yes HP.out ⟨_, rfl, ?_⟩, ?_⟩
            · unfold fitV
              simp only [Int.toNat_natCast]
              exact ((((Own.sh (fitL_len ..) hcapg HO.out).set1 _ _ _ (by simp)).set1 _ _ _ (by simp)).set1 _ _ _ (by simp)).mono (by omega)
            · exact ((((hww.setCell (by simp) _).setCell (by simp) _).setCell (by simp) _))
  · have HP := Lib.hid (show fitB gw gh L fw fh = false by unfold fitB; rw [decide_eq_false hr]; rfl)
    have HE := Lib.hid (show fitE gw gh L = 1 from if_neg hr)
    have HRR := Lib.hid hr
    clear hr
    go_enter Tryd.func16, Tryd.ntmps16
    go_wp2_with fail
    refine (is_grid_any _ _ _ L _ (hv.below hb0) hm (S.below hb0)).mono ?_
    rintro e w1 ⟨rfl, hb1⟩
    rw [decide_eq_false HRR.out]
    have hc1 := old_cell hb1
    have hf1 := old_frozen hb1
    have hw1 := hb0.trans (hb1.mono hb0.size)
    go_wp2
    refine bodyPost_ret (v := .tuple #[.agg #[.int .i64 0, .int .i64 0, .slice none 0 0], .int .i64 1]) (by simp [results, Tryd.results16, go_sem, hc1]) rfl ⟨Out.no HP.out (by rw [HE.out]; rfl), ?_⟩
    exact (((hw1.setCell (by simp) _).setCell (by simp) _).setCell (by simp) _)
end Go.Proofs.YtkkioajmfkcloaaDoor
/- The contracts of Put and Blank of a grid. -/
set_option linter.unusedVariables false
namespace Go.Proofs.YtkkioajmfkcloaaDoor
open Go.RowKit Gl L Wd Gd
set_option maxHeartbeats 4000000 in
theorem gput_any (gw gh x y r : Int) (v : Value) (L : List (Int × Int)) (w : World) (hv : Rw w v 2 L.length (flat L)) (hm : L.length ≤ maxLen) (S : Spans w 2) (T : Blk w 0) :
    Calls Tryd.prog 13 #[.agg #[.int .i64 gw, .int .i64 gh, v], .int .i64 x, .int .i64 y, .int .i32 r] w fun e w' => Out (putB gw gh L x y r) 1 w.heap.size w' e gw gh (putL gw L x y r) ∧ Below w.heap.size w w' := by
  have hb0 : Below w.heap.size w ((w.alloc (.cells #[.int .i64 gw, .int .i64 gh, v] 24)).alloc (.cells #[.int .i64 0, .int .i64 0, .slice none 0 0] 24)) := ((Below.refl _ _).alloc (Nat.le_refl _) _).alloc (by simp) _
  cases hs : shw r
  · have HS := Lib.hid hs
    have HP := Lib.hid (show putB gw gh L x y r = false by unfold putB; rw [hs]; simp)
    clear hs
    go_enter Tryd.func13, Tryd.ntmps13
    go_wp2_with fail
    refine (shown_any _ _).mono ?_
    rintro e w1 ⟨rfl, rfl⟩
    rw [HS.out]
    go_wp2
    refine bodyPost_ret (v := .tuple #[.agg #[.int .i64 0, .int .i64 0, .slice none 0 0], .int .i64 1]) (by simp [results, Tryd.results13, go_sem]) rfl ⟨Out.no HP.out rfl, hb0⟩
  by_cases hp : place gw gh L x y
  · have HPL := Lib.hid hp
    have HS := Lib.hid hs
    obtain ⟨W, H, X, Y, rfl, rfl, rfl, rfl, hR, hX, hY, hlt, hlt2⟩ := place_nat hp
    have hlen : L.length ≤ 1920 := by rw [hR.len]; exact Nat.mul_le_mul hR.w80 hR.h24
    have w80 := hR.w80
    have HR := Lib.hid hR
    clear hp hs hR
    have hcl := cl_len r
    obtain ⟨A, cap, rfl⟩ : ∃ A cap, v = .slice A L.length cap := ⟨_, _, hv.2.choose_spec.choose_spec.1⟩
    have hc00 := old_cell hb0
    go_enter Tryd.func13, Tryd.ntmps13
    go_wp2_with fail
    refine (shown_any _ _).mono ?_
    rintro e w1 ⟨rfl, rfl⟩
    rw [HS.out]
    go_wp2_with fail
    refine (gplace_any _ _ _ _ _ L _ (hv.below hb0) hm (S.below hb0)).mono ?_
    rintro e w1 ⟨rfl, hb1⟩
    rw [decide_eq_true HPL.out]
    have hc1 := old_cell hb1
    have hf1 := old_frozen hb1
    have hw1 := hb0.trans (hb1.mono hb0.size)
    go_wp2_with fail
    refine (cells_any r _ (S.below hw1)).mono ?_
    rintro e w2 ⟨g, capl, rfl, hrl, hb2⟩
    have hrw2 := hw1.trans (hb2.mono hw1.size)
    have hc2 := old_cell (hb1.trans (hb2.mono hb1.size))
    have hf2 := old_frozen (hb1.trans (hb2.mono hb1.size))
    have HRL := Lib.hid hrl
    have hzz : w.heap.size + 1 < w2.heap.size := by have := (hb1.trans (hb2.mono hb1.size)).size; simp at this; omega
    have HW2 := Lib.hid hrw2
    have HX := Lib.hid (put_fits (r := r) (X := X) (W := W) HS.out hX)
    by_cases hfit : X + (cl r).length ≤ W
    · have d1 : decide ((W : Int) < (X : Int) + ((cl r).length : Int)) = false := by rw [decide_eq_false_iff_not]; omega
      have HP := Lib.hid (show putB W H L X Y r = true by
        unfold putB; rw [decide_eq_true HPL.out, HS.out, HX.out.1 (by omega)]; rfl)
      have hfr : Y * W + X + (cl r).length ≤ L.length := by omega
      have HLY := Lib.hid (show ∀ wz, Below w.heap.size w wz → Rw wz (.slice (some ⟨g, 0, none⟩) (cl r).length capl) 2 (cl r).length (flat (cl r)) → Calls Tryd.prog 29 #[.agg #[.int .i64 W, .int .i64 H, .slice A L.length cap], .int .i64 ((Y : Int) * (W : Int) + (X : Int)), .slice (some ⟨g, 0, none⟩) (cl r).length capl] wz fun e w' => (∃ v', e = .returned (.agg #[.int .i64 W, .int .i64 H, v']) ∧ Own wz.heap.size w' v' (putL W L X Y r)) ∧ Below wz.heap.size wz w' from fun wz hb hr => by
        have e : (Y : Int) * (W : Int) + (X : Int) = ((Y * W + X : Nat) : Int) := by simp
        have em : (Y * W + X) % W = X := by rw [Nat.add_comm, Nat.add_mul_mod_self_right, Nat.mod_eq_of_lt hX]
        have el : putL W L X Y r = lay L (Y * W + X) (cl r) := by
          rw [lay_mend HR.out hfr (cl_self HS.out (by rw [em]; omega) (by omega))]; rfl
        rw [e, el]
        exact glay_any W H _ _ L (Y * W + X) (cl r) wz (hv.below hb) hr HR.out hfr (T.below hb))
      clear hfr hrl hrw2 hb1 hb2 hc1 hf1 hw1 hfit
      go_wp2_with fail
      refine (HLY.out _ HW2.out HRL.out).mono ?_
      rintro e w3 ⟨⟨v3, rfl, hown⟩, hb3⟩
      obtain ⟨g3, cap3, rfl, hcap3, hrow⟩ := hown
      have HO := Lib.hid (Own.sh rfl hcap3 hrow)
      have hc3 := old_cell hb3
      have hf3 := old_frozen hb3
      have hz3 := hb3.size
      have hz2 := HW2.out.size
      generalize hN : (putL W L X Y r).length = N
      clear hrow
      go_wp2
      refine bodyPost_ret (v := .tuple #[.agg #[.int .i64 W, .int .i64 H, .slice (some ⟨g3, 0, none⟩) N cap3], .int .i64 0]) (by simp [results, Tryd.results13, go_sem, hc3, hc2, hzz]) rfl ⟨Out.yes HP.out ⟨_, rfl, ?_⟩, ?_⟩
      · rw [← hN]
        exact (((HO.out.set1 _ _ _ (by omega)).set1 _ _ _ (by omega)).set1 _ _ _ (by omega)).mono (by omega)
      · exact ((((HW2.out.trans (hb3.mono HW2.out.size)).setCell (by simp) _).setCell (by simp) _).setCell (by simp) _)
    · have d1 : decide ((W : Int) < (X : Int) + ((cl r).length : Int)) = true := by rw [decide_eq_true_iff]; omega
      have HP := Lib.hid (show putB W H L X Y r = false by
        unfold putB; rw [decide_eq_true HPL.out, HS.out]
        cases h : (wid r && decide ((X : Int) = (W : Int) - 1))
        · exact absurd (HX.out.2 h) (by omega)
        · rfl)
      clear hrl hrw2 hb1 hb2 hc1 hf1 hw1 hfit
      go_wp2
      refine bodyPost_ret (v := .tuple #[.agg #[.int .i64 0, .int .i64 0, .slice none 0 0], .int .i64 1]) (by simp [results, Tryd.results13, go_sem, hc2]) rfl ⟨Out.no HP.out rfl, ?_⟩
      exact (((HW2.out.setCell (by simp) _).setCell (by simp) _).setCell (by simp) _)
  · have HPL := Lib.hid hp
    have HS := Lib.hid hs
    have HP := Lib.hid (show putB gw gh L x y r = false by unfold putB; rw [decide_eq_false hp]; rfl)
    clear hp hs
    go_enter Tryd.func13, Tryd.ntmps13
    go_wp2_with fail
    refine (shown_any _ _).mono ?_
    rintro e w1 ⟨rfl, rfl⟩
    rw [HS.out]
    go_wp2_with fail
    refine (gplace_any _ _ _ _ _ L _ (hv.below hb0) hm (S.below hb0)).mono ?_
    rintro e w1 ⟨rfl, hb1⟩
    rw [decide_eq_false HPL.out]
    have hc1 := old_cell hb1
    have hf1 := old_frozen hb1
    have hw1 := hb0.trans (hb1.mono hb0.size)
    go_wp2
    refine bodyPost_ret (v := .tuple #[.agg #[.int .i64 0, .int .i64 0, .slice none 0 0], .int .i64 1]) (by simp [results, Tryd.results13, go_sem, hc1]) rfl ⟨Out.no HP.out rfl, ?_⟩
    exact (((hw1.setCell (by simp) _).setCell (by simp) _).setCell (by simp) _)
end Go.Proofs.YtkkioajmfkcloaaDoor
