/- The contract of lay: cells laid over a copy of a right grid's. -/
import Derived.Test.YtkkioajmfkcloaaDoorMGe
set_option linter.unusedVariables false
namespace Go.Proofs.YtkkioajmfkcloaaDoor
open Go.RowKit Gl L Wd Gd
theorem Rw.src {w : World} {b off n cap : Nat} {l : List (Int × Int)} (h : Rw w (.slice (some ⟨b, off, none⟩) n cap) 2 l.length (flat l)) (hl : 0 < l.length) : ∀ j u, (flat l)[j]? = some u → w.cell? ((⟨b, off, none⟩ : Addr).add j) = some u := by
  obtain ⟨_, A', cap', he, h⟩ := h
  injection he with h1 h2 h3
  subst h1 h3
  rcases h with ⟨h, _⟩ | ⟨b', off', he', hc⟩
  · omega
  · cases he'
    intro j u hu
    rw [add_none]; exact hc j u hu
def Laying (B : Nat) (W0 w : World) (g N cap : Nat) (Lx l : List (Int × Int)) (bs offs : Nat) : Prop :=
  w.ownsRow B 48 2 (.slice (some ⟨g, 0, none⟩) N cap) N (flat Lx) ∧ (Below B W0 w ∧ B ≤ w.heap.size) ∧ ∀ j u, (flat l)[j]? = some u → w.cell? ((⟨bs, offs, none⟩ : Addr).add j) = some u
theorem Laying.set {B : Nat} {W0 w : World} {g N cap : Nat} {Lx l : List (Int × Int)} {bs offs : Nat} (h : Laying B W0 w g N cap Lx l bs offs) (hbs : bs < B) (i : Nat) :
    Laying B W0 ((w.setCell ⟨g, i * 2, none⟩ (.int .i32 32)).setCell ⟨g, i * 2 + 1, none⟩ (.int .i64 0)) g N cap (Lx.set i (32, 0)) l bs offs := by
  obtain ⟨h1, ⟨h2, h3⟩, h4⟩ := h
  obtain ⟨s1, s2⟩ := ownsRow_set2 h1 (i * 2) (.int .i32 32) (.int .i64 0)
  refine ⟨by rw [flat_set]; exact s1, ⟨below_own h2 s2 h1 (Nat.le_refl _) h3, Nat.le_trans h3 s2.size⟩, fun j u hu => ?_⟩
  rw [add_none, cell_own s2 h1 bs (offs + j) hbs (by omega), ← add_none]
  exact h4 j u hu
set_option maxHeartbeats 4000000 in
theorem glay_any (W H : Nat) (v vl : Value) (L : List (Int × Int)) (fr : Nat) (l : List (Int × Int)) (w : World) (hv : Rw w v 2 L.length (flat L)) (hl : Rw w vl 2 l.length (flat l)) (hR : R W H L) (hf : fr + l.length ≤ L.length) (T : Blk w 0) :
    Calls Tryd.prog 29 #[.agg #[.int .i64 W, .int .i64 H, v], .int .i64 fr, vl] w fun e w' => (∃ v', e = .returned (.agg #[.int .i64 W, .int .i64 H, v']) ∧ Own w.heap.size w' v' (lay L fr l)) ∧ Below w.heap.size w w' := by
  have hm : L.length ≤ 1920 := by rw [hR.len]; exact Nat.mul_le_mul hR.w80 hR.h24
  have h0 : 0 < L.length := by rw [hR.len]; exact Nat.mul_pos (by have := hR.w2; omega) (by have := hR.h1; omega)
  have hb0 : Below w.heap.size w ((w.alloc (.cells #[.int .i64 W, .int .i64 H, v] 24)).alloc (.cells #[.int .i64 0, .int .i64 0, .slice none 0 0] 24)) := ((Below.refl _ _).alloc (Nat.le_refl _) _).alloc (by simp) _
  obtain ⟨A, cap, rfl⟩ : ∃ A cap, v = .slice A L.length cap := ⟨_, _, hv.2.choose_spec.choose_spec.1⟩
  obtain ⟨Al, capl, rfl⟩ : ∃ A cap, vl = .slice A l.length cap := ⟨_, _, hl.2.choose_spec.choose_spec.1⟩
  have HR := Lib.hid hR
  clear hR
  obtain ⟨i0, hi, hz0, hz1, hz2⟩ := info_parts Tryd.info48
  obtain ⟨W0, hW0⟩ : ∃ W0, W0 = ((w.alloc (.cells #[.int .i64 W, .int .i64 H, .slice A L.length cap] 24)).alloc (.cells #[.int .i64 0, .int .i64 0, .slice none 0 0] 24)) := ⟨_, rfl⟩
  obtain ⟨wm, hmk, hown0, hgr0⟩ := run_make_full (P := Tryd.prog) W0 W0.heap.size 22 48 i0 _ 2 Tryd.underlying22 hi hz0 hz1 .i64 .i64 L.length (by rw [hz2]; omega) (by unfold maxLen; omega) (Nat.le_refl _)
  subst hW0
  have e0 : (madeCells (Value.agg #[.int .i32 0, .int .i64 0]).cells (L.length * 2)).toList = flat (List.replicate L.length (0, 0)) := by rw [flat_rep]; rfl
  rw [e0] at hown0
  have eS : ((w.alloc (.cells #[.int .i64 W, .int .i64 H, .slice A L.length cap] 24)).alloc (.cells #[.int .i64 0, .int .i64 0, .slice none 0 0] 24)).heap.size = w.heap.size + 1 + 1 := by simp
  have hbm : Below (w.heap.size + 1 + 1) ((w.alloc (.cells #[.int .i64 W, .int .i64 H, .slice A L.length cap] 24)).alloc (.cells #[.int .i64 0, .int .i64 0, .slice none 0 0] 24)) wm := (Below.refl _ _).grown hgr0 (by simp) (by simp)
  rw [eS] at hown0
  have hb1 := hb0.trans (hbm.mono (by omega))
  obtain ⟨b, off, rfl, _, hc0⟩ := Rw.cell2 hv h0
  have hbw : b < w.heap.size := World.block_lt_of_cell? w _ (hc0 0 h0).1
  clear hc0
  have HM := Lib.hid (Rw.src (hv.below hb1) h0)
  have hc1 := old_cell (hbm.mono (by simp))
  have hf1 := old_frozen (hbm.mono (by simp))
  clear e0 hgr0 eS
  go_enter Tryd.func29, Tryd.ntmps29
  go_wp2_with (with_reducible refine wpList_copy_rw rfl (.tmp 13) (.tmp 15) 22 22 rfl 48 2 Tryd.underlying22 Tryd.size30 _ _ _ _ _ _ rfl rfl (w.heap.size + 1 + 1) (w.heap.size + 1 + 1) L.length L.length _ hown0 0 L.length (flat L) (Nat.min_self _) (flat_len L) (fun _ => ⟨rfl, _, rfl, HM.out⟩) (by omega) (flat_one L) ?_)
  intro w2 hown2 hgr2
  have e2 : splice (flat (List.replicate L.length ((0 : Int), (0 : Int)))) 0 (flat L) = flat L := by
    unfold splice
    rw [List.take_zero, List.nil_append, List.drop_of_length_le (by rw [flat_len, flat_len]; simp), List.append_nil]
  rw [e2] at hown2
  have hw2 := below_own hbm hgr2 hown0 (Nat.le_refl _) (by have := hbm.size; simpa using this)
  have hww := hb0.trans (hw2.mono (by omega))
  have hv2 := hv.below hww
  have hl2 := hl.below hww
  have hT := T.below hww
  have hbg : b ≠ w.heap.size + 1 + 1 := by omega
  have hwz := hw2.size
  have hc1 := old_cell (hw2.mono (by simp))
  have hf1 := old_frozen (hw2.mono (by simp))
  have HW := Lib.hid hww
  have HW2 := Lib.hid hw2
  have HO := Lib.hid hown2
  clear hown0 hmk hbm hb1 hgr2 e2 hww hw2
  by_cases hz : l.length = 0
  · have HL := Lib.hid (show lay L fr l = L from if_pos hz)
    have HZ := Lib.hid hz
    have d1 : decide ((fr : Int) < (fr : Int) + (l.length : Int)) = false := by rw [decide_eq_false_iff_not]; omega
    clear hown2
    go_wp2
    refine bodyPost_ret (v := .agg #[.int .i64 W, .int .i64 H, .slice (some ⟨w.heap.size + 1 + 1, 0, none⟩) L.length L.length]) (by simp [results, Tryd.results29, go_sem, hc1]) rfl ⟨⟨_, rfl, ?_⟩, ?_⟩
    · rw [HL.out]
      exact ((((Own.sh rfl (Nat.le_refl _) HO.out).set1 _ _ _ (by simp)).set1 _ _ _ (by simp)).set1 _ _ _ (by simp)).mono (by omega)
    · exact (((HW.out.setCell (by simp) _).setCell (by simp) _).setCell (by simp) _)
  have hz1 : 0 < l.length := by omega
  have d1 : decide ((fr : Int) < (fr : Int) + (l.length : Int)) = true := by rw [decide_eq_true_iff]; omega
  obtain ⟨bs, offs, rfl, _, hcs⟩ := Rw.cell2 hl hz1
  have hbs : bs < w.heap.size := World.block_lt_of_cell? w _ (hcs 0 hz1).1
  clear hcs
  have HL2 := Lib.hid (Rw.src hl2 hz1)
  obtain ⟨_, k1⟩ := Rw.at2 hv2 fr (by omega)
  obtain ⟨_, k2⟩ := Rw.at2 hv2 (fr + l.length - 1) (by omega)
  generalize hx1 : (L.getD fr (0, 0)).2 = x1 at k1
  generalize hx2 : (L.getD (fr + l.length - 1) (0, 0)).2 = x2 at k2
  have HX1 := Lib.hid hx1
  have HX2 := Lib.hid hx2
  have hZ := Lib.hid hz
  obtain ⟨t1, t2⟩ := T
  have hw0 : 0 < w.heap.size := World.block_lt_of_cell? w _ t1
  have hwz2 : w.heap.size + 1 + 1 ≤ w2.heap.size := by have := HW2.out.size; simp at this; omega
  clear hx1 hx2 hl2 hv2 hl hz
  have hb0W := hb0
  by_cases ha : x1 = 2
  · subst ha
    by_cases hb : x2 = 1
    · subst hb
      obtain ⟨_, _, ha0⟩ := HR.out.l2 (show fr < L.length by omega) HX1.out
      obtain ⟨_, _, hb3⟩ := HR.out.l1 (show fr + l.length - 1 < L.length by omega) HX2.out
      have hb0 : fr + l.length < L.length := by omega
      have Q0 : Laying (w.heap.size + 1 + 1) _ w2 (w.heap.size + 1 + 1) L.length L.length L l bs offs := ⟨hown2, ⟨HW2.out, hwz2⟩, HL2.out⟩
      obtain ⟨x3, y3, _, p0, p0', q0, q0'⟩ := own_cells Q0.1 (fr - 1) (by omega)
      have Q1 := Q0.set (by omega) (fr - 1)
      obtain ⟨x4, y4, _, p1, p1', q1, q1'⟩ := own_cells Q1.1 (fr + l.length) (by omega)
      have Q2 := Q1.set (by omega) (fr + l.length)
      have HQ0 := Lib.hid Q0
      have HO0 := Lib.hid Q0.1
      have HS0 := Lib.hid Q0.2.2
      have HQ1 := Lib.hid Q1
      have HO1 := Lib.hid Q1.1
      have HS1 := Lib.hid Q1.2.2
      have HQ2 := Lib.hid Q2
      have HO2 := Lib.hid Q2.1
      have HS2 := Lib.hid Q2.2.2
      have HLAY := Lib.hid (show lay L fr l = splice ((L.set (fr - 1) (32, 0)).set (fr + l.length) (32, 0)) fr l by
        unfold lay; rw [if_neg hZ.out]; simp only; rw [HX1.out, HX2.out, if_pos rfl, if_pos rfl] <;> rfl)
      clear hown2 Q0 Q1 Q2 
      go_wp2_with (with_reducible refine wpList_copy_rw rfl (.tmp 51) (.tmp 52) 22 22 rfl 48 2 Tryd.underlying22 Tryd.size30 _ _ _ _ _ _ rfl rfl (w.heap.size + 1 + 1) (w.heap.size + 1 + 1) L.length L.length _ HO2.out (fr * 2) l.length (flat l) (by show min _ _ = _; omega) (flat_len l) (fun _ => ⟨rfl, _, rfl, HS2.out⟩) (by omega) (flat_one l) ?_)
      intro w5 hown5 hgr5
      rw [flat_splice] at hown5
      have hB5 := below_own HQ2.out.2.1.1 hgr5 HQ2.out.1 (Nat.le_refl _) HQ2.out.2.1.2
      have hc5 := old_cell (hB5.mono (by simp))
      have hf5 := old_frozen (hB5.mono (by simp))
      have hz5 := hB5.size
      have HB5 := Lib.hid hB5
      have HO5 := Lib.hid hown5
      clear hown5 hgr5 hB5 hc1 hf1
      go_wp2
      refine bodyPost_ret (v := .agg #[.int .i64 W, .int .i64 H, .slice (some ⟨w.heap.size + 1 + 1, 0, none⟩) L.length L.length]) (by simp [results, Tryd.results29, go_sem, hc5]) rfl ⟨⟨_, rfl, ?_⟩, ?_⟩
      · rw [HLAY.out]
        exact ((((Own.sh (by rw [length_splice _ _ _ (by first | omega | (simp; omega))] <;> (try simp)) (Nat.le_refl _) HO5.out).set1 _ _ _ (by simp)).set1 _ _ _ (by simp)).set1 _ _ _ (by simp)).mono (by omega)
      · exact (((hb0W.trans (HB5.out.mono (by omega))).setCell (by simp) _).setCell (by simp) _).setCell (by simp) _
    ·
      obtain ⟨_, _, ha0⟩ := HR.out.l2 (show fr < L.length by omega) HX1.out
      have b2 : (x2 == 1) = false := by simpa using hb
      have Q0 : Laying (w.heap.size + 1 + 1) _ w2 (w.heap.size + 1 + 1) L.length L.length L l bs offs := ⟨hown2, ⟨HW2.out, hwz2⟩, HL2.out⟩
      obtain ⟨x3, y3, _, p0, p0', q0, q0'⟩ := own_cells Q0.1 (fr - 1) (by omega)
      have Q1 := Q0.set (by omega) (fr - 1)
      have HQ0 := Lib.hid Q0
      have HO0 := Lib.hid Q0.1
      have HS0 := Lib.hid Q0.2.2
      have HQ1 := Lib.hid Q1
      have HO1 := Lib.hid Q1.1
      have HS1 := Lib.hid Q1.2.2
      have HLAY := Lib.hid (show lay L fr l = splice (L.set (fr - 1) (32, 0)) fr l by
        unfold lay; rw [if_neg hZ.out]; simp only; rw [HX1.out, HX2.out, if_pos rfl, if_neg hb] <;> rfl)
      clear hown2 Q0 Q1 hb
      go_wp2_with (with_reducible refine wpList_copy_rw rfl (.tmp 51) (.tmp 52) 22 22 rfl 48 2 Tryd.underlying22 Tryd.size30 _ _ _ _ _ _ rfl rfl (w.heap.size + 1 + 1) (w.heap.size + 1 + 1) L.length L.length _ HO1.out (fr * 2) l.length (flat l) (by show min _ _ = _; omega) (flat_len l) (fun _ => ⟨rfl, _, rfl, HS1.out⟩) (by omega) (flat_one l) ?_)
      intro w5 hown5 hgr5
      rw [flat_splice] at hown5
      have hB5 := below_own HQ1.out.2.1.1 hgr5 HQ1.out.1 (Nat.le_refl _) HQ1.out.2.1.2
      have hc5 := old_cell (hB5.mono (by simp))
      have hf5 := old_frozen (hB5.mono (by simp))
      have hz5 := hB5.size
      have HB5 := Lib.hid hB5
      have HO5 := Lib.hid hown5
      clear hown5 hgr5 hB5 hc1 hf1
      go_wp2
      refine bodyPost_ret (v := .agg #[.int .i64 W, .int .i64 H, .slice (some ⟨w.heap.size + 1 + 1, 0, none⟩) L.length L.length]) (by simp [results, Tryd.results29, go_sem, hc5]) rfl ⟨⟨_, rfl, ?_⟩, ?_⟩
      · rw [HLAY.out]
        exact ((((Own.sh (by rw [length_splice _ _ _ (by first | omega | (simp; omega))] <;> (try simp)) (Nat.le_refl _) HO5.out).set1 _ _ _ (by simp)).set1 _ _ _ (by simp)).set1 _ _ _ (by simp)).mono (by omega)
      · exact (((hb0W.trans (HB5.out.mono (by omega))).setCell (by simp) _).setCell (by simp) _).setCell (by simp) _
  · by_cases hb : x2 = 1
    · subst hb
      have b1 : (x1 == 2) = false := by simpa using ha
      obtain ⟨_, _, hb3⟩ := HR.out.l1 (show fr + l.length - 1 < L.length by omega) HX2.out
      have hb0 : fr + l.length < L.length := by omega
      have Q0 : Laying (w.heap.size + 1 + 1) _ w2 (w.heap.size + 1 + 1) L.length L.length L l bs offs := ⟨hown2, ⟨HW2.out, hwz2⟩, HL2.out⟩
      obtain ⟨x3, y3, _, p0, p0', q0, q0'⟩ := own_cells Q0.1 (fr + l.length) (by omega)
      have Q1 := Q0.set (by omega) (fr + l.length)
      have HQ0 := Lib.hid Q0
      have HO0 := Lib.hid Q0.1
      have HS0 := Lib.hid Q0.2.2
      have HQ1 := Lib.hid Q1
      have HO1 := Lib.hid Q1.1
      have HS1 := Lib.hid Q1.2.2
      have HLAY := Lib.hid (show lay L fr l = splice (L.set (fr + l.length) (32, 0)) fr l by
        unfold lay; rw [if_neg hZ.out]; simp only; rw [HX1.out, HX2.out, if_neg ha, if_pos rfl] <;> rfl)
      clear hown2 Q0 Q1 ha
      go_wp2_with (with_reducible refine wpList_copy_rw rfl (.tmp 51) (.tmp 52) 22 22 rfl 48 2 Tryd.underlying22 Tryd.size30 _ _ _ _ _ _ rfl rfl (w.heap.size + 1 + 1) (w.heap.size + 1 + 1) L.length L.length _ HO1.out (fr * 2) l.length (flat l) (by show min _ _ = _; omega) (flat_len l) (fun _ => ⟨rfl, _, rfl, HS1.out⟩) (by omega) (flat_one l) ?_)
      intro w5 hown5 hgr5
      rw [flat_splice] at hown5
      have hB5 := below_own HQ1.out.2.1.1 hgr5 HQ1.out.1 (Nat.le_refl _) HQ1.out.2.1.2
      have hc5 := old_cell (hB5.mono (by simp))
      have hf5 := old_frozen (hB5.mono (by simp))
      have hz5 := hB5.size
      have HB5 := Lib.hid hB5
      have HO5 := Lib.hid hown5
      clear hown5 hgr5 hB5 hc1 hf1
      go_wp2
      refine bodyPost_ret (v := .agg #[.int .i64 W, .int .i64 H, .slice (some ⟨w.heap.size + 1 + 1, 0, none⟩) L.length L.length]) (by simp [results, Tryd.results29, go_sem, hc5]) rfl ⟨⟨_, rfl, ?_⟩, ?_⟩
      · rw [HLAY.out]
        exact ((((Own.sh (by rw [length_splice _ _ _ (by first | omega | (simp; omega))] <;> (try simp)) (Nat.le_refl _) HO5.out).set1 _ _ _ (by simp)).set1 _ _ _ (by simp)).set1 _ _ _ (by simp)).mono (by omega)
      · exact (((hb0W.trans (HB5.out.mono (by omega))).setCell (by simp) _).setCell (by simp) _).setCell (by simp) _
    ·
      have b1 : (x1 == 2) = false := by simpa using ha
      have b2 : (x2 == 1) = false := by simpa using hb
      have Q0 : Laying (w.heap.size + 1 + 1) _ w2 (w.heap.size + 1 + 1) L.length L.length L l bs offs := ⟨hown2, ⟨HW2.out, hwz2⟩, HL2.out⟩
      have HQ0 := Lib.hid Q0
      have HO0 := Lib.hid Q0.1
      have HS0 := Lib.hid Q0.2.2
      have HLAY := Lib.hid (show lay L fr l = splice L fr l by
        unfold lay; rw [if_neg hZ.out]; simp only; rw [HX1.out, HX2.out, if_neg ha, if_neg hb] <;> rfl)
      clear hown2 Q0  ha hb
      go_wp2_with (with_reducible refine wpList_copy_rw rfl (.tmp 51) (.tmp 52) 22 22 rfl 48 2 Tryd.underlying22 Tryd.size30 _ _ _ _ _ _ rfl rfl (w.heap.size + 1 + 1) (w.heap.size + 1 + 1) L.length L.length _ HO0.out (fr * 2) l.length (flat l) (by show min _ _ = _; omega) (flat_len l) (fun _ => ⟨rfl, _, rfl, HS0.out⟩) (by omega) (flat_one l) ?_)
      intro w5 hown5 hgr5
      rw [flat_splice] at hown5
      have hB5 := below_own HQ0.out.2.1.1 hgr5 HQ0.out.1 (Nat.le_refl _) HQ0.out.2.1.2
      have hc5 := old_cell (hB5.mono (by simp))
      have hf5 := old_frozen (hB5.mono (by simp))
      have hz5 := hB5.size
      have HB5 := Lib.hid hB5
      have HO5 := Lib.hid hown5
      clear hown5 hgr5 hB5 hc1 hf1
      go_wp2
      refine bodyPost_ret (v := .agg #[.int .i64 W, .int .i64 H, .slice (some ⟨w.heap.size + 1 + 1, 0, none⟩) L.length L.length]) (by simp [results, Tryd.results29, go_sem, hc5]) rfl ⟨⟨_, rfl, ?_⟩, ?_⟩
      · rw [HLAY.out]
        exact ((((Own.sh (by rw [length_splice _ _ _ (by first | omega | (simp; omega))] <;> (try simp)) (Nat.le_refl _) HO5.out).set1 _ _ _ (by simp)).set1 _ _ _ (by simp)).set1 _ _ _ (by simp)).mono (by omega)
      · exact (((hb0W.trans (HB5.out.mono (by omega))).setCell (by simp) _).setCell (by simp) _).setCell (by simp) _
end Go.Proofs.YtkkioajmfkcloaaDoor
