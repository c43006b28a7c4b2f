/- The contracts of the reference's New of a grid, and of own. -/
import Derived.Test.YtakokmacfdfjhaaDoorGdG
set_option linter.unusedVariables false
namespace Go.Proofs.YtakokmacfdfjhaaDoor
open Go.RowKit Gl L Wd Gd
namespace Gd
theorem rep_snoc (k : Nat) : List.replicate k bl ++ [bl] = List.replicate (k + 1) bl := List.replicate_succ'.symm
end Gd
theorem blk3 {w : World} {g : Nat} {x y z : Value} {t : TypeId} (h : w.heap[g]? = some (.cells #[x, y, z] t (0, 0))) : w.cell? ⟨g, 0, none⟩ = some x ∧ w.cell? ⟨g, 1, none⟩ = some y ∧ w.cell? ⟨g, 2, none⟩ = some z ∧ w.frozen? ⟨g, 0, none⟩ = false ∧ w.frozen? ⟨g, 1, none⟩ = false ∧ w.frozen? ⟨g, 2, none⟩ = false ∧ g < w.heap.size :=
  ⟨cell_of_row w g 0 _ t (0, 0) h, cell_of_row w g 1 _ t (0, 0) h, cell_of_row w g 2 _ t (0, 0) h, frozen_of_row w g 0 _ t h, frozen_of_row w g 1 _ t h, frozen_of_row w g 2 _ t h, (Array.getElem?_eq_some_iff.1 h).1⟩
theorem blk3_set {w : World} {g : Nat} {x y z u : Value} {t : TypeId} (h : w.heap[g]? = some (.cells #[x, y, z] t (0, 0))) : (w.setCell ⟨g, 2, none⟩ u).heap[g]? = some (.cells #[x, y, u] t (0, 0)) := by
  rw [heap_setCell_same w g 2 _ t u h]; rfl
set_option maxHeartbeats 2000000 in
theorem rnew_any (gw gh : Int) (w : World) :
    Calls Tryd.prog 12 #[.int .i64 gw, .int .i64 gh] w fun e w' => Out (sidesB gw gh) 4 w.heap.size w' e gw gh (newL gw gh) ∧ Below w.heap.size w w' := by
  have hb0 : Below w.heap.size w (w.alloc (.cells #[.int .i64 0, .int .i64 0, .slice none 0 0] 24)) := (Below.refl _ _).alloc (Nat.le_refl _) _
  cases hs : sidesB gw gh
  · have HS := Lib.hid hs
    clear hs
    go_enter Tryd.func12, Tryd.ntmps12
    go_wp2_with fail
    refine (rsides_any _ _ _).mono ?_
    rintro e w1 ⟨rfl, rfl⟩
    rw [HS.out]
    go_wp2
    refine bodyPost_ret (v := .tuple #[.agg #[.int .i64 0, .int .i64 0, .slice none 0 0], .int .i64 4]) (by simp [results, Tryd.results12, go_sem]) rfl ⟨?_, ?_⟩
    · exact Out.no rfl rfl
    · exact hb0
  · obtain ⟨W, H, rfl, rfl, g2, g80, g1, g24⟩ := sides_of hs
    have HS := Lib.hid hs
    clear hs
    have hWH : W * H ≤ 1920 := Nat.mul_le_mul g80 g24
    obtain ⟨i0, hi, hz0, hz1, hz2⟩ := info_parts Tryd.info30
    go_enter Tryd.func12, Tryd.ntmps12
    go_wp2_with fail
    refine (rsides_any _ _ _).mono ?_
    rintro e w1 ⟨rfl, rfl⟩
    rw [HS.out]
    go_wp2_with fail
    go_loopw [7] (fun i wr => ∃ k : Nat, k ≤ W * H ∧ i = .int .i64 k ∧ ∃ v, wr.heap[w.heap.size + 1]? = some (.cells #[.int .i64 W, .int .i64 H, v] 24 (0, 0)) ∧ wr.ownsRow (w.heap.size + 1 + 1) 30 2 v k (flat (List.replicate k bl)) ∧ Below (w.heap.size + 1) (w.alloc (.cells #[.int .i64 0, .int .i64 0, .slice none 0 0] 24)) wr) (fun i _ => W * H - (intOf i).toNat)
    case atStart => exact ⟨0, Nat.zero_le _, rfl, _, by simpa using heap_alloc_new (w.alloc (.cells #[.int .i64 0, .int .i64 0, .slice none 0 0] 24)) (.cells #[.int .i64 W, .int .i64 H, .slice none 0 0] 24), World.ownsRow_nil _ _ _ _, (Below.refl _ _).alloc (by simp) _⟩
    case round =>
      obtain ⟨k, hk, rfl, v, hg, hown, hw⟩ := hrel
      obtain ⟨b1, b2, b3, f1, f2, f3, hsz⟩ := blk3 hg
      have hww : Below w.heap.size w wr := hb0.trans (hw.mono (by omega))
      by_cases hlt : k < W * H
      · have d1 : decide ((k : Int) < (W : Int) * (H : Int)) = true := by rw [decide_eq_true_iff, ← Int.natCast_mul]; omega
        have hown1 := hown.alloc (.cells #[.int .i32 32, .int .i64 0] 30)
        have hRw := fun n cap h => Rw.lit wr #[.int .i32 32, .int .i64 0] 30 2 n cap h
        go_wp2_with (at_builtin; refine wpList_append_rw rfl (.tmp 24) (.tmp 26) 22 rfl (w.heap.size + 1 + 1) 30 i0 _ 2 16 Tryd.underlying22 hi hz0 hz1 hz2 rfl (by decide) _ _ _ rfl hown1 _ _ _ rfl (hRw 1 1 (by simp)) (flat_one [(32, 0)]) (by unfold maxLen; omega) (by omega) (by simp; omega) ?_)
        intro v' w2 hown' hgr hne'
        have hg2 : w2.heap[w.heap.size + 1]? = some (.cells #[.int .i64 W, .int .i64 H, v] 24 (0, 0)) := by
          rw [hgr.block (w.heap.size + 1) (by simp; omega) (by intro h; have := hown.lt _ h.symm; omega)]
          exact (((Below.refl _ _).alloc (Nat.le_refl _) (.cells #[.int .i32 32, .int .i64 0] 30)).block _ hsz).trans hg
        have hb2 : Below (w.heap.size + 1) (w.alloc (.cells #[.int .i64 0, .int .i64 0, .slice none 0 0] 24)) w2 := Below.of_grown (hw.alloc (by omega) (.cells #[.int .i32 32, .int .i64 0] 30)) hown1 hgr (by simp; omega) (by omega)
        have hn2 : w2.ownsRow (w.heap.size + 1 + 1) 30 2 v' (k + 1) (flat (List.replicate (k + 1) bl)) := by
          rw [← rep_snoc, flat_append]; exact hown'
        obtain ⟨g', cap', rfl, hcap⟩ : ∃ g cap, v' = .slice (some ⟨g, 0, none⟩) (k + 1) cap ∧ k + 1 ≤ cap := (Rw.form hn2).resolve_left (fun h => by omega)
        obtain ⟨b1', b2', b3', f1', f2', f3', hsz'⟩ := blk3 hg2
        have H1 := Lib.hid hg2
        have H2 := Lib.hid hb2
        have H3 := Lib.hid hn2
        clear hg2 hb2 hn2 hown' hgr hne' hown1 hRw hown hg b1 b2 b3 f1 f2 f3
        go_wp2
        go_roundw
        case rel =>
          refine ⟨k + 1, by omega, by go_num, _, blk3_set H1.out, ?_, H2.out.setCell (by simp) _⟩
          exact H3.out.kept (row := some (w.heap.size + 1)) ⟨rfl, rfl, rfl, by simp, fun q _ hk => heap_setCell_other w2 ⟨w.heap.size + 1, 2, none⟩ q _ (fun e => hk (by simp [e]))⟩ (.inr (by have := (H3.out.lt g' rfl).1; simp [Value.ownBlock]; omega))
        case measure => simp [intOf]; omega
      · obtain rfl : k = W * H := by omega
        have d1 : decide (((W * H : Nat) : Int) < (W : Int) * (H : Int)) = false := by rw [decide_eq_false_iff_not, ← Int.natCast_mul]; omega
        have hpos : 0 < W * H := Nat.mul_pos (by omega) (by omega)
        obtain ⟨g', cap', rfl, hcap⟩ : ∃ g cap, v = .slice (some ⟨g, 0, none⟩) (W * H) cap ∧ W * H ≤ cap := (Rw.form hown).resolve_left (fun h => by omega)
        have H3 := Lib.hid hown
        have hc1 := old_cell (hw.mono (by simp))
        have hf1 := old_frozen (hw.mono (by simp))
        clear hown hg
        go_wp2
        refine bodyPost_ret (v := .tuple #[.agg #[.int .i64 W, .int .i64 H, .slice (some ⟨g', 0, none⟩) (W * H) cap'], .int .i64 0]) (by simp [results, Tryd.results12, go_sem, hc1]) rfl ⟨?_, ?_⟩
        · refine Out.yes rfl ⟨_, rfl, ?_⟩
          unfold newL
          rw [Int.toNat_natCast, Int.toNat_natCast]
          exact ((((Own.sh (List.length_replicate ..) hcap H3.out).set1 _ _ _ (by omega)).set1 _ _ _ (by omega)).set1 _ _ _ (by omega)).mono (by omega)
        · exact (((hww.setCell (by simp) _).setCell (by simp) _).setCell (by simp) _)
end Go.Proofs.YtakokmacfdfjhaaDoor
