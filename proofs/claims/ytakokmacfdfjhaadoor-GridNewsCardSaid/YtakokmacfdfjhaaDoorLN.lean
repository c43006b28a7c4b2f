/- The walk of GridNews: it returns true, and turns nothing that was there. -/
import Derived.Test.YtakokmacfdfjhaaDoorGdZ
import Derived.Deep.RegionHeld3
set_option linter.unusedVariables false
namespace Go.Proofs.YtakokmacfdfjhaaDoor
open Go.RowKit Gl L Wd Gd
theorem cell_keep {w1 w2 : World} (hb : Below w1.heap.size w1 w2) {n o : Nat} {x : Value} (h : w1.cell? ⟨n, o, none⟩ = some x) : w2.cell? ⟨n, o, none⟩ = some x := by
  rw [old_cell hb _ _ (World.block_lt_of_cell? w1 _ h)]; exact h
/-- What a region holds of the grids: their rows, and what was there. -/
def Held (w w' : World) (v va vb : Value) (l la : List (Int × Int)) : Prop := Below w.heap.size w w' ∧ Rw w' v 2 l.length (flat l) ∧ Rw w' va 2 la.length (flat la) ∧ Rw w' vb 2 la.length (flat la)
theorem Held.keep {w w1 w2 : World} {v va vb : Value} {l la : List (Int × Int)} (hb : Below w1.heap.size w1 w2) (h : Held w w1 v va vb l la) : Held w w2 v va vb l la :=
  ⟨h.1.trans (hb.mono h.1.size), h.2.1.below hb, h.2.2.1.below hb, h.2.2.2.below hb⟩
theorem keepN {w w1 w2 : World} {v va vb : Value} {l la : List (Int × Int)} {n0 na nb nc nd : Nat} {x0 x1 x2 a0 a1 a2 b0 b1 b2 c0 c1 d0 d1 : Value} (hb : Below w1.heap.size w1 w2)
    (h : w1.cell? ⟨n0, 0, none⟩ = some x0 ∧ w1.cell? ⟨n0, 1, none⟩ = some x1 ∧ w1.cell? ⟨n0, 2, none⟩ = some x2 ∧ w1.cell? ⟨na, 0, none⟩ = some a0 ∧ w1.cell? ⟨na, 1, none⟩ = some a1 ∧ w1.cell? ⟨na, 2, none⟩ = some a2 ∧ w1.cell? ⟨nb, 0, none⟩ = some b0 ∧ w1.cell? ⟨nb, 1, none⟩ = some b1 ∧ w1.cell? ⟨nb, 2, none⟩ = some b2 ∧ w1.cell? ⟨nc, 0, none⟩ = some c0 ∧ w1.cell? ⟨nc, 1, none⟩ = some c1 ∧ w1.cell? ⟨nd, 0, none⟩ = some d0 ∧ w1.cell? ⟨nd, 1, none⟩ = some d1 ∧ Held w w1 v va vb l la) :
    w2.cell? ⟨n0, 0, none⟩ = some x0 ∧ w2.cell? ⟨n0, 1, none⟩ = some x1 ∧ w2.cell? ⟨n0, 2, none⟩ = some x2 ∧ w2.cell? ⟨na, 0, none⟩ = some a0 ∧ w2.cell? ⟨na, 1, none⟩ = some a1 ∧ w2.cell? ⟨na, 2, none⟩ = some a2 ∧ w2.cell? ⟨nb, 0, none⟩ = some b0 ∧ w2.cell? ⟨nb, 1, none⟩ = some b1 ∧ w2.cell? ⟨nb, 2, none⟩ = some b2 ∧ w2.cell? ⟨nc, 0, none⟩ = some c0 ∧ w2.cell? ⟨nc, 1, none⟩ = some c1 ∧ w2.cell? ⟨nd, 0, none⟩ = some d0 ∧ w2.cell? ⟨nd, 1, none⟩ = some d1 ∧ Held w w2 v va vb l la := by
  obtain ⟨h1, h2, h3, h4, h5, h6, h7, h8, h9, h10, h11, h12, h13, h14⟩ := h
  exact ⟨cell_keep hb h1, cell_keep hb h2, cell_keep hb h3, cell_keep hb h4, cell_keep hb h5, cell_keep hb h6, cell_keep hb h7, cell_keep hb h8, cell_keep hb h9, cell_keep hb h10, cell_keep hb h11, cell_keep hb h12, cell_keep hb h13, h14.keep hb⟩
set_option maxRecDepth 100000 in
set_option maxHeartbeats 4000000 in
theorem news_law (fw fh gw gh : Int) (v : Value) (L : List (Int × Int)) (w : World) (hv : Rw w v 2 L.length (flat L)) (hm : L.length ≤ maxLen) (hcp : Capped v) (S : Spans w 1) (T : Blk w 0) :
    Calls Tryd.prog 3 #[.int .i64 fw, .int .i64 fh, .agg #[.int .i64 gw, .int .i64 gh, v]] w fun e w' => e = .returned (.bool true) ∧ Below w.heap.size w w' := by
  obtain ⟨A, cap, rfl⟩ : ∃ A cap, v = .slice A L.length cap := ⟨_, _, hv.2.choose_spec.choose_spec.1⟩
  have HW := Lib.hid ((Below.refl w.heap.size w).alloc (Nat.le_refl _) (.cells #[.int .i64 gw, .int .i64 gh, .slice A L.length cap] 24))
  have Rv := Lib.hid (hv.alloc (.cells #[.int .i64 gw, .int .i64 gh, .slice A L.length cap] 24))
  have G0 := Lib.hid (heap_alloc_new w (.cells #[.int .i64 gw, .int .i64 gh, .slice A L.length cap] 24))
  by_cases hbig : 3000 < L.length
  · go_enter Tryd.func3, Tryd.ntmps3
    go_wp2_with fail
    refine (big_any gw gh _ L _ Rv.out).mono ?_
    rintro e w1 ⟨rfl, hb1⟩
    rw [decide_eq_true hbig]
    go_wp2
    go_ret
    exact ⟨rfl, HW.out.trans (hb1.mono HW.out.size)⟩
  cases hc : sidesB fw fh
  ·
    have HC := Lib.hid hc
    clear hc
    go_enter Tryd.func3, Tryd.ntmps3
    go_wp2_with fail
    refine (big_any gw gh _ L _ Rv.out).mono ?_
    rintro e w1 ⟨rfl, hb1⟩
    rw [decide_eq_false hbig]
    have Rv := Lib.hid (Rv.out.below hb1)
    have G0 := Lib.hid (carry hb1 G0.out)
    have HW := Lib.hid (HW.out.trans (hb1.mono HW.out.size))
    clear hb1
    obtain ⟨G0a, G0b, G0c, G0d, G0e, G0f, G0l⟩ := blk3 G0.out
    go_wp2_with fail
    clear G0a G0b G0c G0d G0e G0f G0l
    refine (new_any fw fh _ (T.below HW.out)).mono ?_
    rintro e w2 ⟨h2, hb2⟩
    obtain rfl := h2.isnt HC.out
    have Rv := Lib.hid (Rv.out.below hb2)
    have G0 := Lib.hid (carry hb2 G0.out)
    have HW := Lib.hid (HW.out.trans (hb2.mono HW.out.size))
    clear hb2
    have Rv := Lib.hid (Rv.out.alloc (.cells #[.int .i64 0, .int .i64 0, .slice none 0 0] 24))
    have G0 := Lib.hid (carryA (.cells #[.int .i64 0, .int .i64 0, .slice none 0 0] 24) G0.out)
    have HW := Lib.hid (HW.out.alloc HW.out.size (.cells #[.int .i64 0, .int .i64 0, .slice none 0 0] 24))
    have Ga := Lib.hid (heap_alloc_new w2 (.cells #[.int .i64 0, .int .i64 0, .slice none 0 0] 24))
    go_wp2_with fail
    refine (rnew_any fw fh _).mono ?_
    rintro e w3 ⟨h3, hb3⟩
    obtain rfl := h3.isnt HC.out
    have Rv := Lib.hid (Rv.out.below hb3)
    have G0 := Lib.hid (carry hb3 G0.out)
    have Ga := Lib.hid (carry hb3 Ga.out)
    have HW := Lib.hid (HW.out.trans (hb3.mono HW.out.size))
    clear hb3
    obtain ⟨G0a, G0b, G0c, G0d, G0e, G0f, G0l⟩ := blk3 G0.out
    have Rv := Lib.hid (Rv.out.alloc (.cells #[.int .i64 0, .int .i64 0, .slice none 0 0] 24))
    have G0 := Lib.hid (carryA (.cells #[.int .i64 0, .int .i64 0, .slice none 0 0] 24) G0.out)
    have Ga := Lib.hid (carryA (.cells #[.int .i64 0, .int .i64 0, .slice none 0 0] 24) Ga.out)
    have HW := Lib.hid (HW.out.alloc HW.out.size (.cells #[.int .i64 0, .int .i64 0, .slice none 0 0] 24))
    have Gb := Lib.hid (heap_alloc_new w3 (.cells #[.int .i64 0, .int .i64 0, .slice none 0 0] 24))
    go_wp2_with fail
    clear G0a G0b G0c G0d G0e G0f G0l
    refine (at_any gw gh fw fh _ L _ Rv.out hm (S.below HW.out)).mono ?_
    rintro e w4 ⟨⟨r4, k4, h4, rfl⟩, hb4⟩
    have Rv := Lib.hid (Rv.out.below hb4)
    have G0 := Lib.hid (carry hb4 G0.out)
    have Ga := Lib.hid (carry hb4 Ga.out)
    have Gb := Lib.hid (carry hb4 Gb.out)
    have HW := Lib.hid (HW.out.trans (hb4.mono HW.out.size))
    clear hb4
    obtain ⟨G0a, G0b, G0c, G0d, G0e, G0f, G0l⟩ := blk3 G0.out
    have Rv := Lib.hid (Rv.out.alloc (.cells #[.int .i32 r4, .int .i64 k4] 30))
    have G0 := Lib.hid (carryA (.cells #[.int .i32 r4, .int .i64 k4] 30) G0.out)
    have Ga := Lib.hid (carryA (.cells #[.int .i32 r4, .int .i64 k4] 30) Ga.out)
    have Gb := Lib.hid (carryA (.cells #[.int .i32 r4, .int .i64 k4] 30) Gb.out)
    have HW := Lib.hid (HW.out.alloc HW.out.size (.cells #[.int .i32 r4, .int .i64 k4] 30))
    have Gc := Lib.hid (heap_alloc_new w4 (.cells #[.int .i32 r4, .int .i64 k4] 30))
    go_wp2_with fail
    clear G0a G0b G0c G0d G0e G0f G0l
    refine (rat_any gw gh fw fh _ L _ Rv.out hm).mono ?_
    rintro e w5 ⟨⟨r5, k5, h5, rfl⟩, hb5⟩
    obtain ⟨rfl, rfl⟩ := Prod.mk.inj (h4.symm.trans h5)
    have Rv := Lib.hid (Rv.out.below hb5)
    have G0 := Lib.hid (carry hb5 G0.out)
    have Ga := Lib.hid (carry hb5 Ga.out)
    have Gb := Lib.hid (carry hb5 Gb.out)
    have Gc := Lib.hid (carry hb5 Gc.out)
    have HW := Lib.hid (HW.out.trans (hb5.mono HW.out.size))
    clear hb5
    have Rv := Lib.hid (Rv.out.alloc (.cells #[.int .i32 r4, .int .i64 k4] 30))
    have G0 := Lib.hid (carryA (.cells #[.int .i32 r4, .int .i64 k4] 30) G0.out)
    have Ga := Lib.hid (carryA (.cells #[.int .i32 r4, .int .i64 k4] 30) Ga.out)
    have Gb := Lib.hid (carryA (.cells #[.int .i32 r4, .int .i64 k4] 30) Gb.out)
    have Gc := Lib.hid (carryA (.cells #[.int .i32 r4, .int .i64 k4] 30) Gc.out)
    have HW := Lib.hid (HW.out.alloc HW.out.size (.cells #[.int .i32 r4, .int .i64 k4] 30))
    have Gd := Lib.hid (heap_alloc_new w5 (.cells #[.int .i32 r4, .int .i64 k4] 30))
    clear h4 h5
    go_wp2
    have Rv := Lib.hid (Rv.out.below ((Below.refl _ _).drew))
    have G0 := Lib.hid (carry ((Below.refl _ _).drew) G0.out)
    have Ga := Lib.hid (carry ((Below.refl _ _).drew) Ga.out)
    have Gb := Lib.hid (carry ((Below.refl _ _).drew) Gb.out)
    have Gc := Lib.hid (carry ((Below.refl _ _).drew) Gc.out)
    have Gd := Lib.hid (carry ((Below.refl _ _).drew) Gd.out)
    have HW := Lib.hid (HW.out.trans (((Below.refl _ _).drew).mono HW.out.size))
    have HST := Lib.hid (show Held w _ (.slice A L.length cap) (.slice none 0 0) (.slice none 0 0) L ([]) from ⟨HW.out, Rv.out, ⟨rfl, none, 0, rfl, .inl ⟨rfl, fun _ => rfl⟩⟩, ⟨rfl, none, 0, rfl, .inl ⟨rfl, fun _ => rfl⟩⟩⟩)
    go_region_held3 (fun w' => w'.cell? ⟨w.heap.size, 0, none⟩ = some (.int .i64 gw) ∧ w'.cell? ⟨w.heap.size, 1, none⟩ = some (.int .i64 gh) ∧ w'.cell? ⟨w.heap.size, 2, none⟩ = some (.slice A L.length cap) ∧ w'.cell? ⟨w2.heap.size, 0, none⟩ = some (.int .i64 0) ∧ w'.cell? ⟨w2.heap.size, 1, none⟩ = some (.int .i64 0) ∧ w'.cell? ⟨w2.heap.size, 2, none⟩ = some (.slice none 0 0) ∧ w'.cell? ⟨w3.heap.size, 0, none⟩ = some (.int .i64 0) ∧ w'.cell? ⟨w3.heap.size, 1, none⟩ = some (.int .i64 0) ∧ w'.cell? ⟨w3.heap.size, 2, none⟩ = some (.slice none 0 0) ∧ w'.cell? ⟨w4.heap.size, 0, none⟩ = some (.int .i32 r4) ∧ w'.cell? ⟨w4.heap.size, 1, none⟩ = some (.int .i64 k4) ∧ w'.cell? ⟨w5.heap.size, 0, none⟩ = some (.int .i32 r4) ∧ w'.cell? ⟨w5.heap.size, 1, none⟩ = some (.int .i64 k4) ∧ Held w w' (.slice A L.length cap) (.slice none 0 0) (.slice none 0 0) L ([])) (first | exact keepN (by assumption) (by assumption) | exact ⟨cell_of_row _ _ 0 _ _ (0, 0) G0.out, cell_of_row _ _ 1 _ _ (0, 0) G0.out, cell_of_row _ _ 2 _ _ (0, 0) G0.out, cell_of_row _ _ 0 _ _ (0, 0) Ga.out, cell_of_row _ _ 1 _ _ (0, 0) Ga.out, cell_of_row _ _ 2 _ _ (0, 0) Ga.out, cell_of_row _ _ 0 _ _ (0, 0) Gb.out, cell_of_row _ _ 1 _ _ (0, 0) Gb.out, cell_of_row _ _ 2 _ _ (0, 0) Gb.out, cell_of_row _ _ 0 _ _ (0, 0) Gc.out, cell_of_row _ _ 1 _ _ (0, 0) Gc.out, cell_of_row _ _ 0 _ _ (0, 0) Gd.out, cell_of_row _ _ 1 _ _ (0, 0) Gd.out, HST.out⟩ | (go_keep; done))
      (first | (go_at_call 15; have hH : Held w _ (.slice A L.length cap) (.slice none 0 0) (.slice none 0 0) L ([]) := (And.right (And.right (And.right (And.right (And.right (And.right (And.right (And.right (And.right (And.right (And.right (And.right (And.right (by assumption)))))))))))))); refine (gridded_any _ (S.below hH.1) (T.below hH.1)).mono ?_; rintro e wx ⟨rfl, hbx⟩)
             | (go_at_call 16; have hH : Held w _ (.slice A L.length cap) (.slice none 0 0) (.slice none 0 0) L ([]) := (And.right (And.right (And.right (And.right (And.right (And.right (And.right (And.right (And.right (And.right (And.right (And.right (And.right (by assumption)))))))))))))); refine (gsame_any 0 0 0 0 _ _ [] [] _ ⟨rfl, none, 0, rfl, .inl ⟨rfl, fun _ => rfl⟩⟩ ⟨rfl, none, 0, rfl, .inl ⟨rfl, fun _ => rfl⟩⟩ (by decide) (by decide) ⟨rfl, rfl, rfl⟩).mono ?_; rintro e wx ⟨rfl, hbx⟩)
             | (go_at_call 17; have hH : Held w _ (.slice A L.length cap) (.slice none 0 0) (.slice none 0 0) L ([]) := (And.right (And.right (And.right (And.right (And.right (And.right (And.right (And.right (And.right (And.right (And.right (And.right (And.right (by assumption)))))))))))))); refine (is_grid_any gw gh _ L _ hH.2.1 hm (S.below hH.1)).mono ?_; rintro e wx ⟨rfl, hbx⟩)
             | (go_at_call 18; have hH : Held w _ (.slice A L.length cap) (.slice none 0 0) (.slice none 0 0) L ([]) := (And.right (And.right (And.right (And.right (And.right (And.right (And.right (And.right (And.right (And.right (And.right (And.right (And.right (by assumption)))))))))))))); refine (ris_grid_any gw gh _ L _ hH.2.1 hm).mono ?_; rintro e wx ⟨rfl, hbx⟩))
    all_goals go_wp2
    all_goals go_ret
    all_goals refine ⟨by simp, ?_⟩
    all_goals exact And.left (And.right (And.right (And.right (And.right (And.right (And.right (And.right (And.right (And.right (And.right (And.right (And.right (And.right (by assumption))))))))))))))
  ·
    obtain ⟨N, hN⟩ : ∃ N, (newL fw fh).length = N := ⟨_, rfl⟩
    have HLEN := Lib.hid (show (newL fw fh).length ≤ 1000000000 by obtain ⟨w', h', rfl, rfl, _, g80, _, g24⟩ := sides_of hc; unfold newL; rw [List.length_replicate]; simp only [Int.toNat_natCast]; have := Nat.mul_le_mul g80 g24; omega)
    have HC := Lib.hid hc
    clear hc
    go_enter Tryd.func3, Tryd.ntmps3
    go_wp2_with fail
    refine (big_any gw gh _ L _ Rv.out).mono ?_
    rintro e w1 ⟨rfl, hb1⟩
    rw [decide_eq_false hbig]
    have Rv := Lib.hid (Rv.out.below hb1)
    have G0 := Lib.hid (carry hb1 G0.out)
    have HW := Lib.hid (HW.out.trans (hb1.mono HW.out.size))
    clear hb1
    obtain ⟨G0a, G0b, G0c, G0d, G0e, G0f, G0l⟩ := blk3 G0.out
    go_wp2_with fail
    clear G0a G0b G0c G0d G0e G0f G0l
    refine (new_any fw fh _ (T.below HW.out)).mono ?_
    rintro e w2 ⟨h2, hb2⟩
    obtain ⟨g2, cap2, rfl, hcap2, hr2⟩ := (h2.is HC.out).op (n := N) hN
    have Rv := Lib.hid (Rv.out.below hb2)
    have G0 := Lib.hid (carry hb2 G0.out)
    have HW := Lib.hid (HW.out.trans (hb2.mono HW.out.size))
    clear hb2
    have Ra := Lib.hid hr2
    clear hr2
    have Rv := Lib.hid (Rv.out.alloc (.cells #[.int .i64 fw, .int .i64 fh, .slice (some ⟨g2, 0, none⟩) N cap2] 24))
    have G0 := Lib.hid (carryA (.cells #[.int .i64 fw, .int .i64 fh, .slice (some ⟨g2, 0, none⟩) N cap2] 24) G0.out)
    have Ra := Lib.hid (Ra.out.alloc (.cells #[.int .i64 fw, .int .i64 fh, .slice (some ⟨g2, 0, none⟩) N cap2] 24))
    have HW := Lib.hid (HW.out.alloc HW.out.size (.cells #[.int .i64 fw, .int .i64 fh, .slice (some ⟨g2, 0, none⟩) N cap2] 24))
    have Ga := Lib.hid (heap_alloc_new w2 (.cells #[.int .i64 fw, .int .i64 fh, .slice (some ⟨g2, 0, none⟩) N cap2] 24))
    go_wp2_with fail
    refine (rnew_any fw fh _).mono ?_
    rintro e w3 ⟨h3, hb3⟩
    obtain ⟨g3, cap3, rfl, hcap3, hr3⟩ := (h3.is HC.out).op (n := N) hN
    have Rv := Lib.hid (Rv.out.below hb3)
    have G0 := Lib.hid (carry hb3 G0.out)
    have Ra := Lib.hid (Ra.out.below hb3)
    have Ga := Lib.hid (carry hb3 Ga.out)
    have HW := Lib.hid (HW.out.trans (hb3.mono HW.out.size))
    clear hb3
    obtain ⟨G0a, G0b, G0c, G0d, G0e, G0f, G0l⟩ := blk3 G0.out
    have Rb := Lib.hid hr3
    clear hr3
    have Rv := Lib.hid (Rv.out.alloc (.cells #[.int .i64 fw, .int .i64 fh, .slice (some ⟨g3, 0, none⟩) N cap3] 24))
    have G0 := Lib.hid (carryA (.cells #[.int .i64 fw, .int .i64 fh, .slice (some ⟨g3, 0, none⟩) N cap3] 24) G0.out)
    have Ra := Lib.hid (Ra.out.alloc (.cells #[.int .i64 fw, .int .i64 fh, .slice (some ⟨g3, 0, none⟩) N cap3] 24))
    have Ga := Lib.hid (carryA (.cells #[.int .i64 fw, .int .i64 fh, .slice (some ⟨g3, 0, none⟩) N cap3] 24) Ga.out)
    have Rb := Lib.hid (Rb.out.alloc (.cells #[.int .i64 fw, .int .i64 fh, .slice (some ⟨g3, 0, none⟩) N cap3] 24))
    have HW := Lib.hid (HW.out.alloc HW.out.size (.cells #[.int .i64 fw, .int .i64 fh, .slice (some ⟨g3, 0, none⟩) N cap3] 24))
    have Gb := Lib.hid (heap_alloc_new w3 (.cells #[.int .i64 fw, .int .i64 fh, .slice (some ⟨g3, 0, none⟩) N cap3] 24))
    go_wp2_with fail
    clear G0a G0b G0c G0d G0e G0f G0l
    refine (at_any gw gh fw fh _ L _ Rv.out hm (S.below HW.out)).mono ?_
    rintro e w4 ⟨⟨r4, k4, h4, rfl⟩, hb4⟩
    have Rv := Lib.hid (Rv.out.below hb4)
    have G0 := Lib.hid (carry hb4 G0.out)
    have Ra := Lib.hid (Ra.out.below hb4)
    have Ga := Lib.hid (carry hb4 Ga.out)
    have Rb := Lib.hid (Rb.out.below hb4)
    have Gb := Lib.hid (carry hb4 Gb.out)
    have HW := Lib.hid (HW.out.trans (hb4.mono HW.out.size))
    clear hb4
    obtain ⟨G0a, G0b, G0c, G0d, G0e, G0f, G0l⟩ := blk3 G0.out
    have Rv := Lib.hid (Rv.out.alloc (.cells #[.int .i32 r4, .int .i64 k4] 30))
    have G0 := Lib.hid (carryA (.cells #[.int .i32 r4, .int .i64 k4] 30) G0.out)
    have Ra := Lib.hid (Ra.out.alloc (.cells #[.int .i32 r4, .int .i64 k4] 30))
    have Ga := Lib.hid (carryA (.cells #[.int .i32 r4, .int .i64 k4] 30) Ga.out)
    have Rb := Lib.hid (Rb.out.alloc (.cells #[.int .i32 r4, .int .i64 k4] 30))
    have Gb := Lib.hid (carryA (.cells #[.int .i32 r4, .int .i64 k4] 30) Gb.out)
    have HW := Lib.hid (HW.out.alloc HW.out.size (.cells #[.int .i32 r4, .int .i64 k4] 30))
    have Gc := Lib.hid (heap_alloc_new w4 (.cells #[.int .i32 r4, .int .i64 k4] 30))
    go_wp2_with fail
    clear G0a G0b G0c G0d G0e G0f G0l
    refine (rat_any gw gh fw fh _ L _ Rv.out hm).mono ?_
    rintro e w5 ⟨⟨r5, k5, h5, rfl⟩, hb5⟩
    obtain ⟨rfl, rfl⟩ := Prod.mk.inj (h4.symm.trans h5)
    have Rv := Lib.hid (Rv.out.below hb5)
    have G0 := Lib.hid (carry hb5 G0.out)
    have Ra := Lib.hid (Ra.out.below hb5)
    have Ga := Lib.hid (carry hb5 Ga.out)
    have Rb := Lib.hid (Rb.out.below hb5)
    have Gb := Lib.hid (carry hb5 Gb.out)
    have Gc := Lib.hid (carry hb5 Gc.out)
    have HW := Lib.hid (HW.out.trans (hb5.mono HW.out.size))
    clear hb5
    have Rv := Lib.hid (Rv.out.alloc (.cells #[.int .i32 r4, .int .i64 k4] 30))
    have G0 := Lib.hid (carryA (.cells #[.int .i32 r4, .int .i64 k4] 30) G0.out)
    have Ra := Lib.hid (Ra.out.alloc (.cells #[.int .i32 r4, .int .i64 k4] 30))
    have Ga := Lib.hid (carryA (.cells #[.int .i32 r4, .int .i64 k4] 30) Ga.out)
    have Rb := Lib.hid (Rb.out.alloc (.cells #[.int .i32 r4, .int .i64 k4] 30))
    have Gb := Lib.hid (carryA (.cells #[.int .i32 r4, .int .i64 k4] 30) Gb.out)
    have Gc := Lib.hid (carryA (.cells #[.int .i32 r4, .int .i64 k4] 30) Gc.out)
    have HW := Lib.hid (HW.out.alloc HW.out.size (.cells #[.int .i32 r4, .int .i64 k4] 30))
    have Gd := Lib.hid (heap_alloc_new w5 (.cells #[.int .i32 r4, .int .i64 k4] 30))
    clear h4 h5
    go_wp2
    have Rv := Lib.hid (Rv.out.below ((Below.refl _ _).drew))
    have G0 := Lib.hid (carry ((Below.refl _ _).drew) G0.out)
    have Ra := Lib.hid (Ra.out.below ((Below.refl _ _).drew))
    have Ga := Lib.hid (carry ((Below.refl _ _).drew) Ga.out)
    have Rb := Lib.hid (Rb.out.below ((Below.refl _ _).drew))
    have Gb := Lib.hid (carry ((Below.refl _ _).drew) Gb.out)
    have Gc := Lib.hid (carry ((Below.refl _ _).drew) Gc.out)
    have Gd := Lib.hid (carry ((Below.refl _ _).drew) Gd.out)
    have HW := Lib.hid (HW.out.trans (((Below.refl _ _).drew).mono HW.out.size))
    have HST := Lib.hid (show Held w _ (.slice A L.length cap) (.slice (some ⟨g2, 0, none⟩) N cap2) (.slice (some ⟨g3, 0, none⟩) N cap3) L (newL fw fh) from ⟨HW.out, Rv.out, Ra.out, Rb.out⟩)
    go_region_held3 (fun w' => w'.cell? ⟨w.heap.size, 0, none⟩ = some (.int .i64 gw) ∧ w'.cell? ⟨w.heap.size, 1, none⟩ = some (.int .i64 gh) ∧ w'.cell? ⟨w.heap.size, 2, none⟩ = some (.slice A L.length cap) ∧ w'.cell? ⟨w2.heap.size, 0, none⟩ = some (.int .i64 fw) ∧ w'.cell? ⟨w2.heap.size, 1, none⟩ = some (.int .i64 fh) ∧ w'.cell? ⟨w2.heap.size, 2, none⟩ = some (.slice (some ⟨g2, 0, none⟩) N cap2) ∧ w'.cell? ⟨w3.heap.size, 0, none⟩ = some (.int .i64 fw) ∧ w'.cell? ⟨w3.heap.size, 1, none⟩ = some (.int .i64 fh) ∧ w'.cell? ⟨w3.heap.size, 2, none⟩ = some (.slice (some ⟨g3, 0, none⟩) N cap3) ∧ w'.cell? ⟨w4.heap.size, 0, none⟩ = some (.int .i32 r4) ∧ w'.cell? ⟨w4.heap.size, 1, none⟩ = some (.int .i64 k4) ∧ w'.cell? ⟨w5.heap.size, 0, none⟩ = some (.int .i32 r4) ∧ w'.cell? ⟨w5.heap.size, 1, none⟩ = some (.int .i64 k4) ∧ Held w w' (.slice A L.length cap) (.slice (some ⟨g2, 0, none⟩) N cap2) (.slice (some ⟨g3, 0, none⟩) N cap3) L (newL fw fh)) (first | exact keepN (by assumption) (by assumption) | exact ⟨cell_of_row _ _ 0 _ _ (0, 0) G0.out, cell_of_row _ _ 1 _ _ (0, 0) G0.out, cell_of_row _ _ 2 _ _ (0, 0) G0.out, cell_of_row _ _ 0 _ _ (0, 0) Ga.out, cell_of_row _ _ 1 _ _ (0, 0) Ga.out, cell_of_row _ _ 2 _ _ (0, 0) Ga.out, cell_of_row _ _ 0 _ _ (0, 0) Gb.out, cell_of_row _ _ 1 _ _ (0, 0) Gb.out, cell_of_row _ _ 2 _ _ (0, 0) Gb.out, cell_of_row _ _ 0 _ _ (0, 0) Gc.out, cell_of_row _ _ 1 _ _ (0, 0) Gc.out, cell_of_row _ _ 0 _ _ (0, 0) Gd.out, cell_of_row _ _ 1 _ _ (0, 0) Gd.out, HST.out⟩ | (go_keep; done))
      (first | (go_at_call 15; have hH : Held w _ (.slice A L.length cap) (.slice (some ⟨g2, 0, none⟩) N cap2) (.slice (some ⟨g3, 0, none⟩) N cap3) L (newL fw fh) := (And.right (And.right (And.right (And.right (And.right (And.right (And.right (And.right (And.right (And.right (And.right (And.right (And.right (by assumption)))))))))))))); refine (gridded_any _ (S.below hH.1) (T.below hH.1)).mono ?_; rintro e wx ⟨rfl, hbx⟩)
             | (go_at_call 16; have hH : Held w _ (.slice A L.length cap) (.slice (some ⟨g2, 0, none⟩) N cap2) (.slice (some ⟨g3, 0, none⟩) N cap3) L (newL fw fh) := (And.right (And.right (And.right (And.right (And.right (And.right (And.right (And.right (And.right (And.right (And.right (And.right (And.right (by assumption)))))))))))))); refine (gsame_any _ _ _ _ _ _ (newL fw fh) (newL fw fh) _ (hH.2.2.1) (hH.2.2.2) HLEN.out HLEN.out ⟨rfl, rfl, rfl⟩).mono ?_; rintro e wx ⟨rfl, hbx⟩)
             | (go_at_call 17; have hH : Held w _ (.slice A L.length cap) (.slice (some ⟨g2, 0, none⟩) N cap2) (.slice (some ⟨g3, 0, none⟩) N cap3) L (newL fw fh) := (And.right (And.right (And.right (And.right (And.right (And.right (And.right (And.right (And.right (And.right (And.right (And.right (And.right (by assumption)))))))))))))); refine (is_grid_any gw gh _ L _ hH.2.1 hm (S.below hH.1)).mono ?_; rintro e wx ⟨rfl, hbx⟩)
             | (go_at_call 18; have hH : Held w _ (.slice A L.length cap) (.slice (some ⟨g2, 0, none⟩) N cap2) (.slice (some ⟨g3, 0, none⟩) N cap3) L (newL fw fh) := (And.right (And.right (And.right (And.right (And.right (And.right (And.right (And.right (And.right (And.right (And.right (And.right (And.right (by assumption)))))))))))))); refine (ris_grid_any gw gh _ L _ hH.2.1 hm).mono ?_; rintro e wx ⟨rfl, hbx⟩))
    all_goals go_wp2
    all_goals go_ret
    all_goals refine ⟨by simp, ?_⟩
    all_goals exact And.left (And.right (And.right (And.right (And.right (And.right (And.right (And.right (And.right (And.right (And.right (And.right (And.right (And.right (by assumption))))))))))))))
end Go.Proofs.YtakokmacfdfjhaaDoor
