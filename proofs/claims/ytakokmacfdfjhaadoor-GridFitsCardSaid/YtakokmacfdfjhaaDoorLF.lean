/- The walk of GridFits: it returns true, and turns nothing that was there. -/
import Derived.Test.YtakokmacfdfjhaaDoorGdZ
set_option linter.unusedVariables false
namespace Go.Proofs.YtakokmacfdfjhaaDoor
open Go.RowKit Gl L Wd Gd
set_option maxRecDepth 100000 in
set_option maxHeartbeats 8000000 in
theorem fits_law (gw gh fw fh : Int) (v : Value) (L : List (Int × Int)) (w : World) (hv : Rw w v 2 L.length (flat L)) (hm : L.length ≤ maxLen) (hcp : Capped v) (S : Spans w 1) (T : Blk w 0) :
    Calls Tryd.prog 6 #[.agg #[.int .i64 gw, .int .i64 gh, v], .int .i64 fw, .int .i64 fh] w fun e w' => e = .returned (.bool true) ∧ Below w.heap.size w w' := by
  obtain ⟨A, cap, rfl⟩ : ∃ A cap, v = .slice A L.length cap := ⟨_, _, hv.2.choose_spec.choose_spec.1⟩
  have HW := Lib.hid ((Below.refl w.heap.size w).alloc (Nat.le_refl _) (.cells #[.int .i64 gw, .int .i64 gh, .slice A L.length cap] 24))
  have Rv := Lib.hid (hv.alloc (.cells #[.int .i64 gw, .int .i64 gh, .slice A L.length cap] 24))
  have G0 := Lib.hid (heap_alloc_new w (.cells #[.int .i64 gw, .int .i64 gh, .slice A L.length cap] 24))
  by_cases hbig : 3000 < L.length
  · go_enter Tryd.func6, Tryd.ntmps6
    go_wp2_with fail
    refine (big_any gw gh _ L _ Rv.out).mono ?_
    rintro e w1 ⟨rfl, hb1⟩
    rw [decide_eq_true hbig]
    go_wp2
    go_ret
    exact ⟨rfl, HW.out.trans (hb1.mono HW.out.size)⟩
  cases hc : fitB gw gh L fw fh
  ·
    go_enter Tryd.func6, Tryd.ntmps6
    go_wp2_with fail
    refine (big_any gw gh _ L _ Rv.out).mono ?_
    rintro e w1 ⟨rfl, hb1⟩
    rw [decide_eq_false hbig]
    have Rv := Lib.hid (Rv.out.below hb1)
    have G0 := Lib.hid (carry hb1 G0.out)
    have HW := Lib.hid (HW.out.trans (hb1.mono HW.out.size))
    clear hb1
    obtain ⟨G0a, G0b, G0c, G0d, G0e, G0f, G0l⟩ := blk3 G0.out
    go_wp2_with fail
    clear G0a G0b G0c G0d G0e G0f G0l
    refine (fit_any gw gh fw fh _ L _ Rv.out hcp hm (S.below HW.out) (T.below HW.out)).mono ?_
    rintro e w2 ⟨h2, hb2⟩
    obtain rfl := h2.isnt hc
    have Rv := Lib.hid (Rv.out.below hb2)
    have G0 := Lib.hid (carry hb2 G0.out)
    have HW := Lib.hid (HW.out.trans (hb2.mono HW.out.size))
    clear hb2
    obtain ⟨G0a, G0b, G0c, G0d, G0e, G0f, G0l⟩ := blk3 G0.out
    have Rv := Lib.hid (Rv.out.alloc (.cells #[.int .i64 0, .int .i64 0, .slice none 0 0] 24))
    have G0 := Lib.hid (carryA (.cells #[.int .i64 0, .int .i64 0, .slice none 0 0] 24) G0.out)
    have HW := Lib.hid (HW.out.alloc HW.out.size (.cells #[.int .i64 0, .int .i64 0, .slice none 0 0] 24))
    have Ga := Lib.hid (heap_alloc_new w2 (.cells #[.int .i64 0, .int .i64 0, .slice none 0 0] 24))
    go_wp2_with fail
    clear G0a G0b G0c G0d G0e G0f G0l
    refine (rfit_any gw gh fw fh _ L _ Rv.out hm).mono ?_
    rintro e w3 ⟨h3, hb3⟩
    obtain rfl := h3.isnt hc
    have Rv := Lib.hid (Rv.out.below hb3)
    have G0 := Lib.hid (carry hb3 G0.out)
    have Ga := Lib.hid (carry hb3 Ga.out)
    have HW := Lib.hid (HW.out.trans (hb3.mono HW.out.size))
    clear hb3
    have Rv := Lib.hid (Rv.out.alloc (.cells #[.int .i64 0, .int .i64 0, .slice none 0 0] 24))
    have G0 := Lib.hid (carryA (.cells #[.int .i64 0, .int .i64 0, .slice none 0 0] 24) G0.out)
    have Ga := Lib.hid (carryA (.cells #[.int .i64 0, .int .i64 0, .slice none 0 0] 24) Ga.out)
    have HW := Lib.hid (HW.out.alloc HW.out.size (.cells #[.int .i64 0, .int .i64 0, .slice none 0 0] 24))
    have Gb := Lib.hid (heap_alloc_new w3 (.cells #[.int .i64 0, .int .i64 0, .slice none 0 0] 24))
    go_wp2_with fail
    refine (gridded_any _ (S.below HW.out) (T.below HW.out)).mono ?_
    rintro e w4 ⟨rfl, hb4⟩
    have Rv := Lib.hid (Rv.out.below hb4)
    have G0 := Lib.hid (carry hb4 G0.out)
    have Ga := Lib.hid (carry hb4 Ga.out)
    have Gb := Lib.hid (carry hb4 Gb.out)
    have HW := Lib.hid (HW.out.trans (hb4.mono HW.out.size))
    clear hb4
    obtain ⟨Gaa, Gab, Gac, Gad, Gae, Gaf, Gal⟩ := blk3 Ga.out
    obtain ⟨Gba, Gbb, Gbc, Gbd, Gbe, Gbf, Gbl⟩ := blk3 Gb.out
    go_wp2_with fail
    clear Gaa Gab Gac Gad Gae Gaf Gal
    clear Gba Gbb Gbc Gbd Gbe Gbf Gbl
    refine (gsame_any 0 0 0 0 _ _ [] [] _ ⟨rfl, none, 0, rfl, .inl ⟨rfl, fun _ => rfl⟩⟩ ⟨rfl, none, 0, rfl, .inl ⟨rfl, fun _ => rfl⟩⟩ (by decide) (by decide) ⟨rfl, rfl, rfl⟩).mono ?_
    rintro e w5 ⟨rfl, hb5⟩
    have Rv := Lib.hid (Rv.out.below hb5)
    have G0 := Lib.hid (carry hb5 G0.out)
    have Ga := Lib.hid (carry hb5 Ga.out)
    have Gb := Lib.hid (carry hb5 Gb.out)
    have HW := Lib.hid (HW.out.trans (hb5.mono HW.out.size))
    clear hb5
    go_wp2
    go_ret
    exact ⟨by simp, HW.out⟩
  · have HLEN := Lib.hid (show (fitV gw gh L fw fh).length ≤ 1000000000 by have := fitV_len hc; omega)
    obtain ⟨N, hN⟩ : ∃ N, (fitV gw gh L fw fh).length = N := ⟨_, rfl⟩
    go_enter Tryd.func6, Tryd.ntmps6
    go_wp2_with fail
    refine (big_any gw gh _ L _ Rv.out).mono ?_
    rintro e w1 ⟨rfl, hb1⟩
    rw [decide_eq_false hbig]
    have Rv := Lib.hid (Rv.out.below hb1)
    have G0 := Lib.hid (carry hb1 G0.out)
    have HW := Lib.hid (HW.out.trans (hb1.mono HW.out.size))
    clear hb1
    obtain ⟨G0a, G0b, G0c, G0d, G0e, G0f, G0l⟩ := blk3 G0.out
    go_wp2_with fail
    clear G0a G0b G0c G0d G0e G0f G0l
    refine (fit_any gw gh fw fh _ L _ Rv.out hcp hm (S.below HW.out) (T.below HW.out)).mono ?_
    rintro e w2 ⟨h2, hb2⟩
    obtain ⟨g2, cap2, rfl, hcap2, hr2⟩ := (h2.is hc).op (n := N) hN
    have Rv := Lib.hid (Rv.out.below hb2)
    have G0 := Lib.hid (carry hb2 G0.out)
    have HW := Lib.hid (HW.out.trans (hb2.mono HW.out.size))
    clear hb2
    obtain ⟨G0a, G0b, G0c, G0d, G0e, G0f, G0l⟩ := blk3 G0.out
    have Ra := Lib.hid hr2
    clear hr2
    have Rv := Lib.hid (Rv.out.alloc (.cells #[.int .i64 fw, .int .i64 fh, .slice (some ⟨g2, 0, none⟩) N cap2] 24))
    have G0 := Lib.hid (carryA (.cells #[.int .i64 fw, .int .i64 fh, .slice (some ⟨g2, 0, none⟩) N cap2] 24) G0.out)
    have Ra := Lib.hid (Ra.out.alloc (.cells #[.int .i64 fw, .int .i64 fh, .slice (some ⟨g2, 0, none⟩) N cap2] 24))
    have HW := Lib.hid (HW.out.alloc HW.out.size (.cells #[.int .i64 fw, .int .i64 fh, .slice (some ⟨g2, 0, none⟩) N cap2] 24))
    have Ga := Lib.hid (heap_alloc_new w2 (.cells #[.int .i64 fw, .int .i64 fh, .slice (some ⟨g2, 0, none⟩) N cap2] 24))
    go_wp2_with fail
    clear G0a G0b G0c G0d G0e G0f G0l
    refine (rfit_any gw gh fw fh _ L _ Rv.out hm).mono ?_
    rintro e w3 ⟨h3, hb3⟩
    obtain ⟨g3, cap3, rfl, hcap3, hr3⟩ := (h3.is hc).op (n := N) hN
    have Rv := Lib.hid (Rv.out.below hb3)
    have G0 := Lib.hid (carry hb3 G0.out)
    have Ra := Lib.hid (Ra.out.below hb3)
    have Ga := Lib.hid (carry hb3 Ga.out)
    have HW := Lib.hid (HW.out.trans (hb3.mono HW.out.size))
    clear hb3
    have Rb := Lib.hid hr3
    clear hr3
    have Rv := Lib.hid (Rv.out.alloc (.cells #[.int .i64 fw, .int .i64 fh, .slice (some ⟨g3, 0, none⟩) N cap3] 24))
    have G0 := Lib.hid (carryA (.cells #[.int .i64 fw, .int .i64 fh, .slice (some ⟨g3, 0, none⟩) N cap3] 24) G0.out)
    have Ra := Lib.hid (Ra.out.alloc (.cells #[.int .i64 fw, .int .i64 fh, .slice (some ⟨g3, 0, none⟩) N cap3] 24))
    have Ga := Lib.hid (carryA (.cells #[.int .i64 fw, .int .i64 fh, .slice (some ⟨g3, 0, none⟩) N cap3] 24) Ga.out)
    have Rb := Lib.hid (Rb.out.alloc (.cells #[.int .i64 fw, .int .i64 fh, .slice (some ⟨g3, 0, none⟩) N cap3] 24))
    have HW := Lib.hid (HW.out.alloc HW.out.size (.cells #[.int .i64 fw, .int .i64 fh, .slice (some ⟨g3, 0, none⟩) N cap3] 24))
    have Gb := Lib.hid (heap_alloc_new w3 (.cells #[.int .i64 fw, .int .i64 fh, .slice (some ⟨g3, 0, none⟩) N cap3] 24))
    go_wp2_with fail
    refine (gridded_any _ (S.below HW.out) (T.below HW.out)).mono ?_
    rintro e w4 ⟨rfl, hb4⟩
    have Rv := Lib.hid (Rv.out.below hb4)
    have G0 := Lib.hid (carry hb4 G0.out)
    have Ra := Lib.hid (Ra.out.below hb4)
    have Ga := Lib.hid (carry hb4 Ga.out)
    have Rb := Lib.hid (Rb.out.below hb4)
    have Gb := Lib.hid (carry hb4 Gb.out)
    have HW := Lib.hid (HW.out.trans (hb4.mono HW.out.size))
    clear hb4
    obtain ⟨Gaa, Gab, Gac, Gad, Gae, Gaf, Gal⟩ := blk3 Ga.out
    obtain ⟨Gba, Gbb, Gbc, Gbd, Gbe, Gbf, Gbl⟩ := blk3 Gb.out
    go_wp2_with fail
    clear Gaa Gab Gac Gad Gae Gaf Gal
    clear Gba Gbb Gbc Gbd Gbe Gbf Gbl
    refine (gsame_any _ _ _ _ _ _ (fitV gw gh L fw fh) (fitV gw gh L fw fh) _ Ra.out Rb.out HLEN.out HLEN.out ⟨rfl, rfl, rfl⟩).mono ?_
    rintro e w5 ⟨rfl, hb5⟩
    have Rv := Lib.hid (Rv.out.below hb5)
    have G0 := Lib.hid (carry hb5 G0.out)
    have Ra := Lib.hid (Ra.out.below hb5)
    have Ga := Lib.hid (carry hb5 Ga.out)
    have Rb := Lib.hid (Rb.out.below hb5)
    have Gb := Lib.hid (carry hb5 Gb.out)
    have HW := Lib.hid (HW.out.trans (hb5.mono HW.out.size))
    clear hb5
    go_wp2
    go_ret
    exact ⟨by simp, HW.out⟩
end Go.Proofs.YtakokmacfdfjhaaDoor
