/- The walk of GridStays: it returns true, and turns nothing that was there. -/
import Derived.Test.YtakokmacfdfjhaaDoorGdZ
set_option linter.unusedVariables false
namespace Go.Proofs.YtakokmacfdfjhaaDoor
open Go.RowKit Gl L Wd Gd
namespace Gd
theorem splice_ok {L : List (Int × Int)} {fr : Nat} {c : List (Int × Int)} (hf : fr + c.length ≤ L.length) (h1 : ∀ i, i < L.length → Wd.ok (L.getD i (0, 0)).1 (L.getD i (0, 0)).2 = true) (h2 : ∀ i, i < c.length → Wd.ok (c.getD i (0, 0)).1 (c.getD i (0, 0)).2 = true) : ∀ i, i < (Go.splice L fr c).length → Wd.ok ((Go.splice L fr c).getD i (0, 0)).1 ((Go.splice L fr c).getD i (0, 0)).2 = true := by
  intro i hi
  rw [splice_len _ _ _ hf] at hi
  rw [splice_getD _ _ _ _ hf]
  split
  · exact h2 _ (by omega)
  · exact h1 _ hi
theorem cl_ok {r : Int} (h : shw r = true) : ∀ i, i < (cl r).length → Wd.ok ((cl r).getD i (0, 0)).1 ((cl r).getD i (0, 0)).2 = true := by
  cases h2 : wid r
  · rw [cl_one h h2]
    intro i hi
    have : i = 0 := by simp at hi; omega
    subst this
    simp [Wd.ok, h, h2]
  · rw [cl_wide h h2]
    intro i hi
    rcases (show i = 0 ∨ i = 1 by simp at hi; omega) with rfl | rfl <;> simp [Wd.ok, h, h2]
theorem bl_ok : Wd.ok bl.1 bl.2 = true := by decide +kernel
theorem putL_right {gw gh : Int} {L : List (Int × Int)} {x y r : Int} (h : putB gw gh L x y r = true) : right gw gh (putL gw L x y r) := by
  obtain ⟨W, H, X, Y, rfl, rfl, rfl, rfl, hR, hX, hY, hs, h1, h2⟩ := putB_nat h
  unfold putL
  simp only [Int.toNat_natCast]
  have hf : Y * W + X + (cl r).length ≤ L.length := by omega
  exact R_right (mend_R hR.w2 hR.w80 hR.h1 hR.h24 (by rw [splice_len _ _ _ hf]; exact hR.len) (splice_ok hf hR.ok (cl_ok hs)))
theorem blankL_right {gw gh : Int} {L : List (Int × Int)} {fr to : Int} (h : blankB gw gh L fr to = true) : right gw gh (blankL gw L fr to) := by
  unfold blankB at h
  simp only [Bool.and_eq_true, decide_eq_true_eq] at h
  obtain ⟨W, H, rfl, rfl, hR⟩ := right_R h.1
  unfold blankL
  simp only [Int.toNat_natCast]
  have hf : fr.toNat + (List.replicate (to - fr).toNat bl).length ≤ L.length := by rw [List.length_replicate]; omega
  refine R_right (mend_R hR.w2 hR.w80 hR.h1 hR.h24 (by rw [splice_len _ _ _ hf]; exact hR.len) (splice_ok hf hR.ok fun i hi => ?_))
  rw [List.length_replicate] at hi
  have e : (List.replicate (to - fr).toNat bl).getD i (0, 0) = bl := by simp [List.getD, hi]
  rw [e]; exact bl_ok
theorem fitV_right {gw gh : Int} {L : List (Int × Int)} {fw fh : Int} (h : fitB gw gh L fw fh = true) : right fw fh (fitV gw gh L fw fh) := by
  unfold fitB at h
  simp only [Bool.and_eq_true, decide_eq_true_eq] at h
  obtain ⟨W, H, rfl, rfl, hR⟩ := right_R h.1
  obtain ⟨w', h', rfl, rfl, g2, g80, g1, g24⟩ := sides_of h.2
  unfold fitV fitL
  simp only [Int.toNat_natCast]
  refine R_right (mend_R g2 g80 g1 g24 (fitM_len ..) fun i hi => ?_)
  rw [fitM_len] at hi
  obtain ⟨q, p, rfl, hq, hp⟩ := parts hi
  rw [fitM_at W H L hq hp]
  split
  · rename_i hin
    exact hR.ok _ (by rw [hR.len]; exact in_lt hin.2 hin.1)
  · exact bl_ok
theorem newL_right {gw gh : Int} (h : sidesB gw gh = true) : right gw gh (newL gw gh) := by
  obtain ⟨w', h', rfl, rfl, g2, g80, g1, g24⟩ := sides_of h
  unfold newL
  simp only [Int.toNat_natCast]
  have e : ∀ i, i < w' * h' → (List.replicate (w' * h') bl).getD i (0, 0) = bl := fun i hi => by simp [List.getD, hi]
  refine R_right ⟨g2, g80, g1, g24, List.length_replicate .., fun i hi => ?_, fun i hi => ?_⟩
  · rw [List.length_replicate] at hi
    rw [e i hi]; exact bl_ok
  · rw [List.length_replicate] at hi
    unfold lost
    rw [e i hi]
    rintro (⟨c, _⟩ | ⟨c, _⟩) <;> cases c
theorem scrollL_right {gw gh : Int} {L : List (Int × Int)} (h : right gw gh L) : right gw gh (scrollL gw.toNat L) := by
  obtain ⟨W, H, rfl, rfl, hR⟩ := right_R h
  rw [Int.toNat_natCast]
  have hW2 := hR.w2
  refine R_right ⟨hR.w2, hR.w80, hR.h1, hR.h24, by rw [scrollL_len]; exact hR.len, fun i hi => ?_, fun i hi => ?_⟩
  · rw [scrollL_len] at hi
    rw [scrollL_at W L hi]
    split
    · rename_i h2; exact hR.ok _ h2
    · exact bl_ok
  · rw [scrollL_len] at hi
    unfold lost
    rw [scrollL_at W L hi]
    by_cases h2 : i + W < L.length
    · rw [if_pos h2]
      have hmod : (i + W) % W = i % W := Nat.add_mod_right i W
      rintro (⟨c, d⟩ | ⟨c, d⟩)
      · obtain ⟨a1, a2, a3⟩ := hR.l1 h2 c
        rw [hmod] at a1
        rcases d with d | d
        · exact a1 d
        · apply d
          rw [scrollL_at W L (by omega), if_pos (by omega), ← a2]
          congr 1; omega
      · obtain ⟨a1, a2, a3⟩ := hR.l2 h2 c
        rw [hmod] at a1
        rcases d with d | d
        · exact a1 d
        · have hi0 : 0 < i := by rcases Nat.eq_zero_or_pos i with rfl | h0; simp at a1; exact h0
          apply d
          rw [scrollL_at W L (by omega), if_pos (by omega), ← a2]
          congr 1; omega
    · rw [if_neg h2]
      rintro (⟨c, _⟩ | ⟨c, _⟩) <;> cases c
end Gd
set_option maxRecDepth 100000 in
set_option maxHeartbeats 16000000 in
theorem stays_law (gw gh x y r : Int) (v : Value) (L : List (Int × Int)) (w : World) (hv : Rw w v 2 L.length (flat L)) (hm : L.length ≤ maxLen) (hcp : Capped v) (S : Spans w 1) (T : Blk w 0) :
    Calls Tryd.prog 7 #[.agg #[.int .i64 gw, .int .i64 gh, v], .int .i64 x, .int .i64 y, .int .i32 r] w fun e w' => e = .returned (.bool true) ∧ Below w.heap.size w w' := by
  obtain ⟨A, cap, rfl⟩ : ∃ A cap, v = .slice A L.length cap := ⟨_, _, hv.2.choose_spec.choose_spec.1⟩
  have HW := Lib.hid ((Below.refl w.heap.size w).alloc (Nat.le_refl _) (.cells #[.int .i64 gw, .int .i64 gh, .slice A L.length cap] 24))
  have Rv := Lib.hid (hv.alloc (.cells #[.int .i64 gw, .int .i64 gh, .slice A L.length cap] 24))
  have G0 := Lib.hid (heap_alloc_new w (.cells #[.int .i64 gw, .int .i64 gh, .slice A L.length cap] 24))
  by_cases hbig : 3000 < L.length
  · go_enter Tryd.func7, Tryd.ntmps7
    go_wp2_with fail
    refine (big_any gw gh _ L _ Rv.out).mono ?_
    rintro e w1 ⟨rfl, hb1⟩
    rw [decide_eq_true hbig]
    have HW := Lib.hid (HW.out.trans (hb1.mono HW.out.size))
    go_wp2_with fail
    refine (gridded_any _ (S.below HW.out) (T.below HW.out)).mono ?_
    rintro e w2 ⟨rfl, hb2⟩
    go_wp2
    go_ret
    exact ⟨rfl, HW.out.trans (hb2.mono HW.out.size)⟩
  by_cases hr : ¬ right gw gh L
  ·
    have HR := Lib.hid hr
    go_enter Tryd.func7, Tryd.ntmps7
    go_wp2_with fail
    refine (big_any gw gh _ L _ Rv.out).mono ?_
    rintro e w1 ⟨rfl, hb1⟩
    rw [decide_eq_false hbig]
    have Rv := Lib.hid (Rv.out.below hb1)
    have G0 := Lib.hid (carry hb1 G0.out)
    have HW := Lib.hid (HW.out.trans (hb1.mono HW.out.size))
    clear hb1
    obtain ⟨G0a, G0b, G0c, G0d, G0e, G0f, G0l⟩ := blk3 G0.out
    go_wp2_with fail
    clear G0a G0b G0c G0d G0e G0f G0l
    refine (is_grid_any gw gh _ L _ Rv.out hm (S.below HW.out)).mono ?_
    rintro e w2 ⟨rfl, hb2⟩
    rw [decide_eq_false HR.out]
    have Rv := Lib.hid (Rv.out.below hb2)
    have G0 := Lib.hid (carry hb2 G0.out)
    have HW := Lib.hid (HW.out.trans (hb2.mono HW.out.size))
    clear hb2
    go_wp2_with fail
    refine (gridded_any _ (S.below HW.out) (T.below HW.out)).mono ?_
    rintro e w3 ⟨rfl, hb3⟩
    have Rv := Lib.hid (Rv.out.below hb3)
    have G0 := Lib.hid (carry hb3 G0.out)
    have HW := Lib.hid (HW.out.trans (hb3.mono HW.out.size))
    clear hb3
    go_wp2
    go_ret
    exact ⟨rfl, HW.out⟩
  have hr := Classical.not_not.1 hr
  have hl := right_len hr
  have HFE := Lib.hid (show fitE gw gh L = 4 from if_pos hr)
  have HFB := Lib.hid (show fitB gw gh L x y = sidesB x y by unfold fitB; rw [decide_eq_true hr]; rfl)
  have HR := Lib.hid hr
  clear hr
  cases hc1 : putB gw gh L x y r
  all_goals cases hc2 : blankB gw gh L x y
  all_goals cases hc3 : sidesB x y
  ·
    have hc3f := HFB.out
    rw [hc3] at hc3f
    have HC3 := Lib.hid hc3
    have HC3F := Lib.hid hc3f
    have HC1 := Lib.hid hc1
    have HC2 := Lib.hid hc2
    clear hc1 hc2 hc3 hc3f
    go_enter Tryd.func7, Tryd.ntmps7
    go_wp2_with fail
    refine (big_any gw gh _ L _ Rv.out).mono ?_
    rintro e w1 ⟨rfl, hb1⟩
    rw [decide_eq_false hbig]
    have Rv := Lib.hid (Rv.out.below hb1)
    have G0 := Lib.hid (carry hb1 G0.out)
    have HW := Lib.hid (HW.out.trans (hb1.mono HW.out.size))
    clear hb1
    obtain ⟨G0a, G0b, G0c, G0d, G0e, G0f, G0l⟩ := blk3 G0.out
    go_wp2_with fail
    clear G0a G0b G0c G0d G0e G0f G0l
    refine (is_grid_any gw gh _ L _ Rv.out hm (S.below HW.out)).mono ?_
    rintro e w2 ⟨rfl, hb2⟩
    rw [decide_eq_true HR.out]
    have Rv := Lib.hid (Rv.out.below hb2)
    have G0 := Lib.hid (carry hb2 G0.out)
    have HW := Lib.hid (HW.out.trans (hb2.mono HW.out.size))
    clear hb2
    obtain ⟨G0a, G0b, G0c, G0d, G0e, G0f, G0l⟩ := blk3 G0.out
    go_wp2_with fail
    clear G0a G0b G0c G0d G0e G0f G0l
    refine (put_any gw gh x y r _ L _ Rv.out hm (S.below HW.out) (T.below HW.out)).mono ?_
    rintro e w3 ⟨h3, hb3⟩
    obtain rfl := h3.isnt HC1.out
    have Rv := Lib.hid (Rv.out.below hb3)
    have G0 := Lib.hid (carry hb3 G0.out)
    have HW := Lib.hid (HW.out.trans (hb3.mono HW.out.size))
    clear hb3
    obtain ⟨G0a, G0b, G0c, G0d, G0e, G0f, G0l⟩ := blk3 G0.out
    have Rv := Lib.hid (Rv.out.alloc (.cells #[.int .i64 0, .int .i64 0, .slice none 0 0] 24))
    have G0 := Lib.hid (carryA (.cells #[.int .i64 0, .int .i64 0, .slice none 0 0] 24) G0.out)
    have HW := Lib.hid (HW.out.alloc HW.out.size (.cells #[.int .i64 0, .int .i64 0, .slice none 0 0] 24))
    go_wp2_with fail
    clear G0a G0b G0c G0d G0e G0f G0l
    refine (blank_any gw gh x y _ L _ Rv.out hm (S.below HW.out) (T.below HW.out)).mono ?_
    rintro e w4 ⟨h4, hb4⟩
    obtain rfl := h4.isnt HC2.out
    have Rv := Lib.hid (Rv.out.below hb4)
    have G0 := Lib.hid (carry hb4 G0.out)
    have HW := Lib.hid (HW.out.trans (hb4.mono HW.out.size))
    clear hb4
    obtain ⟨G0a, G0b, G0c, G0d, G0e, G0f, G0l⟩ := blk3 G0.out
    have Rv := Lib.hid (Rv.out.alloc (.cells #[.int .i64 0, .int .i64 0, .slice none 0 0] 24))
    have G0 := Lib.hid (carryA (.cells #[.int .i64 0, .int .i64 0, .slice none 0 0] 24) G0.out)
    have HW := Lib.hid (HW.out.alloc HW.out.size (.cells #[.int .i64 0, .int .i64 0, .slice none 0 0] 24))
    go_wp2_with fail
    clear G0a G0b G0c G0d G0e G0f G0l
    refine (fit_any gw gh x y _ L _ Rv.out hcp hm (S.below HW.out) (T.below HW.out)).mono ?_
    rintro e w5 ⟨h5, hb5⟩
    obtain rfl := h5.isnt HC3F.out
    have Rv := Lib.hid (Rv.out.below hb5)
    have G0 := Lib.hid (carry hb5 G0.out)
    have HW := Lib.hid (HW.out.trans (hb5.mono HW.out.size))
    clear hb5
    have Rv := Lib.hid (Rv.out.alloc (.cells #[.int .i64 0, .int .i64 0, .slice none 0 0] 24))
    have G0 := Lib.hid (carryA (.cells #[.int .i64 0, .int .i64 0, .slice none 0 0] 24) G0.out)
    have HW := Lib.hid (HW.out.alloc HW.out.size (.cells #[.int .i64 0, .int .i64 0, .slice none 0 0] 24))
    try rw [HFE.out]
    go_wp2_with fail
    refine (new_any x y _ (T.below HW.out)).mono ?_
    rintro e w6 ⟨h6, hb6⟩
    obtain rfl := h6.isnt HC3.out
    have Rv := Lib.hid (Rv.out.below hb6)
    have G0 := Lib.hid (carry hb6 G0.out)
    have HW := Lib.hid (HW.out.trans (hb6.mono HW.out.size))
    clear hb6
    have Rv := Lib.hid (Rv.out.alloc (.cells #[.int .i64 0, .int .i64 0, .slice none 0 0] 24))
    have G0 := Lib.hid (carryA (.cells #[.int .i64 0, .int .i64 0, .slice none 0 0] 24) G0.out)
    have HW := Lib.hid (HW.out.alloc HW.out.size (.cells #[.int .i64 0, .int .i64 0, .slice none 0 0] 24))
    go_wp2_with fail
    refine (gridded_any _ (S.below HW.out) (T.below HW.out)).mono ?_
    rintro e w7 ⟨rfl, hb7⟩
    have Rv := Lib.hid (Rv.out.below hb7)
    have G0 := Lib.hid (carry hb7 G0.out)
    have HW := Lib.hid (HW.out.trans (hb7.mono HW.out.size))
    clear hb7
    obtain ⟨G0a, G0b, G0c, G0d, G0e, G0f, G0l⟩ := blk3 G0.out
    go_wp2_with fail
    clear G0a G0b G0c G0d G0e G0f G0l
    refine (is_grid_any gw gh _ L _ Rv.out hm (S.below HW.out)).mono ?_
    rintro e w8 ⟨rfl, hb8⟩
    rw [decide_eq_true HR.out]
    have Rv := Lib.hid (Rv.out.below hb8)
    have G0 := Lib.hid (carry hb8 G0.out)
    have HW := Lib.hid (HW.out.trans (hb8.mono HW.out.size))
    clear hb8
    obtain ⟨G0a, G0b, G0c, G0d, G0e, G0f, G0l⟩ := blk3 G0.out
    go_wp2_with fail
    clear G0a G0b G0c G0d G0e G0f G0l
    refine (scroll_any gw gh _ L _ Rv.out hcp hm (S.below HW.out) (T.below HW.out)).mono ?_
    rintro e w9 ⟨h9, hb9⟩
    unfold ScrollTold at h9
    rw [if_pos HR.out] at h9
    obtain ⟨v9, rfl, ho9⟩ := h9
    have Rs := Lib.hid ho9.rw
    have Rv := Lib.hid (Rv.out.below hb9)
    have G0 := Lib.hid (carry hb9 G0.out)
    have HW := Lib.hid (HW.out.trans (hb9.mono HW.out.size))
    clear hb9
    go_wp2_with fail
    refine (is_grid_any gw gh _ (scrollL gw.toNat L) _ Rs.out (by rw [scrollL_len]; exact hm) (S.below HW.out)).mono ?_
    rintro e w10 ⟨rfl, hb10⟩
    rw [decide_eq_true (scrollL_right HR.out)]
    have Rv := Lib.hid (Rv.out.below hb10)
    have G0 := Lib.hid (carry hb10 G0.out)
    have Rs := Lib.hid (Rs.out.below hb10)
    have HW := Lib.hid (HW.out.trans (hb10.mono HW.out.size))
    clear hb10
    go_wp2
    go_ret
    exact ⟨rfl, HW.out⟩
  ·
    have hc3f := HFB.out
    rw [hc3] at hc3f
    have HC3 := Lib.hid hc3
    have HC3F := Lib.hid hc3f
    have HC1 := Lib.hid hc1
    have HC2 := Lib.hid hc2
    obtain ⟨N3, hN3⟩ : ∃ N, (fitV gw gh L x y).length = N := ⟨_, rfl⟩
    have HL3 := Lib.hid (show (fitV gw gh L x y).length ≤ maxLen by have := fitV_len hc3f; unfold maxLen; omega)
    have HR3 := Lib.hid (fitV_right hc3f)
    obtain ⟨N4, hN4⟩ : ∃ N, (newL x y).length = N := ⟨_, rfl⟩
    have HL4 := Lib.hid (show (newL x y).length ≤ maxLen by obtain ⟨w', h', rfl, rfl, _, g80, _, g24⟩ := sides_of hc3; unfold newL maxLen; rw [List.length_replicate]; simp only [Int.toNat_natCast]; have := Nat.mul_le_mul g80 g24; omega)
    have HR4 := Lib.hid (newL_right hc3)
    clear hc1 hc2 hc3 hc3f
    go_enter Tryd.func7, Tryd.ntmps7
    go_wp2_with fail
    refine (big_any gw gh _ L _ Rv.out).mono ?_
    rintro e w1 ⟨rfl, hb1⟩
    rw [decide_eq_false hbig]
    have Rv := Lib.hid (Rv.out.below hb1)
    have G0 := Lib.hid (carry hb1 G0.out)
    have HW := Lib.hid (HW.out.trans (hb1.mono HW.out.size))
    clear hb1
    obtain ⟨G0a, G0b, G0c, G0d, G0e, G0f, G0l⟩ := blk3 G0.out
    go_wp2_with fail
    clear G0a G0b G0c G0d G0e G0f G0l
    refine (is_grid_any gw gh _ L _ Rv.out hm (S.below HW.out)).mono ?_
    rintro e w2 ⟨rfl, hb2⟩
    rw [decide_eq_true HR.out]
    have Rv := Lib.hid (Rv.out.below hb2)
    have G0 := Lib.hid (carry hb2 G0.out)
    have HW := Lib.hid (HW.out.trans (hb2.mono HW.out.size))
    clear hb2
    obtain ⟨G0a, G0b, G0c, G0d, G0e, G0f, G0l⟩ := blk3 G0.out
    go_wp2_with fail
    clear G0a G0b G0c G0d G0e G0f G0l
    refine (put_any gw gh x y r _ L _ Rv.out hm (S.below HW.out) (T.below HW.out)).mono ?_
    rintro e w3 ⟨h3, hb3⟩
    obtain rfl := h3.isnt HC1.out
    have Rv := Lib.hid (Rv.out.below hb3)
    have G0 := Lib.hid (carry hb3 G0.out)
    have HW := Lib.hid (HW.out.trans (hb3.mono HW.out.size))
    clear hb3
    obtain ⟨G0a, G0b, G0c, G0d, G0e, G0f, G0l⟩ := blk3 G0.out
    have Rv := Lib.hid (Rv.out.alloc (.cells #[.int .i64 0, .int .i64 0, .slice none 0 0] 24))
    have G0 := Lib.hid (carryA (.cells #[.int .i64 0, .int .i64 0, .slice none 0 0] 24) G0.out)
    have HW := Lib.hid (HW.out.alloc HW.out.size (.cells #[.int .i64 0, .int .i64 0, .slice none 0 0] 24))
    go_wp2_with fail
    clear G0a G0b G0c G0d G0e G0f G0l
    refine (blank_any gw gh x y _ L _ Rv.out hm (S.below HW.out) (T.below HW.out)).mono ?_
    rintro e w4 ⟨h4, hb4⟩
    obtain rfl := h4.isnt HC2.out
    have Rv := Lib.hid (Rv.out.below hb4)
    have G0 := Lib.hid (carry hb4 G0.out)
    have HW := Lib.hid (HW.out.trans (hb4.mono HW.out.size))
    clear hb4
    obtain ⟨G0a, G0b, G0c, G0d, G0e, G0f, G0l⟩ := blk3 G0.out
    have Rv := Lib.hid (Rv.out.alloc (.cells #[.int .i64 0, .int .i64 0, .slice none 0 0] 24))
    have G0 := Lib.hid (carryA (.cells #[.int .i64 0, .int .i64 0, .slice none 0 0] 24) G0.out)
    have HW := Lib.hid (HW.out.alloc HW.out.size (.cells #[.int .i64 0, .int .i64 0, .slice none 0 0] 24))
    go_wp2_with fail
    clear G0a G0b G0c G0d G0e G0f G0l
    refine (fit_any gw gh x y _ L _ Rv.out hcp hm (S.below HW.out) (T.below HW.out)).mono ?_
    rintro e w5 ⟨h5, hb5⟩
    obtain ⟨g5, cap5, rfl, hcap5, hr5⟩ := (h5.is HC3F.out).op (n := N3) hN3
    have Rv := Lib.hid (Rv.out.below hb5)
    have G0 := Lib.hid (carry hb5 G0.out)
    have HW := Lib.hid (HW.out.trans (hb5.mono HW.out.size))
    clear hb5
    have Rc := Lib.hid hr5
    clear hr5
    have Rv := Lib.hid (Rv.out.alloc (.cells #[.int .i64 x, .int .i64 y, .slice (some ⟨g5, 0, none⟩) N3 cap5] 24))
    have G0 := Lib.hid (carryA (.cells #[.int .i64 x, .int .i64 y, .slice (some ⟨g5, 0, none⟩) N3 cap5] 24) G0.out)
    have Rc := Lib.hid (Rc.out.alloc (.cells #[.int .i64 x, .int .i64 y, .slice (some ⟨g5, 0, none⟩) N3 cap5] 24))
    have HW := Lib.hid (HW.out.alloc HW.out.size (.cells #[.int .i64 x, .int .i64 y, .slice (some ⟨g5, 0, none⟩) N3 cap5] 24))
    have Gc := Lib.hid (heap_alloc_new w5 (.cells #[.int .i64 x, .int .i64 y, .slice (some ⟨g5, 0, none⟩) N3 cap5] 24))
    go_wp2_with fail
    refine (is_grid_any x y _ (fitV gw gh L x y) _ Rc.out HL3.out (S.below HW.out)).mono ?_
    rintro e w6 ⟨rfl, hb6⟩
    rw [decide_eq_true HR3.out]
    have Rv := Lib.hid (Rv.out.below hb6)
    have G0 := Lib.hid (carry hb6 G0.out)
    have Rc := Lib.hid (Rc.out.below hb6)
    have Gc := Lib.hid (carry hb6 Gc.out)
    have HW := Lib.hid (HW.out.trans (hb6.mono HW.out.size))
    clear hb6
    go_wp2_with fail
    refine (new_any x y _ (T.below HW.out)).mono ?_
    rintro e w7 ⟨h7, hb7⟩
    obtain ⟨g7, cap7, rfl, hcap7, hr7⟩ := (h7.is HC3.out).op (n := N4) hN4
    have Rv := Lib.hid (Rv.out.below hb7)
    have G0 := Lib.hid (carry hb7 G0.out)
    have Rc := Lib.hid (Rc.out.below hb7)
    have Gc := Lib.hid (carry hb7 Gc.out)
    have HW := Lib.hid (HW.out.trans (hb7.mono HW.out.size))
    clear hb7
    have Rd := Lib.hid hr7
    clear hr7
    have Rv := Lib.hid (Rv.out.alloc (.cells #[.int .i64 x, .int .i64 y, .slice (some ⟨g7, 0, none⟩) N4 cap7] 24))
    have G0 := Lib.hid (carryA (.cells #[.int .i64 x, .int .i64 y, .slice (some ⟨g7, 0, none⟩) N4 cap7] 24) G0.out)
    have Rc := Lib.hid (Rc.out.alloc (.cells #[.int .i64 x, .int .i64 y, .slice (some ⟨g7, 0, none⟩) N4 cap7] 24))
    have Gc := Lib.hid (carryA (.cells #[.int .i64 x, .int .i64 y, .slice (some ⟨g7, 0, none⟩) N4 cap7] 24) Gc.out)
    have Rd := Lib.hid (Rd.out.alloc (.cells #[.int .i64 x, .int .i64 y, .slice (some ⟨g7, 0, none⟩) N4 cap7] 24))
    have HW := Lib.hid (HW.out.alloc HW.out.size (.cells #[.int .i64 x, .int .i64 y, .slice (some ⟨g7, 0, none⟩) N4 cap7] 24))
    have Gdd := Lib.hid (heap_alloc_new w7 (.cells #[.int .i64 x, .int .i64 y, .slice (some ⟨g7, 0, none⟩) N4 cap7] 24))
    go_wp2_with fail
    refine (gridded_any _ (S.below HW.out) (T.below HW.out)).mono ?_
    rintro e w8 ⟨rfl, hb8⟩
    have Rv := Lib.hid (Rv.out.below hb8)
    have G0 := Lib.hid (carry hb8 G0.out)
    have Rc := Lib.hid (Rc.out.below hb8)
    have Gc := Lib.hid (carry hb8 Gc.out)
    have Rd := Lib.hid (Rd.out.below hb8)
    have Gdd := Lib.hid (carry hb8 Gdd.out)
    have HW := Lib.hid (HW.out.trans (hb8.mono HW.out.size))
    clear hb8
    obtain ⟨G0a, G0b, G0c, G0d, G0e, G0f, G0l⟩ := blk3 G0.out
    go_wp2_with fail
    clear G0a G0b G0c G0d G0e G0f G0l
    refine (is_grid_any gw gh _ L _ Rv.out hm (S.below HW.out)).mono ?_
    rintro e w9 ⟨rfl, hb9⟩
    rw [decide_eq_true HR.out]
    have Rv := Lib.hid (Rv.out.below hb9)
    have G0 := Lib.hid (carry hb9 G0.out)
    have Rc := Lib.hid (Rc.out.below hb9)
    have Gc := Lib.hid (carry hb9 Gc.out)
    have Rd := Lib.hid (Rd.out.below hb9)
    have Gdd := Lib.hid (carry hb9 Gdd.out)
    have HW := Lib.hid (HW.out.trans (hb9.mono HW.out.size))
    clear hb9
    obtain ⟨G0a, G0b, G0c, G0d, G0e, G0f, G0l⟩ := blk3 G0.out
    go_wp2_with fail
    clear G0a G0b G0c G0d G0e G0f G0l
    refine (scroll_any gw gh _ L _ Rv.out hcp hm (S.below HW.out) (T.below HW.out)).mono ?_
    rintro e w10 ⟨h10, hb10⟩
    unfold ScrollTold at h10
    rw [if_pos HR.out] at h10
    obtain ⟨v10, rfl, ho10⟩ := h10
    have Rs := Lib.hid ho10.rw
    have Rv := Lib.hid (Rv.out.below hb10)
    have G0 := Lib.hid (carry hb10 G0.out)
    have Rc := Lib.hid (Rc.out.below hb10)
    have Gc := Lib.hid (carry hb10 Gc.out)
    have Rd := Lib.hid (Rd.out.below hb10)
    have Gdd := Lib.hid (carry hb10 Gdd.out)
    have HW := Lib.hid (HW.out.trans (hb10.mono HW.out.size))
    clear hb10
    go_wp2_with fail
    refine (is_grid_any gw gh _ (scrollL gw.toNat L) _ Rs.out (by rw [scrollL_len]; exact hm) (S.below HW.out)).mono ?_
    rintro e w11 ⟨rfl, hb11⟩
    rw [decide_eq_true (scrollL_right HR.out)]
    have Rv := Lib.hid (Rv.out.below hb11)
    have G0 := Lib.hid (carry hb11 G0.out)
    have Rc := Lib.hid (Rc.out.below hb11)
    have Gc := Lib.hid (carry hb11 Gc.out)
    have Rd := Lib.hid (Rd.out.below hb11)
    have Gdd := Lib.hid (carry hb11 Gdd.out)
    have Rs := Lib.hid (Rs.out.below hb11)
    have HW := Lib.hid (HW.out.trans (hb11.mono HW.out.size))
    clear hb11
    obtain ⟨Gdda, Gddb, Gddc, Gddd, Gdde, Gddf, Gddl⟩ := blk3 Gdd.out
    go_wp2_with fail
    clear Gdda Gddb Gddc Gddd Gdde Gddf Gddl
    refine (is_grid_any x y _ (newL x y) _ Rd.out HL4.out (S.below HW.out)).mono ?_
    rintro e w12 ⟨rfl, hb12⟩
    rw [decide_eq_true HR4.out]
    have Rv := Lib.hid (Rv.out.below hb12)
    have G0 := Lib.hid (carry hb12 G0.out)
    have Rc := Lib.hid (Rc.out.below hb12)
    have Gc := Lib.hid (carry hb12 Gc.out)
    have Rd := Lib.hid (Rd.out.below hb12)
    have Gdd := Lib.hid (carry hb12 Gdd.out)
    have Rs := Lib.hid (Rs.out.below hb12)
    have HW := Lib.hid (HW.out.trans (hb12.mono HW.out.size))
    clear hb12
    go_wp2
    go_ret
    exact ⟨rfl, HW.out⟩
  ·
    obtain ⟨N2, hN2⟩ : ∃ N, (blankL gw L x y).length = N := ⟨_, rfl⟩
    have HL2 := Lib.hid (show (blankL gw L x y).length ≤ maxLen by rw [blankL_len hc2]; exact hm)
    have HR2 := Lib.hid (blankL_right hc2)
    have hc3f := HFB.out
    rw [hc3] at hc3f
    have HC3 := Lib.hid hc3
    have HC3F := Lib.hid hc3f
    have HC1 := Lib.hid hc1
    have HC2 := Lib.hid hc2
    clear hc1 hc2 hc3 hc3f
    go_enter Tryd.func7, Tryd.ntmps7
    go_wp2_with fail
    refine (big_any gw gh _ L _ Rv.out).mono ?_
    rintro e w1 ⟨rfl, hb1⟩
    rw [decide_eq_false hbig]
    have Rv := Lib.hid (Rv.out.below hb1)
    have G0 := Lib.hid (carry hb1 G0.out)
    have HW := Lib.hid (HW.out.trans (hb1.mono HW.out.size))
    clear hb1
    obtain ⟨G0a, G0b, G0c, G0d, G0e, G0f, G0l⟩ := blk3 G0.out
    go_wp2_with fail
    clear G0a G0b G0c G0d G0e G0f G0l
    refine (is_grid_any gw gh _ L _ Rv.out hm (S.below HW.out)).mono ?_
    rintro e w2 ⟨rfl, hb2⟩
    rw [decide_eq_true HR.out]
    have Rv := Lib.hid (Rv.out.below hb2)
    have G0 := Lib.hid (carry hb2 G0.out)
    have HW := Lib.hid (HW.out.trans (hb2.mono HW.out.size))
    clear hb2
    obtain ⟨G0a, G0b, G0c, G0d, G0e, G0f, G0l⟩ := blk3 G0.out
    go_wp2_with fail
    clear G0a G0b G0c G0d G0e G0f G0l
    refine (put_any gw gh x y r _ L _ Rv.out hm (S.below HW.out) (T.below HW.out)).mono ?_
    rintro e w3 ⟨h3, hb3⟩
    obtain rfl := h3.isnt HC1.out
    have Rv := Lib.hid (Rv.out.below hb3)
    have G0 := Lib.hid (carry hb3 G0.out)
    have HW := Lib.hid (HW.out.trans (hb3.mono HW.out.size))
    clear hb3
    obtain ⟨G0a, G0b, G0c, G0d, G0e, G0f, G0l⟩ := blk3 G0.out
    have Rv := Lib.hid (Rv.out.alloc (.cells #[.int .i64 0, .int .i64 0, .slice none 0 0] 24))
    have G0 := Lib.hid (carryA (.cells #[.int .i64 0, .int .i64 0, .slice none 0 0] 24) G0.out)
    have HW := Lib.hid (HW.out.alloc HW.out.size (.cells #[.int .i64 0, .int .i64 0, .slice none 0 0] 24))
    go_wp2_with fail
    clear G0a G0b G0c G0d G0e G0f G0l
    refine (blank_any gw gh x y _ L _ Rv.out hm (S.below HW.out) (T.below HW.out)).mono ?_
    rintro e w4 ⟨h4, hb4⟩
    obtain ⟨g4, cap4, rfl, hcap4, hr4⟩ := (h4.is HC2.out).op (n := N2) hN2
    have Rv := Lib.hid (Rv.out.below hb4)
    have G0 := Lib.hid (carry hb4 G0.out)
    have HW := Lib.hid (HW.out.trans (hb4.mono HW.out.size))
    clear hb4
    obtain ⟨G0a, G0b, G0c, G0d, G0e, G0f, G0l⟩ := blk3 G0.out
    have Rb := Lib.hid hr4
    clear hr4
    have Rv := Lib.hid (Rv.out.alloc (.cells #[.int .i64 gw, .int .i64 gh, .slice (some ⟨g4, 0, none⟩) N2 cap4] 24))
    have G0 := Lib.hid (carryA (.cells #[.int .i64 gw, .int .i64 gh, .slice (some ⟨g4, 0, none⟩) N2 cap4] 24) G0.out)
    have Rb := Lib.hid (Rb.out.alloc (.cells #[.int .i64 gw, .int .i64 gh, .slice (some ⟨g4, 0, none⟩) N2 cap4] 24))
    have HW := Lib.hid (HW.out.alloc HW.out.size (.cells #[.int .i64 gw, .int .i64 gh, .slice (some ⟨g4, 0, none⟩) N2 cap4] 24))
    have Gb := Lib.hid (heap_alloc_new w4 (.cells #[.int .i64 gw, .int .i64 gh, .slice (some ⟨g4, 0, none⟩) N2 cap4] 24))
    go_wp2_with fail
    clear G0a G0b G0c G0d G0e G0f G0l
    refine (fit_any gw gh x y _ L _ Rv.out hcp hm (S.below HW.out) (T.below HW.out)).mono ?_
    rintro e w5 ⟨h5, hb5⟩
    obtain rfl := h5.isnt HC3F.out
    have Rv := Lib.hid (Rv.out.below hb5)
    have G0 := Lib.hid (carry hb5 G0.out)
    have Rb := Lib.hid (Rb.out.below hb5)
    have Gb := Lib.hid (carry hb5 Gb.out)
    have HW := Lib.hid (HW.out.trans (hb5.mono HW.out.size))
    clear hb5
    obtain ⟨Gba, Gbb, Gbc, Gbd, Gbe, Gbf, Gbl⟩ := blk3 Gb.out
    have Rv := Lib.hid (Rv.out.alloc (.cells #[.int .i64 0, .int .i64 0, .slice none 0 0] 24))
    have G0 := Lib.hid (carryA (.cells #[.int .i64 0, .int .i64 0, .slice none 0 0] 24) G0.out)
    have Rb := Lib.hid (Rb.out.alloc (.cells #[.int .i64 0, .int .i64 0, .slice none 0 0] 24))
    have Gb := Lib.hid (carryA (.cells #[.int .i64 0, .int .i64 0, .slice none 0 0] 24) Gb.out)
    have HW := Lib.hid (HW.out.alloc HW.out.size (.cells #[.int .i64 0, .int .i64 0, .slice none 0 0] 24))
    try rw [HFE.out]
    go_wp2_with fail
    clear Gba Gbb Gbc Gbd Gbe Gbf Gbl
    refine (is_grid_any gw gh _ (blankL gw L x y) _ Rb.out HL2.out (S.below HW.out)).mono ?_
    rintro e w6 ⟨rfl, hb6⟩
    rw [decide_eq_true HR2.out]
    have Rv := Lib.hid (Rv.out.below hb6)
    have G0 := Lib.hid (carry hb6 G0.out)
    have Rb := Lib.hid (Rb.out.below hb6)
    have Gb := Lib.hid (carry hb6 Gb.out)
    have HW := Lib.hid (HW.out.trans (hb6.mono HW.out.size))
    clear hb6
    go_wp2_with fail
    refine (new_any x y _ (T.below HW.out)).mono ?_
    rintro e w7 ⟨h7, hb7⟩
    obtain rfl := h7.isnt HC3.out
    have Rv := Lib.hid (Rv.out.below hb7)
    have G0 := Lib.hid (carry hb7 G0.out)
    have Rb := Lib.hid (Rb.out.below hb7)
    have Gb := Lib.hid (carry hb7 Gb.out)
    have HW := Lib.hid (HW.out.trans (hb7.mono HW.out.size))
    clear hb7
    have Rv := Lib.hid (Rv.out.alloc (.cells #[.int .i64 0, .int .i64 0, .slice none 0 0] 24))
    have G0 := Lib.hid (carryA (.cells #[.int .i64 0, .int .i64 0, .slice none 0 0] 24) G0.out)
    have Rb := Lib.hid (Rb.out.alloc (.cells #[.int .i64 0, .int .i64 0, .slice none 0 0] 24))
    have Gb := Lib.hid (carryA (.cells #[.int .i64 0, .int .i64 0, .slice none 0 0] 24) Gb.out)
    have HW := Lib.hid (HW.out.alloc HW.out.size (.cells #[.int .i64 0, .int .i64 0, .slice none 0 0] 24))
    go_wp2_with fail
    refine (gridded_any _ (S.below HW.out) (T.below HW.out)).mono ?_
    rintro e w8 ⟨rfl, hb8⟩
    have Rv := Lib.hid (Rv.out.below hb8)
    have G0 := Lib.hid (carry hb8 G0.out)
    have Rb := Lib.hid (Rb.out.below hb8)
    have Gb := Lib.hid (carry hb8 Gb.out)
    have HW := Lib.hid (HW.out.trans (hb8.mono HW.out.size))
    clear hb8
    obtain ⟨G0a, G0b, G0c, G0d, G0e, G0f, G0l⟩ := blk3 G0.out
    go_wp2_with fail
    clear G0a G0b G0c G0d G0e G0f G0l
    refine (is_grid_any gw gh _ L _ Rv.out hm (S.below HW.out)).mono ?_
    rintro e w9 ⟨rfl, hb9⟩
    rw [decide_eq_true HR.out]
    have Rv := Lib.hid (Rv.out.below hb9)
    have G0 := Lib.hid (carry hb9 G0.out)
    have Rb := Lib.hid (Rb.out.below hb9)
    have Gb := Lib.hid (carry hb9 Gb.out)
    have HW := Lib.hid (HW.out.trans (hb9.mono HW.out.size))
    clear hb9
    obtain ⟨G0a, G0b, G0c, G0d, G0e, G0f, G0l⟩ := blk3 G0.out
    go_wp2_with fail
    clear G0a G0b G0c G0d G0e G0f G0l
    refine (scroll_any gw gh _ L _ Rv.out hcp hm (S.below HW.out) (T.below HW.out)).mono ?_
    rintro e w10 ⟨h10, hb10⟩
    unfold ScrollTold at h10
    rw [if_pos HR.out] at h10
    obtain ⟨v10, rfl, ho10⟩ := h10
    have Rs := Lib.hid ho10.rw
    have Rv := Lib.hid (Rv.out.below hb10)
    have G0 := Lib.hid (carry hb10 G0.out)
    have Rb := Lib.hid (Rb.out.below hb10)
    have Gb := Lib.hid (carry hb10 Gb.out)
    have HW := Lib.hid (HW.out.trans (hb10.mono HW.out.size))
    clear hb10
    go_wp2_with fail
    refine (is_grid_any gw gh _ (scrollL gw.toNat L) _ Rs.out (by rw [scrollL_len]; exact hm) (S.below HW.out)).mono ?_
    rintro e w11 ⟨rfl, hb11⟩
    rw [decide_eq_true (scrollL_right HR.out)]
    have Rv := Lib.hid (Rv.out.below hb11)
    have G0 := Lib.hid (carry hb11 G0.out)
    have Rb := Lib.hid (Rb.out.below hb11)
    have Gb := Lib.hid (carry hb11 Gb.out)
    have Rs := Lib.hid (Rs.out.below hb11)
    have HW := Lib.hid (HW.out.trans (hb11.mono HW.out.size))
    clear hb11
    go_wp2
    go_ret
    exact ⟨rfl, HW.out⟩
  ·
    obtain ⟨N2, hN2⟩ : ∃ N, (blankL gw L x y).length = N := ⟨_, rfl⟩
    have HL2 := Lib.hid (show (blankL gw L x y).length ≤ maxLen by rw [blankL_len hc2]; exact hm)
    have HR2 := Lib.hid (blankL_right hc2)
    have hc3f := HFB.out
    rw [hc3] at hc3f
    have HC3 := Lib.hid hc3
    have HC3F := Lib.hid hc3f
    have HC1 := Lib.hid hc1
    have HC2 := Lib.hid hc2
    obtain ⟨N3, hN3⟩ : ∃ N, (fitV gw gh L x y).length = N := ⟨_, rfl⟩
    have HL3 := Lib.hid (show (fitV gw gh L x y).length ≤ maxLen by have := fitV_len hc3f; unfold maxLen; omega)
    have HR3 := Lib.hid (fitV_right hc3f)
    obtain ⟨N4, hN4⟩ : ∃ N, (newL x y).length = N := ⟨_, rfl⟩
    have HL4 := Lib.hid (show (newL x y).length ≤ maxLen by obtain ⟨w', h', rfl, rfl, _, g80, _, g24⟩ := sides_of hc3; unfold newL maxLen; rw [List.length_replicate]; simp only [Int.toNat_natCast]; have := Nat.mul_le_mul g80 g24; omega)
    have HR4 := Lib.hid (newL_right hc3)
    clear hc1 hc2 hc3 hc3f
    go_enter Tryd.func7, Tryd.ntmps7
    go_wp2_with fail
    refine (big_any gw gh _ L _ Rv.out).mono ?_
    rintro e w1 ⟨rfl, hb1⟩
    rw [decide_eq_false hbig]
    have Rv := Lib.hid (Rv.out.below hb1)
    have G0 := Lib.hid (carry hb1 G0.out)
    have HW := Lib.hid (HW.out.trans (hb1.mono HW.out.size))
    clear hb1
    obtain ⟨G0a, G0b, G0c, G0d, G0e, G0f, G0l⟩ := blk3 G0.out
    go_wp2_with fail
    clear G0a G0b G0c G0d G0e G0f G0l
    refine (is_grid_any gw gh _ L _ Rv.out hm (S.below HW.out)).mono ?_
    rintro e w2 ⟨rfl, hb2⟩
    rw [decide_eq_true HR.out]
    have Rv := Lib.hid (Rv.out.below hb2)
    have G0 := Lib.hid (carry hb2 G0.out)
    have HW := Lib.hid (HW.out.trans (hb2.mono HW.out.size))
    clear hb2
    obtain ⟨G0a, G0b, G0c, G0d, G0e, G0f, G0l⟩ := blk3 G0.out
    go_wp2_with fail
    clear G0a G0b G0c G0d G0e G0f G0l
    refine (put_any gw gh x y r _ L _ Rv.out hm (S.below HW.out) (T.below HW.out)).mono ?_
    rintro e w3 ⟨h3, hb3⟩
    obtain rfl := h3.isnt HC1.out
    have Rv := Lib.hid (Rv.out.below hb3)
    have G0 := Lib.hid (carry hb3 G0.out)
    have HW := Lib.hid (HW.out.trans (hb3.mono HW.out.size))
    clear hb3
    obtain ⟨G0a, G0b, G0c, G0d, G0e, G0f, G0l⟩ := blk3 G0.out
    have Rv := Lib.hid (Rv.out.alloc (.cells #[.int .i64 0, .int .i64 0, .slice none 0 0] 24))
    have G0 := Lib.hid (carryA (.cells #[.int .i64 0, .int .i64 0, .slice none 0 0] 24) G0.out)
    have HW := Lib.hid (HW.out.alloc HW.out.size (.cells #[.int .i64 0, .int .i64 0, .slice none 0 0] 24))
    go_wp2_with fail
    clear G0a G0b G0c G0d G0e G0f G0l
    refine (blank_any gw gh x y _ L _ Rv.out hm (S.below HW.out) (T.below HW.out)).mono ?_
    rintro e w4 ⟨h4, hb4⟩
    obtain ⟨g4, cap4, rfl, hcap4, hr4⟩ := (h4.is HC2.out).op (n := N2) hN2
    have Rv := Lib.hid (Rv.out.below hb4)
    have G0 := Lib.hid (carry hb4 G0.out)
    have HW := Lib.hid (HW.out.trans (hb4.mono HW.out.size))
    clear hb4
    obtain ⟨G0a, G0b, G0c, G0d, G0e, G0f, G0l⟩ := blk3 G0.out
    have Rb := Lib.hid hr4
    clear hr4
    have Rv := Lib.hid (Rv.out.alloc (.cells #[.int .i64 gw, .int .i64 gh, .slice (some ⟨g4, 0, none⟩) N2 cap4] 24))
    have G0 := Lib.hid (carryA (.cells #[.int .i64 gw, .int .i64 gh, .slice (some ⟨g4, 0, none⟩) N2 cap4] 24) G0.out)
    have Rb := Lib.hid (Rb.out.alloc (.cells #[.int .i64 gw, .int .i64 gh, .slice (some ⟨g4, 0, none⟩) N2 cap4] 24))
    have HW := Lib.hid (HW.out.alloc HW.out.size (.cells #[.int .i64 gw, .int .i64 gh, .slice (some ⟨g4, 0, none⟩) N2 cap4] 24))
    have Gb := Lib.hid (heap_alloc_new w4 (.cells #[.int .i64 gw, .int .i64 gh, .slice (some ⟨g4, 0, none⟩) N2 cap4] 24))
    go_wp2_with fail
    clear G0a G0b G0c G0d G0e G0f G0l
    refine (fit_any gw gh x y _ L _ Rv.out hcp hm (S.below HW.out) (T.below HW.out)).mono ?_
    rintro e w5 ⟨h5, hb5⟩
    obtain ⟨g5, cap5, rfl, hcap5, hr5⟩ := (h5.is HC3F.out).op (n := N3) hN3
    have Rv := Lib.hid (Rv.out.below hb5)
    have G0 := Lib.hid (carry hb5 G0.out)
    have Rb := Lib.hid (Rb.out.below hb5)
    have Gb := Lib.hid (carry hb5 Gb.out)
    have HW := Lib.hid (HW.out.trans (hb5.mono HW.out.size))
    clear hb5
    obtain ⟨Gba, Gbb, Gbc, Gbd, Gbe, Gbf, Gbl⟩ := blk3 Gb.out
    have Rc := Lib.hid hr5
    clear hr5
    have Rv := Lib.hid (Rv.out.alloc (.cells #[.int .i64 x, .int .i64 y, .slice (some ⟨g5, 0, none⟩) N3 cap5] 24))
    have G0 := Lib.hid (carryA (.cells #[.int .i64 x, .int .i64 y, .slice (some ⟨g5, 0, none⟩) N3 cap5] 24) G0.out)
    have Rb := Lib.hid (Rb.out.alloc (.cells #[.int .i64 x, .int .i64 y, .slice (some ⟨g5, 0, none⟩) N3 cap5] 24))
    have Gb := Lib.hid (carryA (.cells #[.int .i64 x, .int .i64 y, .slice (some ⟨g5, 0, none⟩) N3 cap5] 24) Gb.out)
    have Rc := Lib.hid (Rc.out.alloc (.cells #[.int .i64 x, .int .i64 y, .slice (some ⟨g5, 0, none⟩) N3 cap5] 24))
    have HW := Lib.hid (HW.out.alloc HW.out.size (.cells #[.int .i64 x, .int .i64 y, .slice (some ⟨g5, 0, none⟩) N3 cap5] 24))
    have Gc := Lib.hid (heap_alloc_new w5 (.cells #[.int .i64 x, .int .i64 y, .slice (some ⟨g5, 0, none⟩) N3 cap5] 24))
    go_wp2_with fail
    clear Gba Gbb Gbc Gbd Gbe Gbf Gbl
    refine (is_grid_any gw gh _ (blankL gw L x y) _ Rb.out HL2.out (S.below HW.out)).mono ?_
    rintro e w6 ⟨rfl, hb6⟩
    rw [decide_eq_true HR2.out]
    have Rv := Lib.hid (Rv.out.below hb6)
    have G0 := Lib.hid (carry hb6 G0.out)
    have Rb := Lib.hid (Rb.out.below hb6)
    have Gb := Lib.hid (carry hb6 Gb.out)
    have Rc := Lib.hid (Rc.out.below hb6)
    have Gc := Lib.hid (carry hb6 Gc.out)
    have HW := Lib.hid (HW.out.trans (hb6.mono HW.out.size))
    clear hb6
    obtain ⟨Gca, Gcb, Gcc, Gcd, Gce, Gcf, Gcl⟩ := blk3 Gc.out
    go_wp2_with fail
    clear Gca Gcb Gcc Gcd Gce Gcf Gcl
    refine (is_grid_any x y _ (fitV gw gh L x y) _ Rc.out HL3.out (S.below HW.out)).mono ?_
    rintro e w7 ⟨rfl, hb7⟩
    rw [decide_eq_true HR3.out]
    have Rv := Lib.hid (Rv.out.below hb7)
    have G0 := Lib.hid (carry hb7 G0.out)
    have Rb := Lib.hid (Rb.out.below hb7)
    have Gb := Lib.hid (carry hb7 Gb.out)
    have Rc := Lib.hid (Rc.out.below hb7)
    have Gc := Lib.hid (carry hb7 Gc.out)
    have HW := Lib.hid (HW.out.trans (hb7.mono HW.out.size))
    clear hb7
    go_wp2_with fail
    refine (new_any x y _ (T.below HW.out)).mono ?_
    rintro e w8 ⟨h8, hb8⟩
    obtain ⟨g8, cap8, rfl, hcap8, hr8⟩ := (h8.is HC3.out).op (n := N4) hN4
    have Rv := Lib.hid (Rv.out.below hb8)
    have G0 := Lib.hid (carry hb8 G0.out)
    have Rb := Lib.hid (Rb.out.below hb8)
    have Gb := Lib.hid (carry hb8 Gb.out)
    have Rc := Lib.hid (Rc.out.below hb8)
    have Gc := Lib.hid (carry hb8 Gc.out)
    have HW := Lib.hid (HW.out.trans (hb8.mono HW.out.size))
    clear hb8
    have Rd := Lib.hid hr8
    clear hr8
    have Rv := Lib.hid (Rv.out.alloc (.cells #[.int .i64 x, .int .i64 y, .slice (some ⟨g8, 0, none⟩) N4 cap8] 24))
    have G0 := Lib.hid (carryA (.cells #[.int .i64 x, .int .i64 y, .slice (some ⟨g8, 0, none⟩) N4 cap8] 24) G0.out)
    have Rb := Lib.hid (Rb.out.alloc (.cells #[.int .i64 x, .int .i64 y, .slice (some ⟨g8, 0, none⟩) N4 cap8] 24))
    have Gb := Lib.hid (carryA (.cells #[.int .i64 x, .int .i64 y, .slice (some ⟨g8, 0, none⟩) N4 cap8] 24) Gb.out)
    have Rc := Lib.hid (Rc.out.alloc (.cells #[.int .i64 x, .int .i64 y, .slice (some ⟨g8, 0, none⟩) N4 cap8] 24))
    have Gc := Lib.hid (carryA (.cells #[.int .i64 x, .int .i64 y, .slice (some ⟨g8, 0, none⟩) N4 cap8] 24) Gc.out)
    have Rd := Lib.hid (Rd.out.alloc (.cells #[.int .i64 x, .int .i64 y, .slice (some ⟨g8, 0, none⟩) N4 cap8] 24))
    have HW := Lib.hid (HW.out.alloc HW.out.size (.cells #[.int .i64 x, .int .i64 y, .slice (some ⟨g8, 0, none⟩) N4 cap8] 24))
    have Gdd := Lib.hid (heap_alloc_new w8 (.cells #[.int .i64 x, .int .i64 y, .slice (some ⟨g8, 0, none⟩) N4 cap8] 24))
    go_wp2_with fail
    refine (gridded_any _ (S.below HW.out) (T.below HW.out)).mono ?_
    rintro e w9 ⟨rfl, hb9⟩
    have Rv := Lib.hid (Rv.out.below hb9)
    have G0 := Lib.hid (carry hb9 G0.out)
    have Rb := Lib.hid (Rb.out.below hb9)
    have Gb := Lib.hid (carry hb9 Gb.out)
    have Rc := Lib.hid (Rc.out.below hb9)
    have Gc := Lib.hid (carry hb9 Gc.out)
    have Rd := Lib.hid (Rd.out.below hb9)
    have Gdd := Lib.hid (carry hb9 Gdd.out)
    have HW := Lib.hid (HW.out.trans (hb9.mono HW.out.size))
    clear hb9
    obtain ⟨G0a, G0b, G0c, G0d, G0e, G0f, G0l⟩ := blk3 G0.out
    go_wp2_with fail
    clear G0a G0b G0c G0d G0e G0f G0l
    refine (is_grid_any gw gh _ L _ Rv.out hm (S.below HW.out)).mono ?_
    rintro e w10 ⟨rfl, hb10⟩
    rw [decide_eq_true HR.out]
    have Rv := Lib.hid (Rv.out.below hb10)
    have G0 := Lib.hid (carry hb10 G0.out)
    have Rb := Lib.hid (Rb.out.below hb10)
    have Gb := Lib.hid (carry hb10 Gb.out)
    have Rc := Lib.hid (Rc.out.below hb10)
    have Gc := Lib.hid (carry hb10 Gc.out)
    have Rd := Lib.hid (Rd.out.below hb10)
    have Gdd := Lib.hid (carry hb10 Gdd.out)
    have HW := Lib.hid (HW.out.trans (hb10.mono HW.out.size))
    clear hb10
    obtain ⟨G0a, G0b, G0c, G0d, G0e, G0f, G0l⟩ := blk3 G0.out
    go_wp2_with fail
    clear G0a G0b G0c G0d G0e G0f G0l
    refine (scroll_any gw gh _ L _ Rv.out hcp hm (S.below HW.out) (T.below HW.out)).mono ?_
    rintro e w11 ⟨h11, hb11⟩
    unfold ScrollTold at h11
    rw [if_pos HR.out] at h11
    obtain ⟨v11, rfl, ho11⟩ := h11
    have Rs := Lib.hid ho11.rw
    have Rv := Lib.hid (Rv.out.below hb11)
    have G0 := Lib.hid (carry hb11 G0.out)
    have Rb := Lib.hid (Rb.out.below hb11)
    have Gb := Lib.hid (carry hb11 Gb.out)
    have Rc := Lib.hid (Rc.out.below hb11)
    have Gc := Lib.hid (carry hb11 Gc.out)
    have Rd := Lib.hid (Rd.out.below hb11)
    have Gdd := Lib.hid (carry hb11 Gdd.out)
    have HW := Lib.hid (HW.out.trans (hb11.mono HW.out.size))
    clear hb11
    go_wp2_with fail
    refine (is_grid_any gw gh _ (scrollL gw.toNat L) _ Rs.out (by rw [scrollL_len]; exact hm) (S.below HW.out)).mono ?_
    rintro e w12 ⟨rfl, hb12⟩
    rw [decide_eq_true (scrollL_right HR.out)]
    have Rv := Lib.hid (Rv.out.below hb12)
    have G0 := Lib.hid (carry hb12 G0.out)
    have Rb := Lib.hid (Rb.out.below hb12)
    have Gb := Lib.hid (carry hb12 Gb.out)
    have Rc := Lib.hid (Rc.out.below hb12)
    have Gc := Lib.hid (carry hb12 Gc.out)
    have Rd := Lib.hid (Rd.out.below hb12)
    have Gdd := Lib.hid (carry hb12 Gdd.out)
    have Rs := Lib.hid (Rs.out.below hb12)
    have HW := Lib.hid (HW.out.trans (hb12.mono HW.out.size))
    clear hb12
    obtain ⟨Gdda, Gddb, Gddc, Gddd, Gdde, Gddf, Gddl⟩ := blk3 Gdd.out
    go_wp2_with fail
    clear Gdda Gddb Gddc Gddd Gdde Gddf Gddl
    refine (is_grid_any x y _ (newL x y) _ Rd.out HL4.out (S.below HW.out)).mono ?_
    rintro e w13 ⟨rfl, hb13⟩
    rw [decide_eq_true HR4.out]
    have Rv := Lib.hid (Rv.out.below hb13)
    have G0 := Lib.hid (carry hb13 G0.out)
    have Rb := Lib.hid (Rb.out.below hb13)
    have Gb := Lib.hid (carry hb13 Gb.out)
    have Rc := Lib.hid (Rc.out.below hb13)
    have Gc := Lib.hid (carry hb13 Gc.out)
    have Rd := Lib.hid (Rd.out.below hb13)
    have Gdd := Lib.hid (carry hb13 Gdd.out)
    have Rs := Lib.hid (Rs.out.below hb13)
    have HW := Lib.hid (HW.out.trans (hb13.mono HW.out.size))
    clear hb13
    go_wp2
    go_ret
    exact ⟨rfl, HW.out⟩
  ·
    obtain ⟨N1, hN1⟩ : ∃ N, (putL gw L x y r).length = N := ⟨_, rfl⟩
    have HL1 := Lib.hid (show (putL gw L x y r).length ≤ maxLen by rw [putL_len hc1]; exact hm)
    have HR1 := Lib.hid (putL_right hc1)
    have hc3f := HFB.out
    rw [hc3] at hc3f
    have HC3 := Lib.hid hc3
    have HC3F := Lib.hid hc3f
    have HC1 := Lib.hid hc1
    have HC2 := Lib.hid hc2
    clear hc1 hc2 hc3 hc3f
    go_enter Tryd.func7, Tryd.ntmps7
    go_wp2_with fail
    refine (big_any gw gh _ L _ Rv.out).mono ?_
    rintro e w1 ⟨rfl, hb1⟩
    rw [decide_eq_false hbig]
    have Rv := Lib.hid (Rv.out.below hb1)
    have G0 := Lib.hid (carry hb1 G0.out)
    have HW := Lib.hid (HW.out.trans (hb1.mono HW.out.size))
    clear hb1
    obtain ⟨G0a, G0b, G0c, G0d, G0e, G0f, G0l⟩ := blk3 G0.out
    go_wp2_with fail
    clear G0a G0b G0c G0d G0e G0f G0l
    refine (is_grid_any gw gh _ L _ Rv.out hm (S.below HW.out)).mono ?_
    rintro e w2 ⟨rfl, hb2⟩
    rw [decide_eq_true HR.out]
    have Rv := Lib.hid (Rv.out.below hb2)
    have G0 := Lib.hid (carry hb2 G0.out)
    have HW := Lib.hid (HW.out.trans (hb2.mono HW.out.size))
    clear hb2
    obtain ⟨G0a, G0b, G0c, G0d, G0e, G0f, G0l⟩ := blk3 G0.out
    go_wp2_with fail
    clear G0a G0b G0c G0d G0e G0f G0l
    refine (put_any gw gh x y r _ L _ Rv.out hm (S.below HW.out) (T.below HW.out)).mono ?_
    rintro e w3 ⟨h3, hb3⟩
    obtain ⟨g3, cap3, rfl, hcap3, hr3⟩ := (h3.is HC1.out).op (n := N1) hN1
    have Rv := Lib.hid (Rv.out.below hb3)
    have G0 := Lib.hid (carry hb3 G0.out)
    have HW := Lib.hid (HW.out.trans (hb3.mono HW.out.size))
    clear hb3
    obtain ⟨G0a, G0b, G0c, G0d, G0e, G0f, G0l⟩ := blk3 G0.out
    have Ra := Lib.hid hr3
    clear hr3
    have Rv := Lib.hid (Rv.out.alloc (.cells #[.int .i64 gw, .int .i64 gh, .slice (some ⟨g3, 0, none⟩) N1 cap3] 24))
    have G0 := Lib.hid (carryA (.cells #[.int .i64 gw, .int .i64 gh, .slice (some ⟨g3, 0, none⟩) N1 cap3] 24) G0.out)
    have Ra := Lib.hid (Ra.out.alloc (.cells #[.int .i64 gw, .int .i64 gh, .slice (some ⟨g3, 0, none⟩) N1 cap3] 24))
    have HW := Lib.hid (HW.out.alloc HW.out.size (.cells #[.int .i64 gw, .int .i64 gh, .slice (some ⟨g3, 0, none⟩) N1 cap3] 24))
    have Ga := Lib.hid (heap_alloc_new w3 (.cells #[.int .i64 gw, .int .i64 gh, .slice (some ⟨g3, 0, none⟩) N1 cap3] 24))
    go_wp2_with fail
    clear G0a G0b G0c G0d G0e G0f G0l
    refine (blank_any gw gh x y _ L _ Rv.out hm (S.below HW.out) (T.below HW.out)).mono ?_
    rintro e w4 ⟨h4, hb4⟩
    obtain rfl := h4.isnt HC2.out
    have Rv := Lib.hid (Rv.out.below hb4)
    have G0 := Lib.hid (carry hb4 G0.out)
    have Ra := Lib.hid (Ra.out.below hb4)
    have Ga := Lib.hid (carry hb4 Ga.out)
    have HW := Lib.hid (HW.out.trans (hb4.mono HW.out.size))
    clear hb4
    obtain ⟨G0a, G0b, G0c, G0d, G0e, G0f, G0l⟩ := blk3 G0.out
    have Rv := Lib.hid (Rv.out.alloc (.cells #[.int .i64 0, .int .i64 0, .slice none 0 0] 24))
    have G0 := Lib.hid (carryA (.cells #[.int .i64 0, .int .i64 0, .slice none 0 0] 24) G0.out)
    have Ra := Lib.hid (Ra.out.alloc (.cells #[.int .i64 0, .int .i64 0, .slice none 0 0] 24))
    have Ga := Lib.hid (carryA (.cells #[.int .i64 0, .int .i64 0, .slice none 0 0] 24) Ga.out)
    have HW := Lib.hid (HW.out.alloc HW.out.size (.cells #[.int .i64 0, .int .i64 0, .slice none 0 0] 24))
    go_wp2_with fail
    clear G0a G0b G0c G0d G0e G0f G0l
    refine (fit_any gw gh x y _ L _ Rv.out hcp hm (S.below HW.out) (T.below HW.out)).mono ?_
    rintro e w5 ⟨h5, hb5⟩
    obtain rfl := h5.isnt HC3F.out
    have Rv := Lib.hid (Rv.out.below hb5)
    have G0 := Lib.hid (carry hb5 G0.out)
    have Ra := Lib.hid (Ra.out.below hb5)
    have Ga := Lib.hid (carry hb5 Ga.out)
    have HW := Lib.hid (HW.out.trans (hb5.mono HW.out.size))
    clear hb5
    obtain ⟨Gaa, Gab, Gac, Gad, Gae, Gaf, Gal⟩ := blk3 Ga.out
    have Rv := Lib.hid (Rv.out.alloc (.cells #[.int .i64 0, .int .i64 0, .slice none 0 0] 24))
    have G0 := Lib.hid (carryA (.cells #[.int .i64 0, .int .i64 0, .slice none 0 0] 24) G0.out)
    have Ra := Lib.hid (Ra.out.alloc (.cells #[.int .i64 0, .int .i64 0, .slice none 0 0] 24))
    have Ga := Lib.hid (carryA (.cells #[.int .i64 0, .int .i64 0, .slice none 0 0] 24) Ga.out)
    have HW := Lib.hid (HW.out.alloc HW.out.size (.cells #[.int .i64 0, .int .i64 0, .slice none 0 0] 24))
    try rw [HFE.out]
    go_wp2_with fail
    clear Gaa Gab Gac Gad Gae Gaf Gal
    refine (is_grid_any gw gh _ (putL gw L x y r) _ Ra.out HL1.out (S.below HW.out)).mono ?_
    rintro e w6 ⟨rfl, hb6⟩
    rw [decide_eq_true HR1.out]
    have Rv := Lib.hid (Rv.out.below hb6)
    have G0 := Lib.hid (carry hb6 G0.out)
    have Ra := Lib.hid (Ra.out.below hb6)
    have Ga := Lib.hid (carry hb6 Ga.out)
    have HW := Lib.hid (HW.out.trans (hb6.mono HW.out.size))
    clear hb6
    go_wp2_with fail
    refine (new_any x y _ (T.below HW.out)).mono ?_
    rintro e w7 ⟨h7, hb7⟩
    obtain rfl := h7.isnt HC3.out
    have Rv := Lib.hid (Rv.out.below hb7)
    have G0 := Lib.hid (carry hb7 G0.out)
    have Ra := Lib.hid (Ra.out.below hb7)
    have Ga := Lib.hid (carry hb7 Ga.out)
    have HW := Lib.hid (HW.out.trans (hb7.mono HW.out.size))
    clear hb7
    have Rv := Lib.hid (Rv.out.alloc (.cells #[.int .i64 0, .int .i64 0, .slice none 0 0] 24))
    have G0 := Lib.hid (carryA (.cells #[.int .i64 0, .int .i64 0, .slice none 0 0] 24) G0.out)
    have Ra := Lib.hid (Ra.out.alloc (.cells #[.int .i64 0, .int .i64 0, .slice none 0 0] 24))
    have Ga := Lib.hid (carryA (.cells #[.int .i64 0, .int .i64 0, .slice none 0 0] 24) Ga.out)
    have HW := Lib.hid (HW.out.alloc HW.out.size (.cells #[.int .i64 0, .int .i64 0, .slice none 0 0] 24))
    go_wp2_with fail
    refine (gridded_any _ (S.below HW.out) (T.below HW.out)).mono ?_
    rintro e w8 ⟨rfl, hb8⟩
    have Rv := Lib.hid (Rv.out.below hb8)
    have G0 := Lib.hid (carry hb8 G0.out)
    have Ra := Lib.hid (Ra.out.below hb8)
    have Ga := Lib.hid (carry hb8 Ga.out)
    have HW := Lib.hid (HW.out.trans (hb8.mono HW.out.size))
    clear hb8
    obtain ⟨G0a, G0b, G0c, G0d, G0e, G0f, G0l⟩ := blk3 G0.out
    go_wp2_with fail
    clear G0a G0b G0c G0d G0e G0f G0l
    refine (is_grid_any gw gh _ L _ Rv.out hm (S.below HW.out)).mono ?_
    rintro e w9 ⟨rfl, hb9⟩
    rw [decide_eq_true HR.out]
    have Rv := Lib.hid (Rv.out.below hb9)
    have G0 := Lib.hid (carry hb9 G0.out)
    have Ra := Lib.hid (Ra.out.below hb9)
    have Ga := Lib.hid (carry hb9 Ga.out)
    have HW := Lib.hid (HW.out.trans (hb9.mono HW.out.size))
    clear hb9
    obtain ⟨G0a, G0b, G0c, G0d, G0e, G0f, G0l⟩ := blk3 G0.out
    go_wp2_with fail
    clear G0a G0b G0c G0d G0e G0f G0l
    refine (scroll_any gw gh _ L _ Rv.out hcp hm (S.below HW.out) (T.below HW.out)).mono ?_
    rintro e w10 ⟨h10, hb10⟩
    unfold ScrollTold at h10
    rw [if_pos HR.out] at h10
    obtain ⟨v10, rfl, ho10⟩ := h10
    have Rs := Lib.hid ho10.rw
    have Rv := Lib.hid (Rv.out.below hb10)
    have G0 := Lib.hid (carry hb10 G0.out)
    have Ra := Lib.hid (Ra.out.below hb10)
    have Ga := Lib.hid (carry hb10 Ga.out)
    have HW := Lib.hid (HW.out.trans (hb10.mono HW.out.size))
    clear hb10
    go_wp2_with fail
    refine (is_grid_any gw gh _ (scrollL gw.toNat L) _ Rs.out (by rw [scrollL_len]; exact hm) (S.below HW.out)).mono ?_
    rintro e w11 ⟨rfl, hb11⟩
    rw [decide_eq_true (scrollL_right HR.out)]
    have Rv := Lib.hid (Rv.out.below hb11)
    have G0 := Lib.hid (carry hb11 G0.out)
    have Ra := Lib.hid (Ra.out.below hb11)
    have Ga := Lib.hid (carry hb11 Ga.out)
    have Rs := Lib.hid (Rs.out.below hb11)
    have HW := Lib.hid (HW.out.trans (hb11.mono HW.out.size))
    clear hb11
    go_wp2
    go_ret
    exact ⟨rfl, HW.out⟩
  ·
    obtain ⟨N1, hN1⟩ : ∃ N, (putL gw L x y r).length = N := ⟨_, rfl⟩
    have HL1 := Lib.hid (show (putL gw L x y r).length ≤ maxLen by rw [putL_len hc1]; exact hm)
    have HR1 := Lib.hid (putL_right hc1)
    have hc3f := HFB.out
    rw [hc3] at hc3f
    have HC3 := Lib.hid hc3
    have HC3F := Lib.hid hc3f
    have HC1 := Lib.hid hc1
    have HC2 := Lib.hid hc2
    obtain ⟨N3, hN3⟩ : ∃ N, (fitV gw gh L x y).length = N := ⟨_, rfl⟩
    have HL3 := Lib.hid (show (fitV gw gh L x y).length ≤ maxLen by have := fitV_len hc3f; unfold maxLen; omega)
    have HR3 := Lib.hid (fitV_right hc3f)
    obtain ⟨N4, hN4⟩ : ∃ N, (newL x y).length = N := ⟨_, rfl⟩
    have HL4 := Lib.hid (show (newL x y).length ≤ maxLen by obtain ⟨w', h', rfl, rfl, _, g80, _, g24⟩ := sides_of hc3; unfold newL maxLen; rw [List.length_replicate]; simp only [Int.toNat_natCast]; have := Nat.mul_le_mul g80 g24; omega)
    have HR4 := Lib.hid (newL_right hc3)
    clear hc1 hc2 hc3 hc3f
    go_enter Tryd.func7, Tryd.ntmps7
    go_wp2_with fail
    refine (big_any gw gh _ L _ Rv.out).mono ?_
    rintro e w1 ⟨rfl, hb1⟩
    rw [decide_eq_false hbig]
    have Rv := Lib.hid (Rv.out.below hb1)
    have G0 := Lib.hid (carry hb1 G0.out)
    have HW := Lib.hid (HW.out.trans (hb1.mono HW.out.size))
    clear hb1
    obtain ⟨G0a, G0b, G0c, G0d, G0e, G0f, G0l⟩ := blk3 G0.out
    go_wp2_with fail
    clear G0a G0b G0c G0d G0e G0f G0l
    refine (is_grid_any gw gh _ L _ Rv.out hm (S.below HW.out)).mono ?_
    rintro e w2 ⟨rfl, hb2⟩
    rw [decide_eq_true HR.out]
    have Rv := Lib.hid (Rv.out.below hb2)
    have G0 := Lib.hid (carry hb2 G0.out)
    have HW := Lib.hid (HW.out.trans (hb2.mono HW.out.size))
    clear hb2
    obtain ⟨G0a, G0b, G0c, G0d, G0e, G0f, G0l⟩ := blk3 G0.out
    go_wp2_with fail
    clear G0a G0b G0c G0d G0e G0f G0l
    refine (put_any gw gh x y r _ L _ Rv.out hm (S.below HW.out) (T.below HW.out)).mono ?_
    rintro e w3 ⟨h3, hb3⟩
    obtain ⟨g3, cap3, rfl, hcap3, hr3⟩ := (h3.is HC1.out).op (n := N1) hN1
    have Rv := Lib.hid (Rv.out.below hb3)
    have G0 := Lib.hid (carry hb3 G0.out)
    have HW := Lib.hid (HW.out.trans (hb3.mono HW.out.size))
    clear hb3
    obtain ⟨G0a, G0b, G0c, G0d, G0e, G0f, G0l⟩ := blk3 G0.out
    have Ra := Lib.hid hr3
    clear hr3
    have Rv := Lib.hid (Rv.out.alloc (.cells #[.int .i64 gw, .int .i64 gh, .slice (some ⟨g3, 0, none⟩) N1 cap3] 24))
    have G0 := Lib.hid (carryA (.cells #[.int .i64 gw, .int .i64 gh, .slice (some ⟨g3, 0, none⟩) N1 cap3] 24) G0.out)
    have Ra := Lib.hid (Ra.out.alloc (.cells #[.int .i64 gw, .int .i64 gh, .slice (some ⟨g3, 0, none⟩) N1 cap3] 24))
    have HW := Lib.hid (HW.out.alloc HW.out.size (.cells #[.int .i64 gw, .int .i64 gh, .slice (some ⟨g3, 0, none⟩) N1 cap3] 24))
    have Ga := Lib.hid (heap_alloc_new w3 (.cells #[.int .i64 gw, .int .i64 gh, .slice (some ⟨g3, 0, none⟩) N1 cap3] 24))
    go_wp2_with fail
    clear G0a G0b G0c G0d G0e G0f G0l
    refine (blank_any gw gh x y _ L _ Rv.out hm (S.below HW.out) (T.below HW.out)).mono ?_
    rintro e w4 ⟨h4, hb4⟩
    obtain rfl := h4.isnt HC2.out
    have Rv := Lib.hid (Rv.out.below hb4)
    have G0 := Lib.hid (carry hb4 G0.out)
    have Ra := Lib.hid (Ra.out.below hb4)
    have Ga := Lib.hid (carry hb4 Ga.out)
    have HW := Lib.hid (HW.out.trans (hb4.mono HW.out.size))
    clear hb4
    obtain ⟨G0a, G0b, G0c, G0d, G0e, G0f, G0l⟩ := blk3 G0.out
    have Rv := Lib.hid (Rv.out.alloc (.cells #[.int .i64 0, .int .i64 0, .slice none 0 0] 24))
    have G0 := Lib.hid (carryA (.cells #[.int .i64 0, .int .i64 0, .slice none 0 0] 24) G0.out)
    have Ra := Lib.hid (Ra.out.alloc (.cells #[.int .i64 0, .int .i64 0, .slice none 0 0] 24))
    have Ga := Lib.hid (carryA (.cells #[.int .i64 0, .int .i64 0, .slice none 0 0] 24) Ga.out)
    have HW := Lib.hid (HW.out.alloc HW.out.size (.cells #[.int .i64 0, .int .i64 0, .slice none 0 0] 24))
    go_wp2_with fail
    clear G0a G0b G0c G0d G0e G0f G0l
    refine (fit_any gw gh x y _ L _ Rv.out hcp hm (S.below HW.out) (T.below HW.out)).mono ?_
    rintro e w5 ⟨h5, hb5⟩
    obtain ⟨g5, cap5, rfl, hcap5, hr5⟩ := (h5.is HC3F.out).op (n := N3) hN3
    have Rv := Lib.hid (Rv.out.below hb5)
    have G0 := Lib.hid (carry hb5 G0.out)
    have Ra := Lib.hid (Ra.out.below hb5)
    have Ga := Lib.hid (carry hb5 Ga.out)
    have HW := Lib.hid (HW.out.trans (hb5.mono HW.out.size))
    clear hb5
    obtain ⟨Gaa, Gab, Gac, Gad, Gae, Gaf, Gal⟩ := blk3 Ga.out
    have Rc := Lib.hid hr5
    clear hr5
    have Rv := Lib.hid (Rv.out.alloc (.cells #[.int .i64 x, .int .i64 y, .slice (some ⟨g5, 0, none⟩) N3 cap5] 24))
    have G0 := Lib.hid (carryA (.cells #[.int .i64 x, .int .i64 y, .slice (some ⟨g5, 0, none⟩) N3 cap5] 24) G0.out)
    have Ra := Lib.hid (Ra.out.alloc (.cells #[.int .i64 x, .int .i64 y, .slice (some ⟨g5, 0, none⟩) N3 cap5] 24))
    have Ga := Lib.hid (carryA (.cells #[.int .i64 x, .int .i64 y, .slice (some ⟨g5, 0, none⟩) N3 cap5] 24) Ga.out)
    have Rc := Lib.hid (Rc.out.alloc (.cells #[.int .i64 x, .int .i64 y, .slice (some ⟨g5, 0, none⟩) N3 cap5] 24))
    have HW := Lib.hid (HW.out.alloc HW.out.size (.cells #[.int .i64 x, .int .i64 y, .slice (some ⟨g5, 0, none⟩) N3 cap5] 24))
    have Gc := Lib.hid (heap_alloc_new w5 (.cells #[.int .i64 x, .int .i64 y, .slice (some ⟨g5, 0, none⟩) N3 cap5] 24))
    go_wp2_with fail
    clear Gaa Gab Gac Gad Gae Gaf Gal
    refine (is_grid_any gw gh _ (putL gw L x y r) _ Ra.out HL1.out (S.below HW.out)).mono ?_
    rintro e w6 ⟨rfl, hb6⟩
    rw [decide_eq_true HR1.out]
    have Rv := Lib.hid (Rv.out.below hb6)
    have G0 := Lib.hid (carry hb6 G0.out)
    have Ra := Lib.hid (Ra.out.below hb6)
    have Ga := Lib.hid (carry hb6 Ga.out)
    have Rc := Lib.hid (Rc.out.below hb6)
    have Gc := Lib.hid (carry hb6 Gc.out)
    have HW := Lib.hid (HW.out.trans (hb6.mono HW.out.size))
    clear hb6
    obtain ⟨Gca, Gcb, Gcc, Gcd, Gce, Gcf, Gcl⟩ := blk3 Gc.out
    go_wp2_with fail
    clear Gca Gcb Gcc Gcd Gce Gcf Gcl
    refine (is_grid_any x y _ (fitV gw gh L x y) _ Rc.out HL3.out (S.below HW.out)).mono ?_
    rintro e w7 ⟨rfl, hb7⟩
    rw [decide_eq_true HR3.out]
    have Rv := Lib.hid (Rv.out.below hb7)
    have G0 := Lib.hid (carry hb7 G0.out)
    have Ra := Lib.hid (Ra.out.below hb7)
    have Ga := Lib.hid (carry hb7 Ga.out)
    have Rc := Lib.hid (Rc.out.below hb7)
    have Gc := Lib.hid (carry hb7 Gc.out)
    have HW := Lib.hid (HW.out.trans (hb7.mono HW.out.size))
    clear hb7
    go_wp2_with fail
    refine (new_any x y _ (T.below HW.out)).mono ?_
    rintro e w8 ⟨h8, hb8⟩
    obtain ⟨g8, cap8, rfl, hcap8, hr8⟩ := (h8.is HC3.out).op (n := N4) hN4
    have Rv := Lib.hid (Rv.out.below hb8)
    have G0 := Lib.hid (carry hb8 G0.out)
    have Ra := Lib.hid (Ra.out.below hb8)
    have Ga := Lib.hid (carry hb8 Ga.out)
    have Rc := Lib.hid (Rc.out.below hb8)
    have Gc := Lib.hid (carry hb8 Gc.out)
    have HW := Lib.hid (HW.out.trans (hb8.mono HW.out.size))
    clear hb8
    have Rd := Lib.hid hr8
    clear hr8
    have Rv := Lib.hid (Rv.out.alloc (.cells #[.int .i64 x, .int .i64 y, .slice (some ⟨g8, 0, none⟩) N4 cap8] 24))
    have G0 := Lib.hid (carryA (.cells #[.int .i64 x, .int .i64 y, .slice (some ⟨g8, 0, none⟩) N4 cap8] 24) G0.out)
    have Ra := Lib.hid (Ra.out.alloc (.cells #[.int .i64 x, .int .i64 y, .slice (some ⟨g8, 0, none⟩) N4 cap8] 24))
    have Ga := Lib.hid (carryA (.cells #[.int .i64 x, .int .i64 y, .slice (some ⟨g8, 0, none⟩) N4 cap8] 24) Ga.out)
    have Rc := Lib.hid (Rc.out.alloc (.cells #[.int .i64 x, .int .i64 y, .slice (some ⟨g8, 0, none⟩) N4 cap8] 24))
    have Gc := Lib.hid (carryA (.cells #[.int .i64 x, .int .i64 y, .slice (some ⟨g8, 0, none⟩) N4 cap8] 24) Gc.out)
    have Rd := Lib.hid (Rd.out.alloc (.cells #[.int .i64 x, .int .i64 y, .slice (some ⟨g8, 0, none⟩) N4 cap8] 24))
    have HW := Lib.hid (HW.out.alloc HW.out.size (.cells #[.int .i64 x, .int .i64 y, .slice (some ⟨g8, 0, none⟩) N4 cap8] 24))
    have Gdd := Lib.hid (heap_alloc_new w8 (.cells #[.int .i64 x, .int .i64 y, .slice (some ⟨g8, 0, none⟩) N4 cap8] 24))
    go_wp2_with fail
    refine (gridded_any _ (S.below HW.out) (T.below HW.out)).mono ?_
    rintro e w9 ⟨rfl, hb9⟩
    have Rv := Lib.hid (Rv.out.below hb9)
    have G0 := Lib.hid (carry hb9 G0.out)
    have Ra := Lib.hid (Ra.out.below hb9)
    have Ga := Lib.hid (carry hb9 Ga.out)
    have Rc := Lib.hid (Rc.out.below hb9)
    have Gc := Lib.hid (carry hb9 Gc.out)
    have Rd := Lib.hid (Rd.out.below hb9)
    have Gdd := Lib.hid (carry hb9 Gdd.out)
    have HW := Lib.hid (HW.out.trans (hb9.mono HW.out.size))
    clear hb9
    obtain ⟨G0a, G0b, G0c, G0d, G0e, G0f, G0l⟩ := blk3 G0.out
    go_wp2_with fail
    clear G0a G0b G0c G0d G0e G0f G0l
    refine (is_grid_any gw gh _ L _ Rv.out hm (S.below HW.out)).mono ?_
    rintro e w10 ⟨rfl, hb10⟩
    rw [decide_eq_true HR.out]
    have Rv := Lib.hid (Rv.out.below hb10)
    have G0 := Lib.hid (carry hb10 G0.out)
    have Ra := Lib.hid (Ra.out.below hb10)
    have Ga := Lib.hid (carry hb10 Ga.out)
    have Rc := Lib.hid (Rc.out.below hb10)
    have Gc := Lib.hid (carry hb10 Gc.out)
    have Rd := Lib.hid (Rd.out.below hb10)
    have Gdd := Lib.hid (carry hb10 Gdd.out)
    have HW := Lib.hid (HW.out.trans (hb10.mono HW.out.size))
    clear hb10
    obtain ⟨G0a, G0b, G0c, G0d, G0e, G0f, G0l⟩ := blk3 G0.out
    go_wp2_with fail
    clear G0a G0b G0c G0d G0e G0f G0l
    refine (scroll_any gw gh _ L _ Rv.out hcp hm (S.below HW.out) (T.below HW.out)).mono ?_
    rintro e w11 ⟨h11, hb11⟩
    unfold ScrollTold at h11
    rw [if_pos HR.out] at h11
    obtain ⟨v11, rfl, ho11⟩ := h11
    have Rs := Lib.hid ho11.rw
    have Rv := Lib.hid (Rv.out.below hb11)
    have G0 := Lib.hid (carry hb11 G0.out)
    have Ra := Lib.hid (Ra.out.below hb11)
    have Ga := Lib.hid (carry hb11 Ga.out)
    have Rc := Lib.hid (Rc.out.below hb11)
    have Gc := Lib.hid (carry hb11 Gc.out)
    have Rd := Lib.hid (Rd.out.below hb11)
    have Gdd := Lib.hid (carry hb11 Gdd.out)
    have HW := Lib.hid (HW.out.trans (hb11.mono HW.out.size))
    clear hb11
    go_wp2_with fail
    refine (is_grid_any gw gh _ (scrollL gw.toNat L) _ Rs.out (by rw [scrollL_len]; exact hm) (S.below HW.out)).mono ?_
    rintro e w12 ⟨rfl, hb12⟩
    rw [decide_eq_true (scrollL_right HR.out)]
    have Rv := Lib.hid (Rv.out.below hb12)
    have G0 := Lib.hid (carry hb12 G0.out)
    have Ra := Lib.hid (Ra.out.below hb12)
    have Ga := Lib.hid (carry hb12 Ga.out)
    have Rc := Lib.hid (Rc.out.below hb12)
    have Gc := Lib.hid (carry hb12 Gc.out)
    have Rd := Lib.hid (Rd.out.below hb12)
    have Gdd := Lib.hid (carry hb12 Gdd.out)
    have Rs := Lib.hid (Rs.out.below hb12)
    have HW := Lib.hid (HW.out.trans (hb12.mono HW.out.size))
    clear hb12
    obtain ⟨Gdda, Gddb, Gddc, Gddd, Gdde, Gddf, Gddl⟩ := blk3 Gdd.out
    go_wp2_with fail
    clear Gdda Gddb Gddc Gddd Gdde Gddf Gddl
    refine (is_grid_any x y _ (newL x y) _ Rd.out HL4.out (S.below HW.out)).mono ?_
    rintro e w13 ⟨rfl, hb13⟩
    rw [decide_eq_true HR4.out]
    have Rv := Lib.hid (Rv.out.below hb13)
    have G0 := Lib.hid (carry hb13 G0.out)
    have Ra := Lib.hid (Ra.out.below hb13)
    have Ga := Lib.hid (carry hb13 Ga.out)
    have Rc := Lib.hid (Rc.out.below hb13)
    have Gc := Lib.hid (carry hb13 Gc.out)
    have Rd := Lib.hid (Rd.out.below hb13)
    have Gdd := Lib.hid (carry hb13 Gdd.out)
    have Rs := Lib.hid (Rs.out.below hb13)
    have HW := Lib.hid (HW.out.trans (hb13.mono HW.out.size))
    clear hb13
    go_wp2
    go_ret
    exact ⟨rfl, HW.out⟩
  ·
    obtain ⟨N1, hN1⟩ : ∃ N, (putL gw L x y r).length = N := ⟨_, rfl⟩
    have HL1 := Lib.hid (show (putL gw L x y r).length ≤ maxLen by rw [putL_len hc1]; exact hm)
    have HR1 := Lib.hid (putL_right hc1)
    obtain ⟨N2, hN2⟩ : ∃ N, (blankL gw L x y).length = N := ⟨_, rfl⟩
    have HL2 := Lib.hid (show (blankL gw L x y).length ≤ maxLen by rw [blankL_len hc2]; exact hm)
    have HR2 := Lib.hid (blankL_right hc2)
    have hc3f := HFB.out
    rw [hc3] at hc3f
    have HC3 := Lib.hid hc3
    have HC3F := Lib.hid hc3f
    have HC1 := Lib.hid hc1
    have HC2 := Lib.hid hc2
    clear hc1 hc2 hc3 hc3f
    go_enter Tryd.func7, Tryd.ntmps7
    go_wp2_with fail
    refine (big_any gw gh _ L _ Rv.out).mono ?_
    rintro e w1 ⟨rfl, hb1⟩
    rw [decide_eq_false hbig]
    have Rv := Lib.hid (Rv.out.below hb1)
    have G0 := Lib.hid (carry hb1 G0.out)
    have HW := Lib.hid (HW.out.trans (hb1.mono HW.out.size))
    clear hb1
    obtain ⟨G0a, G0b, G0c, G0d, G0e, G0f, G0l⟩ := blk3 G0.out
    go_wp2_with fail
    clear G0a G0b G0c G0d G0e G0f G0l
    refine (is_grid_any gw gh _ L _ Rv.out hm (S.below HW.out)).mono ?_
    rintro e w2 ⟨rfl, hb2⟩
    rw [decide_eq_true HR.out]
    have Rv := Lib.hid (Rv.out.below hb2)
    have G0 := Lib.hid (carry hb2 G0.out)
    have HW := Lib.hid (HW.out.trans (hb2.mono HW.out.size))
    clear hb2
    obtain ⟨G0a, G0b, G0c, G0d, G0e, G0f, G0l⟩ := blk3 G0.out
    go_wp2_with fail
    clear G0a G0b G0c G0d G0e G0f G0l
    refine (put_any gw gh x y r _ L _ Rv.out hm (S.below HW.out) (T.below HW.out)).mono ?_
    rintro e w3 ⟨h3, hb3⟩
    obtain ⟨g3, cap3, rfl, hcap3, hr3⟩ := (h3.is HC1.out).op (n := N1) hN1
    have Rv := Lib.hid (Rv.out.below hb3)
    have G0 := Lib.hid (carry hb3 G0.out)
    have HW := Lib.hid (HW.out.trans (hb3.mono HW.out.size))
    clear hb3
    obtain ⟨G0a, G0b, G0c, G0d, G0e, G0f, G0l⟩ := blk3 G0.out
    have Ra := Lib.hid hr3
    clear hr3
    have Rv := Lib.hid (Rv.out.alloc (.cells #[.int .i64 gw, .int .i64 gh, .slice (some ⟨g3, 0, none⟩) N1 cap3] 24))
    have G0 := Lib.hid (carryA (.cells #[.int .i64 gw, .int .i64 gh, .slice (some ⟨g3, 0, none⟩) N1 cap3] 24) G0.out)
    have Ra := Lib.hid (Ra.out.alloc (.cells #[.int .i64 gw, .int .i64 gh, .slice (some ⟨g3, 0, none⟩) N1 cap3] 24))
    have HW := Lib.hid (HW.out.alloc HW.out.size (.cells #[.int .i64 gw, .int .i64 gh, .slice (some ⟨g3, 0, none⟩) N1 cap3] 24))
    have Ga := Lib.hid (heap_alloc_new w3 (.cells #[.int .i64 gw, .int .i64 gh, .slice (some ⟨g3, 0, none⟩) N1 cap3] 24))
    go_wp2_with fail
    clear G0a G0b G0c G0d G0e G0f G0l
    refine (blank_any gw gh x y _ L _ Rv.out hm (S.below HW.out) (T.below HW.out)).mono ?_
    rintro e w4 ⟨h4, hb4⟩
    obtain ⟨g4, cap4, rfl, hcap4, hr4⟩ := (h4.is HC2.out).op (n := N2) hN2
    have Rv := Lib.hid (Rv.out.below hb4)
    have G0 := Lib.hid (carry hb4 G0.out)
    have Ra := Lib.hid (Ra.out.below hb4)
    have Ga := Lib.hid (carry hb4 Ga.out)
    have HW := Lib.hid (HW.out.trans (hb4.mono HW.out.size))
    clear hb4
    obtain ⟨G0a, G0b, G0c, G0d, G0e, G0f, G0l⟩ := blk3 G0.out
    have Rb := Lib.hid hr4
    clear hr4
    have Rv := Lib.hid (Rv.out.alloc (.cells #[.int .i64 gw, .int .i64 gh, .slice (some ⟨g4, 0, none⟩) N2 cap4] 24))
    have G0 := Lib.hid (carryA (.cells #[.int .i64 gw, .int .i64 gh, .slice (some ⟨g4, 0, none⟩) N2 cap4] 24) G0.out)
    have Ra := Lib.hid (Ra.out.alloc (.cells #[.int .i64 gw, .int .i64 gh, .slice (some ⟨g4, 0, none⟩) N2 cap4] 24))
    have Ga := Lib.hid (carryA (.cells #[.int .i64 gw, .int .i64 gh, .slice (some ⟨g4, 0, none⟩) N2 cap4] 24) Ga.out)
    have Rb := Lib.hid (Rb.out.alloc (.cells #[.int .i64 gw, .int .i64 gh, .slice (some ⟨g4, 0, none⟩) N2 cap4] 24))
    have HW := Lib.hid (HW.out.alloc HW.out.size (.cells #[.int .i64 gw, .int .i64 gh, .slice (some ⟨g4, 0, none⟩) N2 cap4] 24))
    have Gb := Lib.hid (heap_alloc_new w4 (.cells #[.int .i64 gw, .int .i64 gh, .slice (some ⟨g4, 0, none⟩) N2 cap4] 24))
    go_wp2_with fail
    clear G0a G0b G0c G0d G0e G0f G0l
    refine (fit_any gw gh x y _ L _ Rv.out hcp hm (S.below HW.out) (T.below HW.out)).mono ?_
    rintro e w5 ⟨h5, hb5⟩
    obtain rfl := h5.isnt HC3F.out
    have Rv := Lib.hid (Rv.out.below hb5)
    have G0 := Lib.hid (carry hb5 G0.out)
    have Ra := Lib.hid (Ra.out.below hb5)
    have Ga := Lib.hid (carry hb5 Ga.out)
    have Rb := Lib.hid (Rb.out.below hb5)
    have Gb := Lib.hid (carry hb5 Gb.out)
    have HW := Lib.hid (HW.out.trans (hb5.mono HW.out.size))
    clear hb5
    obtain ⟨Gaa, Gab, Gac, Gad, Gae, Gaf, Gal⟩ := blk3 Ga.out
    have Rv := Lib.hid (Rv.out.alloc (.cells #[.int .i64 0, .int .i64 0, .slice none 0 0] 24))
    have G0 := Lib.hid (carryA (.cells #[.int .i64 0, .int .i64 0, .slice none 0 0] 24) G0.out)
    have Ra := Lib.hid (Ra.out.alloc (.cells #[.int .i64 0, .int .i64 0, .slice none 0 0] 24))
    have Ga := Lib.hid (carryA (.cells #[.int .i64 0, .int .i64 0, .slice none 0 0] 24) Ga.out)
    have Rb := Lib.hid (Rb.out.alloc (.cells #[.int .i64 0, .int .i64 0, .slice none 0 0] 24))
    have Gb := Lib.hid (carryA (.cells #[.int .i64 0, .int .i64 0, .slice none 0 0] 24) Gb.out)
    have HW := Lib.hid (HW.out.alloc HW.out.size (.cells #[.int .i64 0, .int .i64 0, .slice none 0 0] 24))
    try rw [HFE.out]
    go_wp2_with fail
    clear Gaa Gab Gac Gad Gae Gaf Gal
    refine (is_grid_any gw gh _ (putL gw L x y r) _ Ra.out HL1.out (S.below HW.out)).mono ?_
    rintro e w6 ⟨rfl, hb6⟩
    rw [decide_eq_true HR1.out]
    have Rv := Lib.hid (Rv.out.below hb6)
    have G0 := Lib.hid (carry hb6 G0.out)
    have Ra := Lib.hid (Ra.out.below hb6)
    have Ga := Lib.hid (carry hb6 Ga.out)
    have Rb := Lib.hid (Rb.out.below hb6)
    have Gb := Lib.hid (carry hb6 Gb.out)
    have HW := Lib.hid (HW.out.trans (hb6.mono HW.out.size))
    clear hb6
    obtain ⟨Gba, Gbb, Gbc, Gbd, Gbe, Gbf, Gbl⟩ := blk3 Gb.out
    go_wp2_with fail
    clear Gba Gbb Gbc Gbd Gbe Gbf Gbl
    refine (is_grid_any gw gh _ (blankL gw L x y) _ Rb.out HL2.out (S.below HW.out)).mono ?_
    rintro e w7 ⟨rfl, hb7⟩
    rw [decide_eq_true HR2.out]
    have Rv := Lib.hid (Rv.out.below hb7)
    have G0 := Lib.hid (carry hb7 G0.out)
    have Ra := Lib.hid (Ra.out.below hb7)
    have Ga := Lib.hid (carry hb7 Ga.out)
    have Rb := Lib.hid (Rb.out.below hb7)
    have Gb := Lib.hid (carry hb7 Gb.out)
    have HW := Lib.hid (HW.out.trans (hb7.mono HW.out.size))
    clear hb7
    go_wp2_with fail
    refine (new_any x y _ (T.below HW.out)).mono ?_
    rintro e w8 ⟨h8, hb8⟩
    obtain rfl := h8.isnt HC3.out
    have Rv := Lib.hid (Rv.out.below hb8)
    have G0 := Lib.hid (carry hb8 G0.out)
    have Ra := Lib.hid (Ra.out.below hb8)
    have Ga := Lib.hid (carry hb8 Ga.out)
    have Rb := Lib.hid (Rb.out.below hb8)
    have Gb := Lib.hid (carry hb8 Gb.out)
    have HW := Lib.hid (HW.out.trans (hb8.mono HW.out.size))
    clear hb8
    have Rv := Lib.hid (Rv.out.alloc (.cells #[.int .i64 0, .int .i64 0, .slice none 0 0] 24))
    have G0 := Lib.hid (carryA (.cells #[.int .i64 0, .int .i64 0, .slice none 0 0] 24) G0.out)
    have Ra := Lib.hid (Ra.out.alloc (.cells #[.int .i64 0, .int .i64 0, .slice none 0 0] 24))
    have Ga := Lib.hid (carryA (.cells #[.int .i64 0, .int .i64 0, .slice none 0 0] 24) Ga.out)
    have Rb := Lib.hid (Rb.out.alloc (.cells #[.int .i64 0, .int .i64 0, .slice none 0 0] 24))
    have Gb := Lib.hid (carryA (.cells #[.int .i64 0, .int .i64 0, .slice none 0 0] 24) Gb.out)
    have HW := Lib.hid (HW.out.alloc HW.out.size (.cells #[.int .i64 0, .int .i64 0, .slice none 0 0] 24))
    go_wp2_with fail
    refine (gridded_any _ (S.below HW.out) (T.below HW.out)).mono ?_
    rintro e w9 ⟨rfl, hb9⟩
    have Rv := Lib.hid (Rv.out.below hb9)
    have G0 := Lib.hid (carry hb9 G0.out)
    have Ra := Lib.hid (Ra.out.below hb9)
    have Ga := Lib.hid (carry hb9 Ga.out)
    have Rb := Lib.hid (Rb.out.below hb9)
    have Gb := Lib.hid (carry hb9 Gb.out)
    have HW := Lib.hid (HW.out.trans (hb9.mono HW.out.size))
    clear hb9
    obtain ⟨G0a, G0b, G0c, G0d, G0e, G0f, G0l⟩ := blk3 G0.out
    go_wp2_with fail
    clear G0a G0b G0c G0d G0e G0f G0l
    refine (is_grid_any gw gh _ L _ Rv.out hm (S.below HW.out)).mono ?_
    rintro e w10 ⟨rfl, hb10⟩
    rw [decide_eq_true HR.out]
    have Rv := Lib.hid (Rv.out.below hb10)
    have G0 := Lib.hid (carry hb10 G0.out)
    have Ra := Lib.hid (Ra.out.below hb10)
    have Ga := Lib.hid (carry hb10 Ga.out)
    have Rb := Lib.hid (Rb.out.below hb10)
    have Gb := Lib.hid (carry hb10 Gb.out)
    have HW := Lib.hid (HW.out.trans (hb10.mono HW.out.size))
    clear hb10
    obtain ⟨G0a, G0b, G0c, G0d, G0e, G0f, G0l⟩ := blk3 G0.out
    go_wp2_with fail
    clear G0a G0b G0c G0d G0e G0f G0l
    refine (scroll_any gw gh _ L _ Rv.out hcp hm (S.below HW.out) (T.below HW.out)).mono ?_
    rintro e w11 ⟨h11, hb11⟩
    unfold ScrollTold at h11
    rw [if_pos HR.out] at h11
    obtain ⟨v11, rfl, ho11⟩ := h11
    have Rs := Lib.hid ho11.rw
    have Rv := Lib.hid (Rv.out.below hb11)
    have G0 := Lib.hid (carry hb11 G0.out)
    have Ra := Lib.hid (Ra.out.below hb11)
    have Ga := Lib.hid (carry hb11 Ga.out)
    have Rb := Lib.hid (Rb.out.below hb11)
    have Gb := Lib.hid (carry hb11 Gb.out)
    have HW := Lib.hid (HW.out.trans (hb11.mono HW.out.size))
    clear hb11
    go_wp2_with fail
    refine (is_grid_any gw gh _ (scrollL gw.toNat L) _ Rs.out (by rw [scrollL_len]; exact hm) (S.below HW.out)).mono ?_
    rintro e w12 ⟨rfl, hb12⟩
    rw [decide_eq_true (scrollL_right HR.out)]
    have Rv := Lib.hid (Rv.out.below hb12)
    have G0 := Lib.hid (carry hb12 G0.out)
    have Ra := Lib.hid (Ra.out.below hb12)
    have Ga := Lib.hid (carry hb12 Ga.out)
    have Rb := Lib.hid (Rb.out.below hb12)
    have Gb := Lib.hid (carry hb12 Gb.out)
    have Rs := Lib.hid (Rs.out.below hb12)
    have HW := Lib.hid (HW.out.trans (hb12.mono HW.out.size))
    clear hb12
    go_wp2
    go_ret
    exact ⟨rfl, HW.out⟩
  ·
    obtain ⟨N1, hN1⟩ : ∃ N, (putL gw L x y r).length = N := ⟨_, rfl⟩
    have HL1 := Lib.hid (show (putL gw L x y r).length ≤ maxLen by rw [putL_len hc1]; exact hm)
    have HR1 := Lib.hid (putL_right hc1)
    obtain ⟨N2, hN2⟩ : ∃ N, (blankL gw L x y).length = N := ⟨_, rfl⟩
    have HL2 := Lib.hid (show (blankL gw L x y).length ≤ maxLen by rw [blankL_len hc2]; exact hm)
    have HR2 := Lib.hid (blankL_right hc2)
    have hc3f := HFB.out
    rw [hc3] at hc3f
    have HC3 := Lib.hid hc3
    have HC3F := Lib.hid hc3f
    have HC1 := Lib.hid hc1
    have HC2 := Lib.hid hc2
    obtain ⟨N3, hN3⟩ : ∃ N, (fitV gw gh L x y).length = N := ⟨_, rfl⟩
    have HL3 := Lib.hid (show (fitV gw gh L x y).length ≤ maxLen by have := fitV_len hc3f; unfold maxLen; omega)
    have HR3 := Lib.hid (fitV_right hc3f)
    obtain ⟨N4, hN4⟩ : ∃ N, (newL x y).length = N := ⟨_, rfl⟩
    have HL4 := Lib.hid (show (newL x y).length ≤ maxLen by obtain ⟨w', h', rfl, rfl, _, g80, _, g24⟩ := sides_of hc3; unfold newL maxLen; rw [List.length_replicate]; simp only [Int.toNat_natCast]; have := Nat.mul_le_mul g80 g24; omega)
    have HR4 := Lib.hid (newL_right hc3)
    clear hc1 hc2 hc3 hc3f
    go_enter Tryd.func7, Tryd.ntmps7
    go_wp2_with fail
    refine (big_any gw gh _ L _ Rv.out).mono ?_
    rintro e w1 ⟨rfl, hb1⟩
    rw [decide_eq_false hbig]
    have Rv := Lib.hid (Rv.out.below hb1)
    have G0 := Lib.hid (carry hb1 G0.out)
    have HW := Lib.hid (HW.out.trans (hb1.mono HW.out.size))
    clear hb1
    obtain ⟨G0a, G0b, G0c, G0d, G0e, G0f, G0l⟩ := blk3 G0.out
    go_wp2_with fail
    clear G0a G0b G0c G0d G0e G0f G0l
    refine (is_grid_any gw gh _ L _ Rv.out hm (S.below HW.out)).mono ?_
    rintro e w2 ⟨rfl, hb2⟩
    rw [decide_eq_true HR.out]
    have Rv := Lib.hid (Rv.out.below hb2)
    have G0 := Lib.hid (carry hb2 G0.out)
    have HW := Lib.hid (HW.out.trans (hb2.mono HW.out.size))
    clear hb2
    obtain ⟨G0a, G0b, G0c, G0d, G0e, G0f, G0l⟩ := blk3 G0.out
    go_wp2_with fail
    clear G0a G0b G0c G0d G0e G0f G0l
    refine (put_any gw gh x y r _ L _ Rv.out hm (S.below HW.out) (T.below HW.out)).mono ?_
    rintro e w3 ⟨h3, hb3⟩
    obtain ⟨g3, cap3, rfl, hcap3, hr3⟩ := (h3.is HC1.out).op (n := N1) hN1
    have Rv := Lib.hid (Rv.out.below hb3)
    have G0 := Lib.hid (carry hb3 G0.out)
    have HW := Lib.hid (HW.out.trans (hb3.mono HW.out.size))
    clear hb3
    obtain ⟨G0a, G0b, G0c, G0d, G0e, G0f, G0l⟩ := blk3 G0.out
    have Ra := Lib.hid hr3
    clear hr3
    have Rv := Lib.hid (Rv.out.alloc (.cells #[.int .i64 gw, .int .i64 gh, .slice (some ⟨g3, 0, none⟩) N1 cap3] 24))
    have G0 := Lib.hid (carryA (.cells #[.int .i64 gw, .int .i64 gh, .slice (some ⟨g3, 0, none⟩) N1 cap3] 24) G0.out)
    have Ra := Lib.hid (Ra.out.alloc (.cells #[.int .i64 gw, .int .i64 gh, .slice (some ⟨g3, 0, none⟩) N1 cap3] 24))
    have HW := Lib.hid (HW.out.alloc HW.out.size (.cells #[.int .i64 gw, .int .i64 gh, .slice (some ⟨g3, 0, none⟩) N1 cap3] 24))
    have Ga := Lib.hid (heap_alloc_new w3 (.cells #[.int .i64 gw, .int .i64 gh, .slice (some ⟨g3, 0, none⟩) N1 cap3] 24))
    go_wp2_with fail
    clear G0a G0b G0c G0d G0e G0f G0l
    refine (blank_any gw gh x y _ L _ Rv.out hm (S.below HW.out) (T.below HW.out)).mono ?_
    rintro e w4 ⟨h4, hb4⟩
    obtain ⟨g4, cap4, rfl, hcap4, hr4⟩ := (h4.is HC2.out).op (n := N2) hN2
    have Rv := Lib.hid (Rv.out.below hb4)
    have G0 := Lib.hid (carry hb4 G0.out)
    have Ra := Lib.hid (Ra.out.below hb4)
    have Ga := Lib.hid (carry hb4 Ga.out)
    have HW := Lib.hid (HW.out.trans (hb4.mono HW.out.size))
    clear hb4
    obtain ⟨G0a, G0b, G0c, G0d, G0e, G0f, G0l⟩ := blk3 G0.out
    have Rb := Lib.hid hr4
    clear hr4
    have Rv := Lib.hid (Rv.out.alloc (.cells #[.int .i64 gw, .int .i64 gh, .slice (some ⟨g4, 0, none⟩) N2 cap4] 24))
    have G0 := Lib.hid (carryA (.cells #[.int .i64 gw, .int .i64 gh, .slice (some ⟨g4, 0, none⟩) N2 cap4] 24) G0.out)
    have Ra := Lib.hid (Ra.out.alloc (.cells #[.int .i64 gw, .int .i64 gh, .slice (some ⟨g4, 0, none⟩) N2 cap4] 24))
    have Ga := Lib.hid (carryA (.cells #[.int .i64 gw, .int .i64 gh, .slice (some ⟨g4, 0, none⟩) N2 cap4] 24) Ga.out)
    have Rb := Lib.hid (Rb.out.alloc (.cells #[.int .i64 gw, .int .i64 gh, .slice (some ⟨g4, 0, none⟩) N2 cap4] 24))
    have HW := Lib.hid (HW.out.alloc HW.out.size (.cells #[.int .i64 gw, .int .i64 gh, .slice (some ⟨g4, 0, none⟩) N2 cap4] 24))
    have Gb := Lib.hid (heap_alloc_new w4 (.cells #[.int .i64 gw, .int .i64 gh, .slice (some ⟨g4, 0, none⟩) N2 cap4] 24))
    go_wp2_with fail
    clear G0a G0b G0c G0d G0e G0f G0l
    refine (fit_any gw gh x y _ L _ Rv.out hcp hm (S.below HW.out) (T.below HW.out)).mono ?_
    rintro e w5 ⟨h5, hb5⟩
    obtain ⟨g5, cap5, rfl, hcap5, hr5⟩ := (h5.is HC3F.out).op (n := N3) hN3
    have Rv := Lib.hid (Rv.out.below hb5)
    have G0 := Lib.hid (carry hb5 G0.out)
    have Ra := Lib.hid (Ra.out.below hb5)
    have Ga := Lib.hid (carry hb5 Ga.out)
    have Rb := Lib.hid (Rb.out.below hb5)
    have Gb := Lib.hid (carry hb5 Gb.out)
    have HW := Lib.hid (HW.out.trans (hb5.mono HW.out.size))
    clear hb5
    obtain ⟨Gaa, Gab, Gac, Gad, Gae, Gaf, Gal⟩ := blk3 Ga.out
    have Rc := Lib.hid hr5
    clear hr5
    have Rv := Lib.hid (Rv.out.alloc (.cells #[.int .i64 x, .int .i64 y, .slice (some ⟨g5, 0, none⟩) N3 cap5] 24))
    have G0 := Lib.hid (carryA (.cells #[.int .i64 x, .int .i64 y, .slice (some ⟨g5, 0, none⟩) N3 cap5] 24) G0.out)
    have Ra := Lib.hid (Ra.out.alloc (.cells #[.int .i64 x, .int .i64 y, .slice (some ⟨g5, 0, none⟩) N3 cap5] 24))
    have Ga := Lib.hid (carryA (.cells #[.int .i64 x, .int .i64 y, .slice (some ⟨g5, 0, none⟩) N3 cap5] 24) Ga.out)
    have Rb := Lib.hid (Rb.out.alloc (.cells #[.int .i64 x, .int .i64 y, .slice (some ⟨g5, 0, none⟩) N3 cap5] 24))
    have Gb := Lib.hid (carryA (.cells #[.int .i64 x, .int .i64 y, .slice (some ⟨g5, 0, none⟩) N3 cap5] 24) Gb.out)
    have Rc := Lib.hid (Rc.out.alloc (.cells #[.int .i64 x, .int .i64 y, .slice (some ⟨g5, 0, none⟩) N3 cap5] 24))
    have HW := Lib.hid (HW.out.alloc HW.out.size (.cells #[.int .i64 x, .int .i64 y, .slice (some ⟨g5, 0, none⟩) N3 cap5] 24))
    have Gc := Lib.hid (heap_alloc_new w5 (.cells #[.int .i64 x, .int .i64 y, .slice (some ⟨g5, 0, none⟩) N3 cap5] 24))
    go_wp2_with fail
    clear Gaa Gab Gac Gad Gae Gaf Gal
    refine (is_grid_any gw gh _ (putL gw L x y r) _ Ra.out HL1.out (S.below HW.out)).mono ?_
    rintro e w6 ⟨rfl, hb6⟩
    rw [decide_eq_true HR1.out]
    have Rv := Lib.hid (Rv.out.below hb6)
    have G0 := Lib.hid (carry hb6 G0.out)
    have Ra := Lib.hid (Ra.out.below hb6)
    have Ga := Lib.hid (carry hb6 Ga.out)
    have Rb := Lib.hid (Rb.out.below hb6)
    have Gb := Lib.hid (carry hb6 Gb.out)
    have Rc := Lib.hid (Rc.out.below hb6)
    have Gc := Lib.hid (carry hb6 Gc.out)
    have HW := Lib.hid (HW.out.trans (hb6.mono HW.out.size))
    clear hb6
    obtain ⟨Gba, Gbb, Gbc, Gbd, Gbe, Gbf, Gbl⟩ := blk3 Gb.out
    go_wp2_with fail
    clear Gba Gbb Gbc Gbd Gbe Gbf Gbl
    refine (is_grid_any gw gh _ (blankL gw L x y) _ Rb.out HL2.out (S.below HW.out)).mono ?_
    rintro e w7 ⟨rfl, hb7⟩
    rw [decide_eq_true HR2.out]
    have Rv := Lib.hid (Rv.out.below hb7)
    have G0 := Lib.hid (carry hb7 G0.out)
    have Ra := Lib.hid (Ra.out.below hb7)
    have Ga := Lib.hid (carry hb7 Ga.out)
    have Rb := Lib.hid (Rb.out.below hb7)
    have Gb := Lib.hid (carry hb7 Gb.out)
    have Rc := Lib.hid (Rc.out.below hb7)
    have Gc := Lib.hid (carry hb7 Gc.out)
    have HW := Lib.hid (HW.out.trans (hb7.mono HW.out.size))
    clear hb7
    obtain ⟨Gca, Gcb, Gcc, Gcd, Gce, Gcf, Gcl⟩ := blk3 Gc.out
    go_wp2_with fail
    clear Gca Gcb Gcc Gcd Gce Gcf Gcl
    refine (is_grid_any x y _ (fitV gw gh L x y) _ Rc.out HL3.out (S.below HW.out)).mono ?_
    rintro e w8 ⟨rfl, hb8⟩
    rw [decide_eq_true HR3.out]
    have Rv := Lib.hid (Rv.out.below hb8)
    have G0 := Lib.hid (carry hb8 G0.out)
    have Ra := Lib.hid (Ra.out.below hb8)
    have Ga := Lib.hid (carry hb8 Ga.out)
    have Rb := Lib.hid (Rb.out.below hb8)
    have Gb := Lib.hid (carry hb8 Gb.out)
    have Rc := Lib.hid (Rc.out.below hb8)
    have Gc := Lib.hid (carry hb8 Gc.out)
    have HW := Lib.hid (HW.out.trans (hb8.mono HW.out.size))
    clear hb8
    go_wp2_with fail
    refine (new_any x y _ (T.below HW.out)).mono ?_
    rintro e w9 ⟨h9, hb9⟩
    obtain ⟨g9, cap9, rfl, hcap9, hr9⟩ := (h9.is HC3.out).op (n := N4) hN4
    have Rv := Lib.hid (Rv.out.below hb9)
    have G0 := Lib.hid (carry hb9 G0.out)
    have Ra := Lib.hid (Ra.out.below hb9)
    have Ga := Lib.hid (carry hb9 Ga.out)
    have Rb := Lib.hid (Rb.out.below hb9)
    have Gb := Lib.hid (carry hb9 Gb.out)
    have Rc := Lib.hid (Rc.out.below hb9)
    have Gc := Lib.hid (carry hb9 Gc.out)
    have HW := Lib.hid (HW.out.trans (hb9.mono HW.out.size))
    clear hb9
    have Rd := Lib.hid hr9
    clear hr9
    have Rv := Lib.hid (Rv.out.alloc (.cells #[.int .i64 x, .int .i64 y, .slice (some ⟨g9, 0, none⟩) N4 cap9] 24))
    have G0 := Lib.hid (carryA (.cells #[.int .i64 x, .int .i64 y, .slice (some ⟨g9, 0, none⟩) N4 cap9] 24) G0.out)
    have Ra := Lib.hid (Ra.out.alloc (.cells #[.int .i64 x, .int .i64 y, .slice (some ⟨g9, 0, none⟩) N4 cap9] 24))
    have Ga := Lib.hid (carryA (.cells #[.int .i64 x, .int .i64 y, .slice (some ⟨g9, 0, none⟩) N4 cap9] 24) Ga.out)
    have Rb := Lib.hid (Rb.out.alloc (.cells #[.int .i64 x, .int .i64 y, .slice (some ⟨g9, 0, none⟩) N4 cap9] 24))
    have Gb := Lib.hid (carryA (.cells #[.int .i64 x, .int .i64 y, .slice (some ⟨g9, 0, none⟩) N4 cap9] 24) Gb.out)
    have Rc := Lib.hid (Rc.out.alloc (.cells #[.int .i64 x, .int .i64 y, .slice (some ⟨g9, 0, none⟩) N4 cap9] 24))
    have Gc := Lib.hid (carryA (.cells #[.int .i64 x, .int .i64 y, .slice (some ⟨g9, 0, none⟩) N4 cap9] 24) Gc.out)
    have Rd := Lib.hid (Rd.out.alloc (.cells #[.int .i64 x, .int .i64 y, .slice (some ⟨g9, 0, none⟩) N4 cap9] 24))
    have HW := Lib.hid (HW.out.alloc HW.out.size (.cells #[.int .i64 x, .int .i64 y, .slice (some ⟨g9, 0, none⟩) N4 cap9] 24))
    have Gdd := Lib.hid (heap_alloc_new w9 (.cells #[.int .i64 x, .int .i64 y, .slice (some ⟨g9, 0, none⟩) N4 cap9] 24))
    go_wp2_with fail
    refine (gridded_any _ (S.below HW.out) (T.below HW.out)).mono ?_
    rintro e w10 ⟨rfl, hb10⟩
    have Rv := Lib.hid (Rv.out.below hb10)
    have G0 := Lib.hid (carry hb10 G0.out)
    have Ra := Lib.hid (Ra.out.below hb10)
    have Ga := Lib.hid (carry hb10 Ga.out)
    have Rb := Lib.hid (Rb.out.below hb10)
    have Gb := Lib.hid (carry hb10 Gb.out)
    have Rc := Lib.hid (Rc.out.below hb10)
    have Gc := Lib.hid (carry hb10 Gc.out)
    have Rd := Lib.hid (Rd.out.below hb10)
    have Gdd := Lib.hid (carry hb10 Gdd.out)
    have HW := Lib.hid (HW.out.trans (hb10.mono HW.out.size))
    clear hb10
    obtain ⟨G0a, G0b, G0c, G0d, G0e, G0f, G0l⟩ := blk3 G0.out
    go_wp2_with fail
    clear G0a G0b G0c G0d G0e G0f G0l
    refine (is_grid_any gw gh _ L _ Rv.out hm (S.below HW.out)).mono ?_
    rintro e w11 ⟨rfl, hb11⟩
    rw [decide_eq_true HR.out]
    have Rv := Lib.hid (Rv.out.below hb11)
    have G0 := Lib.hid (carry hb11 G0.out)
    have Ra := Lib.hid (Ra.out.below hb11)
    have Ga := Lib.hid (carry hb11 Ga.out)
    have Rb := Lib.hid (Rb.out.below hb11)
    have Gb := Lib.hid (carry hb11 Gb.out)
    have Rc := Lib.hid (Rc.out.below hb11)
    have Gc := Lib.hid (carry hb11 Gc.out)
    have Rd := Lib.hid (Rd.out.below hb11)
    have Gdd := Lib.hid (carry hb11 Gdd.out)
    have HW := Lib.hid (HW.out.trans (hb11.mono HW.out.size))
    clear hb11
    obtain ⟨G0a, G0b, G0c, G0d, G0e, G0f, G0l⟩ := blk3 G0.out
    go_wp2_with fail
    clear G0a G0b G0c G0d G0e G0f G0l
    refine (scroll_any gw gh _ L _ Rv.out hcp hm (S.below HW.out) (T.below HW.out)).mono ?_
    rintro e w12 ⟨h12, hb12⟩
    unfold ScrollTold at h12
    rw [if_pos HR.out] at h12
    obtain ⟨v12, rfl, ho12⟩ := h12
    have Rs := Lib.hid ho12.rw
    have Rv := Lib.hid (Rv.out.below hb12)
    have G0 := Lib.hid (carry hb12 G0.out)
    have Ra := Lib.hid (Ra.out.below hb12)
    have Ga := Lib.hid (carry hb12 Ga.out)
    have Rb := Lib.hid (Rb.out.below hb12)
    have Gb := Lib.hid (carry hb12 Gb.out)
    have Rc := Lib.hid (Rc.out.below hb12)
    have Gc := Lib.hid (carry hb12 Gc.out)
    have Rd := Lib.hid (Rd.out.below hb12)
    have Gdd := Lib.hid (carry hb12 Gdd.out)
    have HW := Lib.hid (HW.out.trans (hb12.mono HW.out.size))
    clear hb12
    go_wp2_with fail
    refine (is_grid_any gw gh _ (scrollL gw.toNat L) _ Rs.out (by rw [scrollL_len]; exact hm) (S.below HW.out)).mono ?_
    rintro e w13 ⟨rfl, hb13⟩
    rw [decide_eq_true (scrollL_right HR.out)]
    have Rv := Lib.hid (Rv.out.below hb13)
    have G0 := Lib.hid (carry hb13 G0.out)
    have Ra := Lib.hid (Ra.out.below hb13)
    have Ga := Lib.hid (carry hb13 Ga.out)
    have Rb := Lib.hid (Rb.out.below hb13)
    have Gb := Lib.hid (carry hb13 Gb.out)
    have Rc := Lib.hid (Rc.out.below hb13)
    have Gc := Lib.hid (carry hb13 Gc.out)
    have Rd := Lib.hid (Rd.out.below hb13)
    have Gdd := Lib.hid (carry hb13 Gdd.out)
    have Rs := Lib.hid (Rs.out.below hb13)
    have HW := Lib.hid (HW.out.trans (hb13.mono HW.out.size))
    clear hb13
    obtain ⟨Gdda, Gddb, Gddc, Gddd, Gdde, Gddf, Gddl⟩ := blk3 Gdd.out
    go_wp2_with fail
    clear Gdda Gddb Gddc Gddd Gdde Gddf Gddl
    refine (is_grid_any x y _ (newL x y) _ Rd.out HL4.out (S.below HW.out)).mono ?_
    rintro e w14 ⟨rfl, hb14⟩
    rw [decide_eq_true HR4.out]
    have Rv := Lib.hid (Rv.out.below hb14)
    have G0 := Lib.hid (carry hb14 G0.out)
    have Ra := Lib.hid (Ra.out.below hb14)
    have Ga := Lib.hid (carry hb14 Ga.out)
    have Rb := Lib.hid (Rb.out.below hb14)
    have Gb := Lib.hid (carry hb14 Gb.out)
    have Rc := Lib.hid (Rc.out.below hb14)
    have Gc := Lib.hid (carry hb14 Gc.out)
    have Rd := Lib.hid (Rd.out.below hb14)
    have Gdd := Lib.hid (carry hb14 Gdd.out)
    have Rs := Lib.hid (Rs.out.below hb14)
    have HW := Lib.hid (HW.out.trans (hb14.mono HW.out.size))
    clear hb14
    go_wp2
    go_ret
    exact ⟨rfl, HW.out⟩
end Go.Proofs.YtakokmacfdfjhaaDoor
