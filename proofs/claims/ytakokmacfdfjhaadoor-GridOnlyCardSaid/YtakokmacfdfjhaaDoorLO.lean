/- The walk of GridOnly: it returns true, and turns nothing that was there. -/
import Derived.Test.YtakokmacfdfjhaaDoorGdZ
import Derived.BigQuiet
import Derived.BigGuardPart
set_option linter.unusedVariables false
namespace Go.Proofs.YtakokmacfdfjhaaDoor
open Go.RowKit Gl L Wd Gd
namespace Gd
/-- What is told of a put. -/
theorem put_facts {gw gh : Int} {L : List (Int × Int)} {x y r : Int} (h : putB gw gh L x y r = true) : ∃ W H X Y : Nat, gw = W ∧ gh = H ∧ x = X ∧ y = Y ∧ W ≤ 80 ∧ X < W ∧ X + (cl r).length ≤ W ∧ Y * W + W ≤ L.length ∧ L.length ≤ 1920 ∧
    ∀ i, i < L.length → (Y * W + X ≤ i ∧ i < Y * W + X + (cl r).length → (putL gw L x y r).getD i (0, 0) = (cl r).getD (i - (Y * W + X)) (0, 0)) ∧
      (¬ (Y * W + X ≤ i ∧ i < Y * W + X + (cl r).length) → (putL gw L x y r).getD i (0, 0) = L.getD i (0, 0) ∨ (putL gw L x y r).getD i (0, 0) = bl ∧ (i + 1 = Y * W + X ∨ i = Y * W + X + (cl r).length)) := by
  obtain ⟨W, H, X, Y, rfl, rfl, rfl, rfl, hR, hX, hY, hs, h1, h2⟩ := putB_nat h
  have hfr : Y * W + X + (cl r).length ≤ L.length := by omega
  have em : (Y * W + X) % W = X := by rw [Nat.add_comm, Nat.add_mul_mod_self_right, Nat.mod_eq_of_lt hX]
  have el : putL W L X Y r = lay L (Y * W + X) (cl r) := by
    rw [lay_mend hR hfr (cl_self hs (by rw [em]; omega) (by omega))]; rfl
  refine ⟨W, H, X, Y, rfl, rfl, rfl, rfl, hR.w80, hX, h1, h2, by rw [hR.len]; exact Nat.mul_le_mul hR.w80 hR.h24, fun i hi => ?_⟩
  rw [el, lay_at hR hfr]
  refine ⟨fun hin => by rw [if_pos hin], fun hout => ?_⟩
  rw [if_neg hout]
  split
  · rename_i hq; exact .inr ⟨rfl, .inl hq.2.1⟩
  · split
    · rename_i hq; exact .inr ⟨rfl, .inr hq.2.1⟩
    · exact .inl rfl
end Gd
set_option maxRecDepth 100000 in
set_option maxHeartbeats 16000000 in
theorem only_law (gw gh x y r : Int) (v : Value) (L : List (Int × Int)) (w : World) (hv : Rw w v 2 L.length (flat L)) (hm : L.length ≤ maxLen) (hcp : Capped v) (S : Spans w 1) (T : Blk w 0) :
    Calls Tryd.prog 8 #[.agg #[.int .i64 gw, .int .i64 gh, v], .int .i64 x, .int .i64 y, .int .i32 r] w fun e w' => e = .returned (.bool true) ∧ Below w.heap.size w w' := by
  obtain ⟨A, cap, rfl⟩ : ∃ A cap, v = .slice A L.length cap := ⟨_, _, hv.2.choose_spec.choose_spec.1⟩
  have HW := Lib.hid ((Below.refl w.heap.size w).alloc (Nat.le_refl _) (.cells #[.int .i64 gw, .int .i64 gh, .slice A L.length cap] 24))
  have Rv := Lib.hid (hv.alloc (.cells #[.int .i64 gw, .int .i64 gh, .slice A L.length cap] 24))
  have G0 := Lib.hid (heap_alloc_new w (.cells #[.int .i64 gw, .int .i64 gh, .slice A L.length cap] 24))
  by_cases hbig : 3000 < L.length
  · go_enter Tryd.func8, Tryd.ntmps8
    go_wp2_with fail
    refine (big_any gw gh _ L _ Rv.out).mono ?_
    rintro e w1 ⟨rfl, hb1⟩
    rw [decide_eq_true hbig]
    go_wp2
    go_ret
    exact ⟨rfl, HW.out.trans (hb1.mono HW.out.size)⟩
  obtain ⟨i0, hi0, hz0, hz1, hz2⟩ := info_parts Tryd.info30
  have hbig2 : L.length ≤ 3000 := by omega
  cases hc : putB gw gh L x y r
  ·
    have HC := Lib.hid hc
    clear hc
    go_enter Tryd.func8, Tryd.ntmps8
    go_wp2_with fail
    refine (big_any gw gh _ L _ Rv.out).mono ?_
    rintro e w1 ⟨rfl, hb1⟩
    rw [decide_eq_false hbig]
    have Rv := Lib.hid (Rv.out.below hb1)
    have G0 := Lib.hid (carry hb1 G0.out)
    have HW := Lib.hid (HW.out.trans (hb1.mono HW.out.size))
    clear hb1
    obtain ⟨G0a, G0b, G0c, G0d, G0e, G0f, G0l⟩ := blk3 G0.out
    have hown0 : (w1.alloc (.cells #[] 30)).ownsRow w1.heap.size 30 2 (.slice (some ⟨w1.heap.size, 0, none⟩) 0 0) 0 [] := World.ownsRow_made (base := w1.heap.size) (e := 30) (size := 2) w1 #[] 0 (Nat.le_refl _) (by decide) (by simp)
    have RvA := Lib.hid (Rv.out.alloc (.cells #[] 30))
    go_wp2_with (at_builtin; refine wpList_append_rw rfl (.tmp 18) (.tmp 20) 22 rfl w1.heap.size 30 i0 _ 2 16 Tryd.underlying22 hi0 hz0 hz1 hz2 rfl (by decide) _ _ _ rfl hown0 _ _ _ rfl RvA.out (flat_one _) (by unfold maxLen; omega) (by omega) (by simp) ?_)
    intro vw w2 hown' hgr hne'
    have hb2 : Below w1.heap.size w1 w2 := Below.of_grown ((Below.refl w1.heap.size w1).alloc (Nat.le_refl _) (.cells #[] 30)) hown0 hgr (by simp) (Nat.le_refl _)
    clear G0a G0b G0c G0d G0e G0f G0l
    have Rv := Lib.hid (Rv.out.below hb2)
    have G0 := Lib.hid (carry hb2 G0.out)
    have HW := Lib.hid (HW.out.trans (hb2.mono HW.out.size))
    obtain ⟨gs, caps, rfl, hcaps⟩ := Rw.form_ne hown' hne'
    have Rs := Lib.hid (Rw.of_owns hown')
    clear hb2 hown' hown0 hgr hne' RvA
    obtain ⟨G0a, G0b, G0c, G0d, G0e, G0f, G0l⟩ := blk3 G0.out
    go_wp2_with fail
    clear G0a G0b G0c G0d G0e G0f G0l
    refine (put_any gw gh x y r _ L _ Rv.out hm (S.below HW.out) (T.below HW.out)).mono ?_
    rintro e w3 ⟨h3, hb3⟩
    obtain rfl := h3.isnt HC.out
    have Rv := Lib.hid (Rv.out.below hb3)
    have G0 := Lib.hid (carry hb3 G0.out)
    have Rs := Lib.hid (Rs.out.below hb3)
    have HW := Lib.hid (HW.out.trans (hb3.mono HW.out.size))
    clear hb3
    obtain ⟨G0a, G0b, G0c, G0d, G0e, G0f, G0l⟩ := blk3 G0.out
    have Rv := Lib.hid (Rv.out.alloc (.cells #[.int .i64 0, .int .i64 0, .slice none 0 0] 24))
    have G0 := Lib.hid (carryA (.cells #[.int .i64 0, .int .i64 0, .slice none 0 0] 24) G0.out)
    have Rs := Lib.hid (Rs.out.alloc (.cells #[.int .i64 0, .int .i64 0, .slice none 0 0] 24))
    have HW := Lib.hid (HW.out.alloc HW.out.size (.cells #[.int .i64 0, .int .i64 0, .slice none 0 0] 24))
    go_wp2_with fail
    clear G0a G0b G0c G0d G0e G0f G0l
    refine (same2_any _ _ L L _ Rv.out Rs.out (by omega) (by omega)).mono ?_
    rintro e w5 ⟨rfl, hb5⟩
    rw [decide_eq_true rfl]
    have Rv := Lib.hid (Rv.out.below hb5)
    have G0 := Lib.hid (carry hb5 G0.out)
    have Rs := Lib.hid (Rs.out.below hb5)
    have HW := Lib.hid (HW.out.trans (hb5.mono HW.out.size))
    clear hb5
    go_wp2_with fail
    refine (gridded_any _ (S.below HW.out) (T.below HW.out)).mono ?_
    rintro e w4 ⟨rfl, hb4⟩
    have Rv := Lib.hid (Rv.out.below hb4)
    have G0 := Lib.hid (carry hb4 G0.out)
    have Rs := Lib.hid (Rs.out.below hb4)
    have HW := Lib.hid (HW.out.trans (hb4.mono HW.out.size))
    clear hb4
    go_wp2
    go_ret
    exact ⟨rfl, HW.out⟩
  ·
    have hML := putL_len hc
    obtain ⟨W, H, X, Y, rfl, rfl, rfl, rfl, w80, hX, hXc, hYW, hlen, hat⟩ := put_facts hc
    obtain ⟨M, hM⟩ : ∃ M, M = putL W L X Y r := ⟨_, rfl⟩
    have HM := Lib.hid hM
    rw [← hM] at hML hat
    have hcl := cl_len r
    have HAT := Lib.hid hat
    have HML := Lib.hid hML
    have HC := Lib.hid hc
    clear hc hat hML hM
    go_enter Tryd.func8, Tryd.ntmps8
    go_wp2_with fail
    refine (big_any W H _ L _ Rv.out).mono ?_
    rintro e w1 ⟨rfl, hb1⟩
    rw [decide_eq_false hbig]
    have Rv := Lib.hid (Rv.out.below hb1)
    have G0 := Lib.hid (carry hb1 G0.out)
    have HW := Lib.hid (HW.out.trans (hb1.mono HW.out.size))
    clear hb1
    obtain ⟨G0a, G0b, G0c, G0d, G0e, G0f, G0l⟩ := blk3 G0.out
    have hown0 : (w1.alloc (.cells #[] 30)).ownsRow w1.heap.size 30 2 (.slice (some ⟨w1.heap.size, 0, none⟩) 0 0) 0 [] := World.ownsRow_made (base := w1.heap.size) (e := 30) (size := 2) w1 #[] 0 (Nat.le_refl _) (by decide) (by simp)
    have RvA := Lib.hid (Rv.out.alloc (.cells #[] 30))
    go_wp2_with (at_builtin; refine wpList_append_rw rfl (.tmp 18) (.tmp 20) 22 rfl w1.heap.size 30 i0 _ 2 16 Tryd.underlying22 hi0 hz0 hz1 hz2 rfl (by decide) _ _ _ rfl hown0 _ _ _ rfl RvA.out (flat_one _) (by unfold maxLen; omega) (by omega) (by simp) ?_)
    intro vw w2 hown' hgr hne'
    have hb2 : Below w1.heap.size w1 w2 := Below.of_grown ((Below.refl w1.heap.size w1).alloc (Nat.le_refl _) (.cells #[] 30)) hown0 hgr (by simp) (Nat.le_refl _)
    clear G0a G0b G0c G0d G0e G0f G0l
    have Rv := Lib.hid (Rv.out.below hb2)
    have G0 := Lib.hid (carry hb2 G0.out)
    have HW := Lib.hid (HW.out.trans (hb2.mono HW.out.size))
    obtain ⟨gs, caps, rfl, hcaps⟩ := Rw.form_ne hown' hne'
    have Rs := Lib.hid (Rw.of_owns hown')
    clear hb2 hown' hown0 hgr hne' RvA
    obtain ⟨G0a, G0b, G0c, G0d, G0e, G0f, G0l⟩ := blk3 G0.out
    go_wp2_with fail
    clear G0a G0b G0c G0d G0e G0f G0l
    refine (put_any W H X Y r _ L _ Rv.out hm (S.below HW.out) (T.below HW.out)).mono ?_
    rintro e w3 ⟨h3, hb3⟩
    obtain ⟨g3, cap3, rfl, hcap3, hr3⟩ := (h3.is HC.out).op (n := L.length) (by rw [← HM.out]; exact HML.out)
    rw [← HM.out] at hr3
    have Rv := Lib.hid (Rv.out.below hb3)
    have G0 := Lib.hid (carry hb3 G0.out)
    have Rs := Lib.hid (Rs.out.below hb3)
    have HW := Lib.hid (HW.out.trans (hb3.mono HW.out.size))
    clear hb3
    obtain ⟨G0a, G0b, G0c, G0d, G0e, G0f, G0l⟩ := blk3 G0.out
    have Ra := Lib.hid hr3
    clear hr3
    have Rv := Lib.hid (Rv.out.alloc (.cells #[.int .i64 W, .int .i64 H, .slice (some ⟨g3, 0, none⟩) L.length cap3] 24))
    have G0 := Lib.hid (carryA (.cells #[.int .i64 W, .int .i64 H, .slice (some ⟨g3, 0, none⟩) L.length cap3] 24) G0.out)
    have Rs := Lib.hid (Rs.out.alloc (.cells #[.int .i64 W, .int .i64 H, .slice (some ⟨g3, 0, none⟩) L.length cap3] 24))
    have Ra := Lib.hid (Ra.out.alloc (.cells #[.int .i64 W, .int .i64 H, .slice (some ⟨g3, 0, none⟩) L.length cap3] 24))
    have HW := Lib.hid (HW.out.alloc HW.out.size (.cells #[.int .i64 W, .int .i64 H, .slice (some ⟨g3, 0, none⟩) L.length cap3] 24))
    have Ga := Lib.hid (heap_alloc_new w3 (.cells #[.int .i64 W, .int .i64 H, .slice (some ⟨g3, 0, none⟩) L.length cap3] 24))
    go_wp2_with fail
    clear G0a G0b G0c G0d G0e G0f G0l
    refine (same2_any _ _ L L _ Rv.out Rs.out (by omega) (by omega)).mono ?_
    rintro e w5 ⟨rfl, hb5⟩
    rw [decide_eq_true rfl]
    have Rv := Lib.hid (Rv.out.below hb5)
    have G0 := Lib.hid (carry hb5 G0.out)
    have Rs := Lib.hid (Rs.out.below hb5)
    have Ra := Lib.hid (Ra.out.below hb5)
    have Ga := Lib.hid (carry hb5 Ga.out)
    have HW := Lib.hid (HW.out.trans (hb5.mono HW.out.size))
    clear hb5
    go_wp2_with fail
    refine (cells_any r _ (S.below HW.out)).mono ?_
    rintro e w6 ⟨gc, capc, rfl, hrc, hb6⟩
    have Rv := Lib.hid (Rv.out.below hb6)
    have G0 := Lib.hid (carry hb6 G0.out)
    have Rs := Lib.hid (Rs.out.below hb6)
    have Ra := Lib.hid (Ra.out.below hb6)
    have Ga := Lib.hid (carry hb6 Ga.out)
    have HW := Lib.hid (HW.out.trans (hb6.mono HW.out.size))
    clear hb6
    have Rc := Lib.hid hrc
    clear hrc
    obtain ⟨G0a, G0b, G0c, G0d, G0e, G0f, G0l⟩ := blk3 G0.out
    obtain ⟨Gaa, Gab, Gac, Gad, Gae, Gaf, Gal⟩ := blk3 Ga.out
    have d5 : decide (((cl r).length : Int) < 1) = false := by rw [decide_eq_false_iff_not]; omega
    have d6 : decide ((W : Int) < (X : Int) + ((cl r).length : Int)) = false := by rw [decide_eq_false_iff_not]; omega
    go_wp2
    clear G0a G0b G0c G0d G0e G0f G0l
    clear Gaa Gab Gac Gad Gae Gaf Gal
    clear d5 d6
    go_loopw [13] (fun i wr => ∃ k : Nat, k ≤ L.length ∧ i = .int .i64 k ∧ Below w6.heap.size w6 wr) (fun i _ => L.length - (intOf i).toNat)
    case atStart => exact ⟨0, Nat.zero_le _, rfl, Below.refl _ _⟩
    case round =>
      obtain ⟨k, hk, rfl, hw⟩ := hrel
      have HB := Lib.hid hw
      have Rv := Lib.hid (Rv.out.below hw)
      have G0 := Lib.hid (carry hw G0.out)
      have Rs := Lib.hid (Rs.out.below hw)
      have Ra := Lib.hid (Ra.out.below hw)
      have Ga := Lib.hid (carry hw Ga.out)
      have Rc := Lib.hid (Rc.out.below hw)
      have HW := Lib.hid (HW.out.trans (hw.mono HW.out.size))
      clear hw
      obtain ⟨G0a, G0b, G0c, G0d, G0e, G0f, G0l⟩ := blk3 G0.out
      obtain ⟨Gaa, Gab, Gac, Gad, Gae, Gaf, Gal⟩ := blk3 Ga.out
      by_cases hlt : k < L.length
      · obtain ⟨f1, f2⟩ := HAT.out k hlt
        have HRa : ∀ j, j < L.length → wr.cell? ⟨g3, 0 + j * 2, none⟩ = some (.int .i32 (M.getD j (0, 0)).1) ∧ wr.cell? ⟨g3, 0 + j * 2 + 1, none⟩ = some (.int .i64 (M.getD j (0, 0)).2) := fun j hj => Rw.at2 (n := L.length) (l := M) (cap := cap3) (b := g3) (off := 0) Ra.out j (by rw [HML.out]; exact hj)
        obtain ⟨p1, p2⟩ := HRa k hlt
        clear HRa
        obtain ⟨b, off, rfl, _, hcL⟩ := Rw.cell2 Rv.out (by omega)
        obtain ⟨p3, p4⟩ := hcL k hlt
        clear hcL
        rw [Nat.zero_add] at p1 p2
        have m0 : 0 ≤ (Y : Int) * (W : Int) := Int.mul_nonneg (Int.natCast_nonneg _) (Int.natCast_nonneg _)
        have m1 : (Y : Int) * (W : Int) ≤ 1920 := by rw [← Int.natCast_mul]; omega
        by_cases hin : Y * W + X ≤ k ∧ k < Y * W + X + (cl r).length
        · have f1 := f1 hin
          clear f2
          obtain ⟨j, hj⟩ : ∃ j, k = Y * W + X + j := ⟨k - (Y * W + X), by omega⟩
          rw [show k - (Y * W + X) = j by omega] at f1
          have hjl : j < (cl r).length := by omega
          obtain ⟨p5, p6⟩ := Rw.at2 (n := (cl r).length) (l := cl r) (cap := capc) (b := gc) (off := 0) Rc.out j hjl
          rw [Nat.zero_add] at p5 p6
          rw [← f1] at p5 p6
          clear f1
          generalize hm1 : M.getD k (0, 0) = c1 at p1 p2 p5 p6
          obtain ⟨x1, y1⟩ := c1
          simp only at p1 p2 p5 p6
          clear hm1
          have q1 : (k : Int) = (Y : Int) * (W : Int) + (X : Int) + (j : Int) := by rw [hj]; simp
          have d1 : decide ((X : Int) ≤ (k : Int) - (Y : Int) * (W : Int)) = true := by rw [decide_eq_true_iff]; omega
          have d2 : decide ((k : Int) - (Y : Int) * (W : Int) < (X : Int) + ((cl r).length : Int)) = true := by rw [decide_eq_true_iff]; omega
          have n1 : 0 ≤ (k : Int) - (Y : Int) * (W : Int) - (X : Int) := by omega
          have n2 : ((k : Int) - (Y : Int) * (W : Int) - (X : Int)).toNat = j := by omega
          have n3 : (k : Int) - (Y : Int) * (W : Int) - (X : Int) < ((cl r).length : Int) := by omega
          clear q1 hj
          go_wp2
          have s1 := IntWalk.i64_in ((k : Int) - (Y : Int) * (W : Int) - (X : Int)) (by omega)
          go_quiet (fail)
          clear s1 n1 n2 n3
          go_wp2
          go_roundw
          case rel => exact ⟨k + 1, by omega, by go_num, below_drewN' HB.out _⟩
          case measure => simp [intOf]; omega
        · have f2 := f2 hin
          clear f1
          generalize hm1 : M.getD k (0, 0) = c1 at p1 p2 f2
          generalize hm2 : L.getD k (0, 0) = c2 at p3 p4 f2
          obtain ⟨x1, y1⟩ := c1
          obtain ⟨x2, y2⟩ := c2
          simp only at p1 p2 p3 p4
          clear hm1 hm2
          have q0 : ((Y * W : Nat) : Int) = (Y : Int) * (W : Int) := Int.natCast_mul _ _
          by_cases heq : x1 = x2 ∧ y1 = y2
          · obtain ⟨rfl, rfl⟩ := heq
            clear f2
            by_cases hlo : k < Y * W + X
            · have d1 : decide ((X : Int) ≤ (k : Int) - (Y : Int) * (W : Int)) = false := by rw [decide_eq_false_iff_not]; omega
              clear hin hlo q0
              go_wp2
              have s1 := IntWalk.i64_in ((X : Int) - 1) (by omega)
              have s2 := IntWalk.i64_in ((X : Int) + ((cl r).length : Int)) (by omega)
              go_quiet (fail)
              clear s1 s2
              go_wp2
              go_roundw
              case rel => exact ⟨k + 1, by omega, by go_num, below_drewN' HB.out _⟩
              case measure => simp [intOf]; omega
            · have d1 : decide ((X : Int) ≤ (k : Int) - (Y : Int) * (W : Int)) = true := by rw [decide_eq_true_iff]; omega
              have d2 : decide ((k : Int) - (Y : Int) * (W : Int) < (X : Int) + ((cl r).length : Int)) = false := by rw [decide_eq_false_iff_not]; omega
              clear hin hlo q0
              go_wp2
              have s1 := IntWalk.i64_in ((X : Int) - 1) (by omega)
              have s2 := IntWalk.i64_in ((X : Int) + ((cl r).length : Int)) (by omega)
              go_quiet (fail)
              clear s1 s2
              go_wp2
              go_roundw
              case rel => exact ⟨k + 1, by omega, by go_num, below_drewN' HB.out _⟩
              case measure => simp [intOf]; omega
          · obtain ⟨f3, f4⟩ := f2.resolve_left (fun h => heq (Prod.mk.inj h))
            obtain ⟨rfl, rfl⟩ := Prod.mk.inj f3
            clear f3 f2
            have hne : (32 : Int) ≠ x2 ∨ 32 = x2 ∧ (0 : Int) ≠ y2 := by
              by_cases hx : (32 : Int) = x2
              · exact .inr ⟨hx, fun hy => heq ⟨hx, hy⟩⟩
              · exact .inl hx
            clear heq
            rcases f4 with f4 | f4
            · have d1 : decide ((X : Int) ≤ (k : Int) - (Y : Int) * (W : Int)) = false := by rw [decide_eq_false_iff_not]; omega
              have e1 : ((k : Int) - (Y : Int) * (W : Int) == (X : Int) - 1) = true := by rw [beq_iff_eq]; omega
              have e2 : ((k : Int) - (Y : Int) * (W : Int) != (X : Int) - 1) = false := by unfold bne; rw [e1]; rfl
              clear hin q0 f4
              rcases hne with h | ⟨rfl, h⟩
              all_goals
                have hbx := beq_eq_false_iff_ne.2 h
                clear h
                go_wp2
                have s1 := IntWalk.i64_in ((X : Int) - 1) (by omega)
                have s2 := IntWalk.i64_in ((X : Int) + ((cl r).length : Int)) (by omega)
                go_quiet (fail)
                clear s1 s2
                go_wp2
                go_roundw
                case rel => exact ⟨k + 1, by omega, by go_num, below_drewN' HB.out _⟩
                case measure => simp [intOf]; omega
            · have d1 : decide ((X : Int) ≤ (k : Int) - (Y : Int) * (W : Int)) = true := by rw [decide_eq_true_iff]; omega
              have d2 : decide ((k : Int) - (Y : Int) * (W : Int) < (X : Int) + ((cl r).length : Int)) = false := by rw [decide_eq_false_iff_not]; omega
              have e1 : ((k : Int) - (Y : Int) * (W : Int) == (X : Int) - 1) = false := by rw [beq_eq_false_iff_ne]; omega
              have e2 : ((k : Int) - (Y : Int) * (W : Int) != (X : Int) - 1) = true := by unfold bne; rw [e1]; rfl
              have e3 : ((k : Int) - (Y : Int) * (W : Int) == (X : Int) + ((cl r).length : Int)) = true := by rw [beq_iff_eq]; omega
              have e4 : ((k : Int) - (Y : Int) * (W : Int) != (X : Int) + ((cl r).length : Int)) = false := by unfold bne; rw [e3]; rfl
              clear hin q0 f4
              rcases hne with h | ⟨rfl, h⟩
              all_goals
                have hbx := beq_eq_false_iff_ne.2 h
                clear h
                go_wp2
                have s1 := IntWalk.i64_in ((X : Int) - 1) (by omega)
                have s2 := IntWalk.i64_in ((X : Int) + ((cl r).length : Int)) (by omega)
                go_quiet (fail)
                clear s1 s2
                go_wp2
                go_roundw
                case rel => exact ⟨k + 1, by omega, by go_num, below_drewN' HB.out _⟩
                case measure => simp [intOf]; omega
      · go_wp2_with fail
        refine (gridded_any _ (S.below HW.out) (T.below HW.out)).mono ?_
        rintro e w8 ⟨rfl, hb8⟩
        go_wp2
        go_ret
        exact ⟨rfl, HW.out.trans (hb8.mono HW.out.size)⟩
end Go.Proofs.YtakokmacfdfjhaaDoor
