/- The walk of GridErases: it returns true, and turns nothing that was there. -/
import Derived.Test.YtakokmacfdfjhaaDoorLS
import Derived.BigQuiet
import Derived.BigGuardPart
set_option linter.unusedVariables false
namespace Go.Proofs.YtakokmacfdfjhaaDoor
open Go.RowKit Gl L Wd Gd
namespace Gd
/-- What is told of blanks. -/
theorem blank_facts {gw gh : Int} {L : List (Int × Int)} {fr to : Int} (h : blankB gw gh L fr to = true) : ∃ F n : Nat, fr = F ∧ to = (F : Int) + n ∧ F + n ≤ L.length ∧ (blankL gw L fr to).length = L.length ∧ blankB gw gh (blankL gw L fr to) fr to = true ∧ blankL gw (blankL gw L fr to) fr to = blankL gw L fr to ∧
    ∀ i, i < L.length → (F ≤ i ∧ i < F + n → (blankL gw L fr to).getD i (0, 0) = bl) ∧ (i + 1 < F ∨ F + n < i → (blankL gw L fr to).getD i (0, 0) = L.getD i (0, 0)) ∧ ((blankL gw L fr to).getD i (0, 0) = bl ∨ (blankL gw L fr to).getD i (0, 0) = L.getD i (0, 0)) := by
  have hl := blankL_len h
  have hr := blankL_right h
  have hB : blankB gw gh (blankL gw L fr to) fr to = true := by
    have h' := h
    unfold blankB at h' ⊢
    rw [hl, decide_eq_true hr]
    simp only [Bool.and_eq_true] at h'
    rw [h'.2]; rfl
  have h2 := h
  unfold blankB at h2
  simp only [Bool.and_eq_true, decide_eq_true_eq] at h2
  obtain ⟨hrL, p1, p2, p3⟩ := h2
  obtain ⟨W, H, rfl, rfl, hR⟩ := right_R hrL
  obtain ⟨F, rfl⟩ : ∃ F : Nat, fr = F := ⟨fr.toNat, by omega⟩
  obtain ⟨n, rfl⟩ : ∃ N : Nat, to = F + N := ⟨(to - F).toNat, by omega⟩
  have hf : F + (List.replicate n bl).length ≤ L.length := by rw [List.length_replicate]; omega
  have key : ∀ M : List (Int × Int), R W H M → F + (List.replicate n bl).length ≤ M.length → blankL W M F (F + n) = lay M F (List.replicate n bl) := fun M hM hfM => by
    rw [lay_mend hM hfM (rep_self _ _ _)]
    unfold blankL
    rw [show ((F : Int) + n - F).toNat = n by omega]
    rfl
  have e1 := key L hR hf
  have at1 : ∀ i, (blankL W L F (F + n)).getD i (0, 0) = _ := fun i => (congrArg (fun l => l.getD i (0, 0)) e1).trans (lay_at hR hf i)
  have hin : ∀ i, F ≤ i ∧ i < F + n → (blankL W L F (F + n)).getD i (0, 0) = bl := fun i hi => by
    rw [at1, List.length_replicate, if_pos hi]
    simp [List.getD, show i - F < n by omega]
  refine ⟨F, n, rfl, rfl, by omega, hl, hB, ?_, fun i hi => ⟨hin i, ?_, ?_⟩⟩
  · have hRM : R W H (blankL W L F (F + n)) := by
      obtain ⟨W', H', e3, e4, hR'⟩ := right_R hr
      have : W = W' := by exact_mod_cast e3
      have : H = H' := by exact_mod_cast e4
      subst_vars
      exact hR'
    have hfM : F + (List.replicate n bl).length ≤ (blankL W L F (F + n)).length := by rw [hl]; exact hf
    rw [key _ hRM hfM]
    apply ext_getD (by rw [lay_len hfM])
    intro i hi
    rw [lay_at hRM hfM, List.length_replicate]
    by_cases c1 : F ≤ i ∧ i < F + n
    · rw [if_pos c1, hin i c1]
      simp [List.getD, show i - F < n by omega]
    · rw [if_neg c1, if_neg, if_neg]
      · rintro ⟨q1, q2, q3⟩
        rw [hin (F + n - 1) (by omega)] at q3
        cases q3
      · rintro ⟨q1, q2, q3⟩
        rw [hin F (by omega)] at q3
        cases q3
  · intro hi2
    rw [at1, List.length_replicate, if_neg (by omega), if_neg (by omega), if_neg (by omega)]
  · rw [at1, List.length_replicate]
    by_cases c1 : F ≤ i ∧ i < F + n
    · left
      rw [if_pos c1]
      simp [List.getD, show i - F < n by omega]
    · rw [if_neg c1]
      split
      · exact .inl rfl
      · split
        · exact .inl rfl
        · exact .inr rfl
end Gd
set_option maxRecDepth 100000 in
set_option maxHeartbeats 16000000 in
theorem erases_law (gw gh fr to : Int) (v : Value) (L : List (Int × Int)) (w : World) (hv : Rw w v 2 L.length (flat L)) (hm : L.length ≤ maxLen) (hcp : Capped v) (bd1 : -9223372036854775808 ≤ fr ∧ fr ≤ 9223372036854775807) (bd2 : -9223372036854775808 ≤ to ∧ to ≤ 9223372036854775807) (S : Spans w 1) (T : Blk w 0) :
    Calls Tryd.prog 9 #[.agg #[.int .i64 gw, .int .i64 gh, v], .int .i64 fr, .int .i64 to] w fun e w' => e = .returned (.bool true) ∧ Below w.heap.size w w' := by
  obtain ⟨A, cap, rfl⟩ : ∃ A cap, v = .slice A L.length cap := ⟨_, _, hv.2.choose_spec.choose_spec.1⟩
  have HW := Lib.hid ((Below.refl w.heap.size w).alloc (Nat.le_refl _) (.cells #[.int .i64 gw, .int .i64 gh, .slice A L.length cap] 24))
  have Rv := Lib.hid (hv.alloc (.cells #[.int .i64 gw, .int .i64 gh, .slice A L.length cap] 24))
  have G0 := Lib.hid (heap_alloc_new w (.cells #[.int .i64 gw, .int .i64 gh, .slice A L.length cap] 24))
  by_cases hbig : 3000 < L.length
  · go_enter Tryd.func9, Tryd.ntmps9
    go_wp2_with fail
    refine (big_any gw gh _ L _ Rv.out).mono ?_
    rintro e w1 ⟨rfl, hb1⟩
    rw [decide_eq_true hbig]
    go_wp2
    go_ret
    exact ⟨rfl, HW.out.trans (hb1.mono HW.out.size)⟩
  obtain ⟨i0, hi0, hz0, hz1, hz2⟩ := info_parts Tryd.info30
  have hbig2 : L.length ≤ 3000 := by omega
  cases hc : blankB gw gh L fr to
  ·
    have HC := Lib.hid hc
    clear hc
    go_enter Tryd.func9, Tryd.ntmps9
    go_wp2_with fail
    refine (big_any gw gh _ L _ Rv.out).mono ?_
    rintro e w1 ⟨rfl, hb1⟩
    rw [decide_eq_false hbig]
    have Rv := Lib.hid (Rv.out.below hb1)
    have G0 := Lib.hid (carry hb1 G0.out)
    have HW := Lib.hid (HW.out.trans (hb1.mono HW.out.size))
    clear hb1
    obtain ⟨G0a, G0b, G0c, G0d, G0e, G0f, G0l⟩ := blk3 G0.out
    have hown0 : (w1.alloc (.cells #[] 30)).ownsRow w1.heap.size 30 2 (.slice (some ⟨w1.heap.size, 0, none⟩) 0 0) 0 [] := World.ownsRow_made (base := w1.heap.size) (e := 30) (size := 2) w1 #[] 0 (Nat.le_refl _) (by decide) (by simp)
    have RvA := Lib.hid (Rv.out.alloc (.cells #[] 30))
    go_wp2_with (at_builtin; refine wpList_append_rw rfl (.tmp 17) (.tmp 19) 22 rfl w1.heap.size 30 i0 _ 2 16 Tryd.underlying22 hi0 hz0 hz1 hz2 rfl (by decide) _ _ _ rfl hown0 _ _ _ rfl RvA.out (flat_one _) (by unfold maxLen; omega) (by omega) (by simp) ?_)
    intro vw w2 hown' hgr hne'
    have hb2 : Below w1.heap.size w1 w2 := Below.of_grown ((Below.refl w1.heap.size w1).alloc (Nat.le_refl _) (.cells #[] 30)) hown0 hgr (by simp) (Nat.le_refl _)
    clear G0a G0b G0c G0d G0e G0f G0l
    have Rv := Lib.hid (Rv.out.below hb2)
    have G0 := Lib.hid (carry hb2 G0.out)
    have HW := Lib.hid (HW.out.trans (hb2.mono HW.out.size))
    obtain ⟨gs, caps, rfl, hcaps⟩ := Rw.form_ne hown' hne'
    have Rs := Lib.hid (Rw.of_owns hown')
    clear hb2 hown' hown0 hgr hne' RvA
    obtain ⟨G0a, G0b, G0c, G0d, G0e, G0f, G0l⟩ := blk3 G0.out
    go_wp2_with fail
    clear G0a G0b G0c G0d G0e G0f G0l
    refine (blank_any gw gh fr to _ L _ Rv.out hm (S.below HW.out) (T.below HW.out)).mono ?_
    rintro e w3 ⟨h3, hb3⟩
    obtain rfl := h3.isnt HC.out
    have Rv := Lib.hid (Rv.out.below hb3)
    have G0 := Lib.hid (carry hb3 G0.out)
    have Rs := Lib.hid (Rs.out.below hb3)
    have HW := Lib.hid (HW.out.trans (hb3.mono HW.out.size))
    clear hb3
    have Rv := Lib.hid (Rv.out.alloc (.cells #[.int .i64 0, .int .i64 0, .slice none 0 0] 24))
    have G0 := Lib.hid (carryA (.cells #[.int .i64 0, .int .i64 0, .slice none 0 0] 24) G0.out)
    have Rs := Lib.hid (Rs.out.alloc (.cells #[.int .i64 0, .int .i64 0, .slice none 0 0] 24))
    have HW := Lib.hid (HW.out.alloc HW.out.size (.cells #[.int .i64 0, .int .i64 0, .slice none 0 0] 24))
    go_wp2_with fail
    refine (gridded_any _ (S.below HW.out) (T.below HW.out)).mono ?_
    rintro e w4 ⟨rfl, hb4⟩
    have Rv := Lib.hid (Rv.out.below hb4)
    have G0 := Lib.hid (carry hb4 G0.out)
    have Rs := Lib.hid (Rs.out.below hb4)
    have HW := Lib.hid (HW.out.trans (hb4.mono HW.out.size))
    clear hb4
    go_wp2
    go_ret
    exact ⟨rfl, HW.out⟩
  ·
    obtain ⟨F, n, rfl, rfl, hFn, hML, hMB, hMM, hat⟩ := blank_facts hc
    obtain ⟨M, hM⟩ : ∃ M, M = blankL gw L F (F + n) := ⟨_, rfl⟩
    have HM := Lib.hid hM
    rw [← hM] at hML hMB hMM hat
    have HAT := Lib.hid hat
    have HMB := Lib.hid hMB
    have HMM := Lib.hid hMM
    have HML := Lib.hid hML
    have HC := Lib.hid hc
    clear hc hat hMB hMM hML hM
    go_enter Tryd.func9, Tryd.ntmps9
    go_wp2_with fail
    refine (big_any gw gh _ L _ Rv.out).mono ?_
    rintro e w1 ⟨rfl, hb1⟩
    rw [decide_eq_false hbig]
    have Rv := Lib.hid (Rv.out.below hb1)
    have G0 := Lib.hid (carry hb1 G0.out)
    have HW := Lib.hid (HW.out.trans (hb1.mono HW.out.size))
    clear hb1
    obtain ⟨G0a, G0b, G0c, G0d, G0e, G0f, G0l⟩ := blk3 G0.out
    have hown0 : (w1.alloc (.cells #[] 30)).ownsRow w1.heap.size 30 2 (.slice (some ⟨w1.heap.size, 0, none⟩) 0 0) 0 [] := World.ownsRow_made (base := w1.heap.size) (e := 30) (size := 2) w1 #[] 0 (Nat.le_refl _) (by decide) (by simp)
    have RvA := Lib.hid (Rv.out.alloc (.cells #[] 30))
    go_wp2_with (at_builtin; refine wpList_append_rw rfl (.tmp 17) (.tmp 19) 22 rfl w1.heap.size 30 i0 _ 2 16 Tryd.underlying22 hi0 hz0 hz1 hz2 rfl (by decide) _ _ _ rfl hown0 _ _ _ rfl RvA.out (flat_one _) (by unfold maxLen; omega) (by omega) (by simp) ?_)
    intro vw w2 hown' hgr hne'
    have hb2 : Below w1.heap.size w1 w2 := Below.of_grown ((Below.refl w1.heap.size w1).alloc (Nat.le_refl _) (.cells #[] 30)) hown0 hgr (by simp) (Nat.le_refl _)
    clear G0a G0b G0c G0d G0e G0f G0l
    have Rv := Lib.hid (Rv.out.below hb2)
    have G0 := Lib.hid (carry hb2 G0.out)
    have HW := Lib.hid (HW.out.trans (hb2.mono HW.out.size))
    obtain ⟨gs, caps, rfl, hcaps⟩ := Rw.form_ne hown' hne'
    have Rs := Lib.hid (Rw.of_owns hown')
    clear hb2 hown' hown0 hgr hne' RvA
    obtain ⟨G0a, G0b, G0c, G0d, G0e, G0f, G0l⟩ := blk3 G0.out
    go_wp2_with fail
    clear G0a G0b G0c G0d G0e G0f G0l
    refine (blank_any gw gh F (F + n) _ L _ Rv.out hm (S.below HW.out) (T.below HW.out)).mono ?_
    rintro e w3 ⟨h3, hb3⟩
    obtain ⟨g3, cap3, rfl, hcap3, hr3⟩ := (h3.is HC.out).op (n := L.length) (by rw [← HM.out]; exact HML.out)
    rw [← HM.out] at hr3
    have Rv := Lib.hid (Rv.out.below hb3)
    have G0 := Lib.hid (carry hb3 G0.out)
    have Rs := Lib.hid (Rs.out.below hb3)
    have HW := Lib.hid (HW.out.trans (hb3.mono HW.out.size))
    clear hb3
    have Ra := Lib.hid hr3
    clear hr3
    have Rv := Lib.hid (Rv.out.alloc (.cells #[.int .i64 gw, .int .i64 gh, .slice (some ⟨g3, 0, none⟩) L.length cap3] 24))
    have G0 := Lib.hid (carryA (.cells #[.int .i64 gw, .int .i64 gh, .slice (some ⟨g3, 0, none⟩) L.length cap3] 24) G0.out)
    have Rs := Lib.hid (Rs.out.alloc (.cells #[.int .i64 gw, .int .i64 gh, .slice (some ⟨g3, 0, none⟩) L.length cap3] 24))
    have Ra := Lib.hid (Ra.out.alloc (.cells #[.int .i64 gw, .int .i64 gh, .slice (some ⟨g3, 0, none⟩) L.length cap3] 24))
    have HW := Lib.hid (HW.out.alloc HW.out.size (.cells #[.int .i64 gw, .int .i64 gh, .slice (some ⟨g3, 0, none⟩) L.length cap3] 24))
    have Ga := Lib.hid (heap_alloc_new w3 (.cells #[.int .i64 gw, .int .i64 gh, .slice (some ⟨g3, 0, none⟩) L.length cap3] 24))
    go_wp2_with fail
    refine (blank_any gw gh F (F + n) _ M _ Ra.out (by rw [HML.out]; exact hm) (S.below HW.out) (T.below HW.out)).mono ?_
    rintro e w4 ⟨h4, hb4⟩
    obtain ⟨g4, cap4, rfl, hcap4, hr4⟩ := (h4.is HMB.out).op (n := L.length) (by rw [HMM.out]; exact HML.out)
    rw [HMM.out] at hr4
    have Rv := Lib.hid (Rv.out.below hb4)
    have G0 := Lib.hid (carry hb4 G0.out)
    have Rs := Lib.hid (Rs.out.below hb4)
    have Ra := Lib.hid (Ra.out.below hb4)
    have Ga := Lib.hid (carry hb4 Ga.out)
    have HW := Lib.hid (HW.out.trans (hb4.mono HW.out.size))
    clear hb4
    obtain ⟨G0a, G0b, G0c, G0d, G0e, G0f, G0l⟩ := blk3 G0.out
    have Rb := Lib.hid hr4
    clear hr4
    have Rv := Lib.hid (Rv.out.alloc (.cells #[.int .i64 gw, .int .i64 gh, .slice (some ⟨g4, 0, none⟩) L.length cap4] 24))
    have G0 := Lib.hid (carryA (.cells #[.int .i64 gw, .int .i64 gh, .slice (some ⟨g4, 0, none⟩) L.length cap4] 24) G0.out)
    have Rs := Lib.hid (Rs.out.alloc (.cells #[.int .i64 gw, .int .i64 gh, .slice (some ⟨g4, 0, none⟩) L.length cap4] 24))
    have Ra := Lib.hid (Ra.out.alloc (.cells #[.int .i64 gw, .int .i64 gh, .slice (some ⟨g4, 0, none⟩) L.length cap4] 24))
    have Ga := Lib.hid (carryA (.cells #[.int .i64 gw, .int .i64 gh, .slice (some ⟨g4, 0, none⟩) L.length cap4] 24) Ga.out)
    have Rb := Lib.hid (Rb.out.alloc (.cells #[.int .i64 gw, .int .i64 gh, .slice (some ⟨g4, 0, none⟩) L.length cap4] 24))
    have HW := Lib.hid (HW.out.alloc HW.out.size (.cells #[.int .i64 gw, .int .i64 gh, .slice (some ⟨g4, 0, none⟩) L.length cap4] 24))
    have Gb := Lib.hid (heap_alloc_new w4 (.cells #[.int .i64 gw, .int .i64 gh, .slice (some ⟨g4, 0, none⟩) L.length cap4] 24))
    go_wp2_with fail
    clear G0a G0b G0c G0d G0e G0f G0l
    refine (same2_any _ _ L L _ Rv.out Rs.out (by omega) (by omega)).mono ?_
    rintro e w5 ⟨rfl, hb5⟩
    rw [decide_eq_true rfl]
    have Rv := Lib.hid (Rv.out.below hb5)
    have G0 := Lib.hid (carry hb5 G0.out)
    have Rs := Lib.hid (Rs.out.below hb5)
    have Ra := Lib.hid (Ra.out.below hb5)
    have Ga := Lib.hid (carry hb5 Ga.out)
    have Rb := Lib.hid (Rb.out.below hb5)
    have Gb := Lib.hid (carry hb5 Gb.out)
    have HW := Lib.hid (HW.out.trans (hb5.mono HW.out.size))
    clear hb5
    obtain ⟨Gaa, Gab, Gac, Gad, Gae, Gaf, Gal⟩ := blk3 Ga.out
    obtain ⟨Gba, Gbb, Gbc, Gbd, Gbe, Gbf, Gbl⟩ := blk3 Gb.out
    go_wp2_with fail
    clear Gaa Gab Gac Gad Gae Gaf Gal
    clear Gba Gbb Gbc Gbd Gbe Gbf Gbl
    refine (same2_any _ _ M M _ Ra.out Rb.out (by rw [HML.out]; omega) (by rw [HML.out]; omega)).mono ?_
    rintro e w6 ⟨rfl, hb6⟩
    rw [decide_eq_true rfl]
    have Rv := Lib.hid (Rv.out.below hb6)
    have G0 := Lib.hid (carry hb6 G0.out)
    have Rs := Lib.hid (Rs.out.below hb6)
    have Ra := Lib.hid (Ra.out.below hb6)
    have Ga := Lib.hid (carry hb6 Ga.out)
    have Rb := Lib.hid (Rb.out.below hb6)
    have Gb := Lib.hid (carry hb6 Gb.out)
    have HW := Lib.hid (HW.out.trans (hb6.mono HW.out.size))
    clear hb6
    obtain ⟨G0a, G0b, G0c, G0d, G0e, G0f, G0l⟩ := blk3 G0.out
    obtain ⟨Gaa, Gab, Gac, Gad, Gae, Gaf, Gal⟩ := blk3 Ga.out
    go_wp2
    clear G0a G0b G0c G0d G0e G0f G0l
    clear Gaa Gab Gac Gad Gae Gaf Gal
    go_loopw [12] (fun i wr => ∃ k : Nat, k ≤ L.length ∧ i = .int .i64 k ∧ Below w6.heap.size w6 wr) (fun i _ => L.length - (intOf i).toNat)
    case atStart => exact ⟨0, Nat.zero_le _, rfl, Below.refl _ _⟩
    case round =>
      obtain ⟨k, hk, rfl, hw⟩ := hrel
      have HB := Lib.hid hw
      have Rv := Lib.hid (Rv.out.below hw)
      have G0 := Lib.hid (carry hw G0.out)
      have Rs := Lib.hid (Rs.out.below hw)
      have Ra := Lib.hid (Ra.out.below hw)
      have Ga := Lib.hid (carry hw Ga.out)
      have Rb := Lib.hid (Rb.out.below hw)
      have Gb := Lib.hid (carry hw Gb.out)
      have HW := Lib.hid (HW.out.trans (hw.mono HW.out.size))
      clear hw
      obtain ⟨G0a, G0b, G0c, G0d, G0e, G0f, G0l⟩ := blk3 G0.out
      obtain ⟨Gaa, Gab, Gac, Gad, Gae, Gaf, Gal⟩ := blk3 Ga.out
      by_cases hlt : k < L.length
      · obtain ⟨f1, f2, f3⟩ := HAT.out k hlt
        have HRa : ∀ j, j < L.length → wr.cell? ⟨g3, 0 + j * 2, none⟩ = some (.int .i32 (M.getD j (0, 0)).1) ∧ wr.cell? ⟨g3, 0 + j * 2 + 1, none⟩ = some (.int .i64 (M.getD j (0, 0)).2) := fun j hj => Rw.at2 (n := L.length) (l := M) (cap := cap3) (b := g3) (off := 0) Ra.out j (by rw [HML.out]; exact hj)
        obtain ⟨p1, p2⟩ := HRa k hlt
        clear HRa
        obtain ⟨b, off, rfl, _, hcL⟩ := Rw.cell2 Rv.out (by omega)
        obtain ⟨p3, p4⟩ := hcL k hlt
        clear hcL
        rw [Nat.zero_add] at p1 p2
        generalize hm1 : M.getD k (0, 0) = c1 at p1 p2 f1 f2 f3
        generalize hm2 : L.getD k (0, 0) = c2 at p3 p4 f2 f3
        obtain ⟨x1, y1⟩ := c1
        obtain ⟨x2, y2⟩ := c2
        simp only at p1 p2 p3 p4
        clear hm1 hm2
        by_cases hin : F ≤ k ∧ k < F + n
        · have f1 := f1 hin
          obtain ⟨rfl, rfl⟩ := Prod.mk.inj f1
          clear f2 f3
          have d1 : decide ((F : Int) ≤ (k : Int)) = true := by rw [decide_eq_true_iff]; omega
          have d1n : decide (F ≤ k) = true := by rw [decide_eq_true_iff]; omega
          have d2 : decide ((k : Int) < (F : Int) + (n : Int)) = true := by rw [decide_eq_true_iff]; omega
          have d2n : decide (k < F + n) = true := by rw [decide_eq_true_iff]; omega
          have d3 : decide ((k : Int) < (F : Int) - 1) = false := by rw [decide_eq_false_iff_not]; omega
          have d4 : decide ((F : Int) + (n : Int) < (k : Int)) = false := by rw [decide_eq_false_iff_not]; omega
          have d4n : decide (F + n < k) = false := by rw [decide_eq_false_iff_not]; omega
          clear hin
          go_wp2
          have s1 := IntWalk.i64_in ((F : Int) - 1) (by omega)
          go_quiet (fail)
          clear s1
          go_wp2
          go_roundw
          case rel => exact ⟨k + 1, by omega, by go_num, below_drewN' HB.out _⟩
          case measure => simp [intOf]; omega
        clear f1
        by_cases hlo : k < F
        · by_cases hlo2 : k + 1 < F
          · have f2 := f2 (.inl hlo2)
            by_cases hbl : x1 = 32 ∧ y1 = 0
            · obtain ⟨rfl, rfl⟩ := hbl
              obtain ⟨rfl, rfl⟩ := Prod.mk.inj f2
              clear f3
              have d1 : decide ((F : Int) ≤ (k : Int)) = false := by rw [decide_eq_false_iff_not]; omega
              have d1n : decide (F ≤ k) = false := by rw [decide_eq_false_iff_not]; omega
              have d3 : decide ((k : Int) < (F : Int) - 1) = true := by rw [decide_eq_true_iff]; omega
              clear hlo hlo2 hin
              go_wp2
              have s1 := IntWalk.i64_in ((F : Int) - 1) (by omega)
              go_quiet (fail)
              clear s1
              go_wp2
              go_roundw
              case rel => exact ⟨k + 1, by omega, by go_num, below_drewN' HB.out _⟩
              case measure => simp [intOf]; omega
            · obtain ⟨rfl, rfl⟩ := Prod.mk.inj f2
              clear f3
              have d1 : decide ((F : Int) ≤ (k : Int)) = false := by rw [decide_eq_false_iff_not]; omega
              have d1n : decide (F ≤ k) = false := by rw [decide_eq_false_iff_not]; omega
              have d3 : decide ((k : Int) < (F : Int) - 1) = true := by rw [decide_eq_true_iff]; omega
              clear hlo hlo2 hin
              rcases (show x1 ≠ 32 ∨ x1 = 32 ∧ y1 ≠ 0 by omega) with h | ⟨rfl, h⟩
              all_goals
                have hbx := beq_eq_false_iff_ne.2 h
                clear h hbl
                go_wp2
                have s1 := IntWalk.i64_in ((F : Int) - 1) (by omega)
                go_quiet (fail)
                clear s1
                go_wp2
                go_roundw
                case rel => exact ⟨k + 1, by omega, by go_num, below_drewN' HB.out _⟩
                case measure => simp [intOf]; omega
          · clear f2
            have f2 : True := trivial
            by_cases hbl : x1 = 32 ∧ y1 = 0
            · obtain ⟨rfl, rfl⟩ := hbl
              clear f2 f3
              have d1 : decide ((F : Int) ≤ (k : Int)) = false := by rw [decide_eq_false_iff_not]; omega
              have d1n : decide (F ≤ k) = false := by rw [decide_eq_false_iff_not]; omega
              have d3 : decide ((k : Int) < (F : Int) - 1) = false := by rw [decide_eq_false_iff_not]; omega
              have d4 : decide ((F : Int) + (n : Int) < (k : Int)) = false := by rw [decide_eq_false_iff_not]; omega
              have d4n : decide (F + n < k) = false := by rw [decide_eq_false_iff_not]; omega
              clear hlo hlo2 hin
              go_wp2
              have s1 := IntWalk.i64_in ((F : Int) - 1) (by omega)
              go_quiet (fail)
              clear s1
              go_wp2
              go_roundw
              case rel => exact ⟨k + 1, by omega, by go_num, below_drewN' HB.out _⟩
              case measure => simp [intOf]; omega
            · obtain ⟨rfl, rfl⟩ := Prod.mk.inj (f3.resolve_left (fun h => hbl (Prod.mk.inj h)))
              clear f2
              clear f3
              have d1 : decide ((F : Int) ≤ (k : Int)) = false := by rw [decide_eq_false_iff_not]; omega
              have d1n : decide (F ≤ k) = false := by rw [decide_eq_false_iff_not]; omega
              have d3 : decide ((k : Int) < (F : Int) - 1) = false := by rw [decide_eq_false_iff_not]; omega
              have d4 : decide ((F : Int) + (n : Int) < (k : Int)) = false := by rw [decide_eq_false_iff_not]; omega
              have d4n : decide (F + n < k) = false := by rw [decide_eq_false_iff_not]; omega
              clear hlo hlo2 hin
              rcases (show x1 ≠ 32 ∨ x1 = 32 ∧ y1 ≠ 0 by omega) with h | ⟨rfl, h⟩
              all_goals
                have hbx := beq_eq_false_iff_ne.2 h
                clear h hbl
                go_wp2
                have s1 := IntWalk.i64_in ((F : Int) - 1) (by omega)
                go_quiet (fail)
                clear s1
                go_wp2
                go_roundw
                case rel => exact ⟨k + 1, by omega, by go_num, below_drewN' HB.out _⟩
                case measure => simp [intOf]; omega
        · by_cases hhi : F + n < k
          · have f2 := f2 (.inr hhi)
            by_cases hbl : x1 = 32 ∧ y1 = 0
            · obtain ⟨rfl, rfl⟩ := hbl
              obtain ⟨rfl, rfl⟩ := Prod.mk.inj f2
              clear f3
              have d1 : decide ((F : Int) ≤ (k : Int)) = true := by rw [decide_eq_true_iff]; omega
              have d1n : decide (F ≤ k) = true := by rw [decide_eq_true_iff]; omega
              have d2 : decide ((k : Int) < (F : Int) + (n : Int)) = false := by rw [decide_eq_false_iff_not]; omega
              have d2n : decide (k < F + n) = false := by rw [decide_eq_false_iff_not]; omega
              have d3 : decide ((k : Int) < (F : Int) - 1) = false := by rw [decide_eq_false_iff_not]; omega
              have d4 : decide ((F : Int) + (n : Int) < (k : Int)) = true := by rw [decide_eq_true_iff]; omega
              have d4n : decide (F + n < k) = true := by rw [decide_eq_true_iff]; omega
              clear hlo hhi hin
              go_wp2
              have s1 := IntWalk.i64_in ((F : Int) - 1) (by omega)
              go_quiet (fail)
              clear s1
              go_wp2
              go_roundw
              case rel => exact ⟨k + 1, by omega, by go_num, below_drewN' HB.out _⟩
              case measure => simp [intOf]; omega
            · obtain ⟨rfl, rfl⟩ := Prod.mk.inj f2
              clear f3
              have d1 : decide ((F : Int) ≤ (k : Int)) = true := by rw [decide_eq_true_iff]; omega
              have d1n : decide (F ≤ k) = true := by rw [decide_eq_true_iff]; omega
              have d2 : decide ((k : Int) < (F : Int) + (n : Int)) = false := by rw [decide_eq_false_iff_not]; omega
              have d2n : decide (k < F + n) = false := by rw [decide_eq_false_iff_not]; omega
              have d3 : decide ((k : Int) < (F : Int) - 1) = false := by rw [decide_eq_false_iff_not]; omega
              have d4 : decide ((F : Int) + (n : Int) < (k : Int)) = true := by rw [decide_eq_true_iff]; omega
              have d4n : decide (F + n < k) = true := by rw [decide_eq_true_iff]; omega
              clear hlo hhi hin
              rcases (show x1 ≠ 32 ∨ x1 = 32 ∧ y1 ≠ 0 by omega) with h | ⟨rfl, h⟩
              all_goals
                have hbx := beq_eq_false_iff_ne.2 h
                clear h hbl
                go_wp2
                have s1 := IntWalk.i64_in ((F : Int) - 1) (by omega)
                go_quiet (fail)
                clear s1
                go_wp2
                go_roundw
                case rel => exact ⟨k + 1, by omega, by go_num, below_drewN' HB.out _⟩
                case measure => simp [intOf]; omega
          · clear f2
            have f2 : True := trivial
            by_cases hbl : x1 = 32 ∧ y1 = 0
            · obtain ⟨rfl, rfl⟩ := hbl
              clear f2 f3
              have d1 : decide ((F : Int) ≤ (k : Int)) = true := by rw [decide_eq_true_iff]; omega
              have d1n : decide (F ≤ k) = true := by rw [decide_eq_true_iff]; omega
              have d2 : decide ((k : Int) < (F : Int) + (n : Int)) = false := by rw [decide_eq_false_iff_not]; omega
              have d2n : decide (k < F + n) = false := by rw [decide_eq_false_iff_not]; omega
              have d3 : decide ((k : Int) < (F : Int) - 1) = false := by rw [decide_eq_false_iff_not]; omega
              have d4 : decide ((F : Int) + (n : Int) < (k : Int)) = false := by rw [decide_eq_false_iff_not]; omega
              have d4n : decide (F + n < k) = false := by rw [decide_eq_false_iff_not]; omega
              clear hlo hhi hin
              go_wp2
              have s1 := IntWalk.i64_in ((F : Int) - 1) (by omega)
              go_quiet (fail)
              clear s1
              go_wp2
              go_roundw
              case rel => exact ⟨k + 1, by omega, by go_num, below_drewN' HB.out _⟩
              case measure => simp [intOf]; omega
            · obtain ⟨rfl, rfl⟩ := Prod.mk.inj (f3.resolve_left (fun h => hbl (Prod.mk.inj h)))
              clear f2
              clear f3
              have d1 : decide ((F : Int) ≤ (k : Int)) = true := by rw [decide_eq_true_iff]; omega
              have d1n : decide (F ≤ k) = true := by rw [decide_eq_true_iff]; omega
              have d2 : decide ((k : Int) < (F : Int) + (n : Int)) = false := by rw [decide_eq_false_iff_not]; omega
              have d2n : decide (k < F + n) = false := by rw [decide_eq_false_iff_not]; omega
              have d3 : decide ((k : Int) < (F : Int) - 1) = false := by rw [decide_eq_false_iff_not]; omega
              have d4 : decide ((F : Int) + (n : Int) < (k : Int)) = false := by rw [decide_eq_false_iff_not]; omega
              have d4n : decide (F + n < k) = false := by rw [decide_eq_false_iff_not]; omega
              clear hlo hhi hin
              rcases (show x1 ≠ 32 ∨ x1 = 32 ∧ y1 ≠ 0 by omega) with h | ⟨rfl, h⟩
              all_goals
                have hbx := beq_eq_false_iff_ne.2 h
                clear h hbl
                go_wp2
                have s1 := IntWalk.i64_in ((F : Int) - 1) (by omega)
                go_quiet (fail)
                clear s1
                go_wp2
                go_roundw
                case rel => exact ⟨k + 1, by omega, by go_num, below_drewN' HB.out _⟩
                case measure => simp [intOf]; omega
      · go_wp2_with fail
        refine (gridded_any _ (S.below HW.out) (T.below HW.out)).mono ?_
        rintro e w8 ⟨rfl, hb8⟩
        go_wp2
        go_ret
        exact ⟨rfl, HW.out.trans (hb8.mono HW.out.size)⟩
end Go.Proofs.YtakokmacfdfjhaaDoor
