/- The walks of FlowDoes, FlowLays and FlowCells: each returns true, and turns nothing that was there. -/
import Derived.Test.YtjojbhlhfjaacaaDoorFlH
set_option linter.unusedVariables false
namespace Go.Proofs.YtjojbhlhfjaacaaDoor
open Go.RowKit Gl L Wd Fl
set_option maxHeartbeats 1000000 in
theorem does_law (a b r : Int) (w : World) (S : Spans w 1) (T : Blk w 0) : Calls Tryd.prog 3 #[.int .i64 a, .int .i64 b, .int .i32 r] w fun e w' => e = .returned (.bool true) ∧ Below w.heap.size w w' := by
  generalize h1 : p1 a b r = x1
  generalize h2 : p2 a b r = x2
  generalize h3 : ck a b = x3
  have H1 := Lib.hid h1
  have H2 := Lib.hid h2
  have H3 := Lib.hid h3
  clear h1 h2 h3
  go_enter Tryd.func3, Tryd.ntmps3
  go_wp2_with fail
  refine (next_any a b r _ S).mono ?_
  rintro e w1 ⟨rfl, hb1⟩
  rw [H1.out, H2.out, H3.out]
  go_wp2_with fail
  refine (rnext_any a b r _).mono ?_
  rintro e w2 ⟨rfl, hb2⟩
  rw [H1.out, H2.out, H3.out]
  have hb2 := hb1.trans (hb2.mono hb1.size)
  clear hb1
  go_wp2_with fail
  refine (flows_any _ (S.below hb2) (T.below hb2)).mono ?_
  rintro e w3 ⟨rfl, hb3⟩
  have hb3 := hb2.trans (hb3.mono hb2.size)
  clear hb2
  go_wp2
  go_ret
  exact ⟨by simp, hb3⟩
set_option maxHeartbeats 1000000 in
theorem lays_law (a b : Int) (v : Value) (l : List Int) (w : World) (hv : IsRow w v .i32 l) (hl : l.length ≤ maxLen) (S : Spans w 1) (T : Blk w 0) : Calls Tryd.prog 4 #[.int .i64 a, .int .i64 b, v] w fun e w' => e = .returned (.bool true) ∧ Below w.heap.size w w' := by
  have hxm := hl
  unfold maxLen at hxm
  have hv' := hv
  obtain ⟨A, cap, rfl, _⟩ := hv'
  by_cases hk : 1000 < l.length
  · have d1 : decide ((1000 : Int) < (l.length : Int)) = true := by simp; omega
    go_enter Tryd.func4, Tryd.ntmps4
    go_wp2
    go_ret
    exact ⟨rfl, Below.refl _ _⟩
  have d1 : decide ((1000 : Int) < (l.length : Int)) = false := by simp; omega
  have HL := Lib.hid (lay_any a b _ l w hv hl S)
  have HR := Lib.hid (fun wz hz => rlay_any a b _ l wz (IsRow.below hv hz) hl)
  by_cases h0 : lk a b l.length = 0
  · have hq := lk_ok h0
    have HK := Lib.hid h0
    clear h0
    go_enter Tryd.func4, Tryd.ntmps4
    go_wp2_with fail
    refine HL.out.mono ?_
    intro e w1 h1
    obtain ⟨hb1, g1, c1, rfl, _, _, hr1⟩ := h1.yes HK.out
    go_wp2_with fail
    refine (HR.out _ hb1).mono ?_
    intro e w2 h2
    obtain ⟨hb2, g2, c2, rfl, _, _, hr2⟩ := h2.yes HK.out
    have hr1 := hr1.below hb2
    have hb2 := hb1.trans (hb2.mono hb1.size)
    clear hb1 h1 h2
    go_wp2_with fail
    refine (flows_any _ (S.below hb2) (T.below hb2)).mono ?_
    rintro e w3 ⟨rfl, hb3⟩
    have hr1 := hr1.below hb3
    have hr2 := hr2.below hb3
    have hb3 := hb2.trans (hb3.mono hb2.size)
    clear hb2
    go_wp2_with fail
    refine (same4_any _ _ _ _ _ hr1 hr2 (by rw [lay_len]; omega) (by rw [lay_len]; omega)).mono ?_
    rintro e w4 ⟨rfl, hb4⟩
    rw [decide_eq_true rfl]
    have hb4 := hb3.trans (hb4.mono hb3.size)
    clear hb3
    generalize fin a.toNat b.toNat l = f
    go_wp2
    go_ret
    exact ⟨by simp, hb4⟩
  · have HK := Lib.hid h0
    clear h0
    generalize hx : lk a b l.length = x at *
    have HX := Lib.hid hx
    clear hx
    go_enter Tryd.func4, Tryd.ntmps4
    go_wp2_with fail
    refine HL.out.mono ?_
    intro e w1 h1
    obtain ⟨hb1, rfl⟩ := h1.no (by rw [HX.out]; exact HK.out)
    rw [HX.out]
    go_wp2_with fail
    refine (HR.out _ hb1).mono ?_
    intro e w2 h2
    obtain ⟨hb2, rfl⟩ := h2.no (by rw [HX.out]; exact HK.out)
    rw [HX.out]
    have hb2 := hb1.trans (hb2.mono hb1.size)
    clear hb1 h1 h2
    go_wp2_with fail
    refine (flows_any _ (S.below hb2) (T.below hb2)).mono ?_
    rintro e w3 ⟨rfl, hb3⟩
    have hb3 := hb2.trans (hb3.mono hb2.size)
    clear hb2
    have hnil : ∀ w : World, IsRow w (.slice none 0 0) .i64 [] := fun w => ⟨none, 0, rfl, .inl rfl⟩
    have HN := Lib.hid hnil
    clear hnil
    go_wp2_with fail
    refine (same4_any _ _ [] [] _ (HN.out _) (HN.out _) (by simp) (by simp)).mono ?_
    rintro e w4 ⟨rfl, hb4⟩
    rw [decide_eq_true rfl]
    have hb4 := hb3.trans (hb4.mono hb3.size)
    clear hb3
    go_wp2
    go_ret
    exact ⟨by simp, hb4⟩
set_option maxHeartbeats 1000000 in
theorem cellsF_law (a b : Int) (v : Value) (l : List Int) (w : World) (hv : IsRow w v .i32 l) (hl : l.length ≤ maxLen) (S : Spans w 1) (T : Blk w 0) : Calls Tryd.prog 5 #[.int .i64 a, .int .i64 b, v] w fun e w' => e = .returned (.bool true) ∧ Below w.heap.size w w' := by
  have hxm := hl
  unfold maxLen at hxm
  have hv' := hv
  obtain ⟨A, cap, rfl, _⟩ := hv'
  by_cases hk : 1000 < l.length
  · have d1 : decide ((1000 : Int) < (l.length : Int)) = true := by simp; omega
    go_enter Tryd.func5, Tryd.ntmps5
    go_wp2
    go_ret
    exact ⟨rfl, Below.refl _ _⟩
  have d1 : decide ((1000 : Int) < (l.length : Int)) = false := by simp; omega
  have HL := Lib.hid (cellsF_any a b _ l w hv hl S T)
  have HR := Lib.hid (fun wz hz => rcellsF_any a b _ l wz (IsRow.below hv hz) hl)
  by_cases h0 : lk a b l.length = 0
  · have hq := lk_ok h0
    have HK := Lib.hid h0
    obtain ⟨m, p, rfl, rfl, g1, g2, g3⟩ := ck_ok hq.1
    have hfl := fin_le m p l g1
    have hcl := cells_len m p l g1
    clear h0
    go_enter Tryd.func5, Tryd.ntmps5
    go_wp2_with fail
    refine HL.out.mono ?_
    intro e w1 h1
    obtain ⟨hb1, g1, c1, rfl, _, hr1⟩ := h1.yes HK.out
    simp only [Int.toNat_natCast] at hr1 ⊢
    go_wp2_with fail
    refine (HR.out _ hb1).mono ?_
    intro e w2 h2
    obtain ⟨hb2, g2, c2, rfl, _, hr2⟩ := h2.yes HK.out
    simp only [Int.toNat_natCast] at hr2 ⊢
    have hr1 := hr1.below hb2
    have hb2 := hb1.trans (hb2.mono hb1.size)
    clear hb1 h1 h2
    generalize cells m p l = C at *
    go_wp2_with fail
    refine (flows_any _ (S.below hb2) (T.below hb2)).mono ?_
    rintro e w3 ⟨rfl, hb3⟩
    have hr1 := hr1.below hb3
    have hr2 := hr2.below hb3
    have hb3 := hb2.trans (hb3.mono hb2.size)
    clear hb2
    go_wp2_with fail
    refine (same2_any _ _ C C _ hr1 hr2 (by omega) (by omega)).mono ?_
    rintro e w4 ⟨rfl, hb4⟩
    rw [decide_eq_true rfl]
    have hb4 := hb3.trans (hb4.mono hb3.size)
    clear hb3
    go_wp2
    go_ret
    exact ⟨by simp, hb4⟩
  · have HK := Lib.hid h0
    clear h0
    generalize hx : lk a b l.length = x at *
    have HX := Lib.hid hx
    clear hx
    go_enter Tryd.func5, Tryd.ntmps5
    go_wp2_with fail
    refine HL.out.mono ?_
    intro e w1 h1
    obtain ⟨hb1, rfl⟩ := h1.no (by rw [HX.out]; exact HK.out)
    rw [HX.out]
    go_wp2_with fail
    refine (HR.out _ hb1).mono ?_
    intro e w2 h2
    obtain ⟨hb2, rfl⟩ := h2.no (by rw [HX.out]; exact HK.out)
    rw [HX.out]
    have hb2 := hb1.trans (hb2.mono hb1.size)
    clear hb1 h1 h2
    go_wp2_with fail
    refine (flows_any _ (S.below hb2) (T.below hb2)).mono ?_
    rintro e w3 ⟨rfl, hb3⟩
    have hb3 := hb2.trans (hb3.mono hb2.size)
    clear hb2
    have hnil : ∀ w : World, Rw w (.slice none 0 0) 2 0 (flat []) := fun w => ⟨rfl, none, 0, rfl, .inl ⟨rfl, fun _ => rfl⟩⟩
    have HN := Lib.hid hnil
    clear hnil
    go_wp2_with fail
    refine (same2_any _ _ [] [] _ (HN.out _) (HN.out _) (by simp) (by simp)).mono ?_
    rintro e w4 ⟨rfl, hb4⟩
    rw [decide_eq_true rfl]
    have hb4 := hb3.trans (hb4.mono hb3.size)
    clear hb3
    go_wp2
    go_ret
    exact ⟨by simp, hb4⟩
end Go.Proofs.YtjojbhlhfjaacaaDoor
