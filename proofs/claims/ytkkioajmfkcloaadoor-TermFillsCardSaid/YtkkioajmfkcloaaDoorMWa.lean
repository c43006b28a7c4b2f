/- The contracts of wide: Shown, Wide, shape. -/
import Derived.Test.YtkkioajmfkcloaaDoorMGi
import Derived.Test.YtkkioajmfkcloaaDoorMWp
/- The contracts of wide's and the reference's Shown: any number. -/
set_option linter.unusedVariables false
namespace Go.Proofs.YtkkioajmfkcloaaDoor
open Go.RowKit Gl L Wd
theorem shown_any (r : Int) (w : World) : Calls Tryd.prog 26 #[.int .i32 r] w fun e w' => e = .returned (.bool (shw r)) ∧ w = w' := by
  cases hv : vld r
  all_goals
    have H := Lib.hid hv
    clear hv
    go_enter Tryd.func26, Tryd.ntmps26
    go_wp2_with fail
    refine (is_any _ _).mono ?_
    rintro e w' ⟨rfl, rfl⟩
    rw [H.out]
    go_wp2
  all_goals go_ret
  all_goals refine ⟨ret_bool ?_, rfl⟩
  all_goals unfold shw
  all_goals rw [H.out, Bool.eq_iff_iff]
  all_goals simp
  all_goals omega
theorem rshown_any (r : Int) (w : World) : Calls Tryd.prog 63 #[.int .i32 r] w fun e w' => e = .returned (.bool (shw r)) ∧ w = w' := by
  cases hv : vld r
  all_goals
    have H := Lib.hid hv
    clear hv
    go_enter Tryd.func63, Tryd.ntmps63
    go_wp2_with fail
    refine (ris_any _ _).mono ?_
    rintro e w' ⟨rfl, rfl⟩
    rw [H.out]
    go_wp2
  all_goals go_ret
  all_goals refine ⟨ret_bool ?_, rfl⟩
  all_goals unfold shw
  all_goals rw [H.out, Bool.eq_iff_iff]
  all_goals simp
  all_goals omega
end Go.Proofs.YtkkioajmfkcloaaDoor
/- The contracts of wide's Shown, Wide and shape, and of the reference's Shown: any number. Condition: the table of spans as the program lays it. -/
set_option linter.unusedVariables false
namespace Go.Proofs.YtkkioajmfkcloaaDoor
open Go.RowKit Gl L Wd
theorem bcell {W w1 : World} (hb : Below W.heap.size W w1) : (∀ b o, b < W.heap.size → w1.cell? ⟨b, o, none⟩ = W.cell? ⟨b, o, none⟩) ∧ (∀ b o, b < W.heap.size → w1.frozen? ⟨b, o, none⟩ = W.frozen? ⟨b, o, none⟩) :=
  ⟨fun b o h => hb.cell (p := ⟨b, o, none⟩) h, fun b o h => hb.frozen (p := ⟨b, o, none⟩) h⟩
def Spans (w : World) (g : Nat) : Prop := ∃ b off cap, w.cell? ⟨g, 0, none⟩ = some (.slice (some ⟨b, off, none⟩) 11 cap) ∧ ∀ k, k < 11 → w.cell? ⟨b, off + k * 2, none⟩ = some (.int .i32 (lo k)) ∧ w.cell? ⟨b, off + k * 2 + 1, none⟩ = some (.int .i32 (hi k))
theorem Spans.below {w w' : World} {g : Nat} (h : Spans w g) (hb : Below w.heap.size w w') : Spans w' g := by
  obtain ⟨b, off, cap, h1, h2⟩ := h
  refine ⟨b, off, cap, ?_, fun k hk => ?_⟩
  · rw [hb.cell (World.block_lt_of_cell? w _ h1)]; exact h1
  · rw [hb.cell (World.block_lt_of_cell? w _ (h2 k hk).1), hb.cell (World.block_lt_of_cell? w _ (h2 k hk).2)]; exact h2 k hk
set_option maxHeartbeats 1000000 in
theorem wide_any (r : Int) (w : World) (S : Spans w 2) : Calls Tryd.prog 62 #[.int .i32 r] w fun e w' => e = .returned (.bool (wid r)) ∧ Below w.heap.size w w' := by
  obtain ⟨b, off, cap, h1, h2⟩ := S
  have H2 := Lib.hid h2
  clear h2
  go_enter Tryd.func62, Tryd.ntmps62
  go_wp2
  go_loopw [7] (fun i wr => ∃ k : Nat, k ≤ 11 ∧ i = .int .i64 k ∧ (k = 0 ∨ hi (k - 1) < r) ∧ Below w.heap.size w wr) (fun i _ => 11 - (intOf i).toNat)
  case atStart => exact ⟨0, by omega, rfl, .inl rfl, Below.refl _ _⟩
  case round =>
    obtain ⟨k, hk, rfl, hr, hw⟩ := hrel
    by_cases hlt : k < 11
    · obtain ⟨c1, c2⟩ := H2.out k hlt
      have d1 : wr.cell? ⟨b, off + k * 2, none⟩ = some (.int .i32 (lo k)) := by rw [hw.cell (World.block_lt_of_cell? w _ c1)]; exact c1
      have d2 : wr.cell? ⟨b, off + k * 2 + 1, none⟩ = some (.int .i32 (hi k)) := by rw [hw.cell (World.block_lt_of_cell? w _ c2)]; exact c2
      clear c1 c2
      go_wp2
      · go_ret
        exact ⟨ret_bool (wid_at r k hlt hr (by assumption)).symm, hw.alloc hw.size _⟩
      · go_roundw
        case rel => exact ⟨k + 1, by omega, by go_num, .inr (by simpa using ‹hi k < r›), hw.alloc hw.size _⟩
        case measure => simp [intOf]; omega
    · obtain rfl : k = 11 := by omega
      have hf := wid_end r (by simpa using hr)
      clear hlt hr
      go_wp2
      go_ret
      exact ⟨ret_bool hf.symm, hw⟩
namespace Wd
def c0 (r : Int) : Int := ((cl r).getD 0 (0, 0)).1
def k0 (r : Int) : Int := ((cl r).getD 0 (0, 0)).2
def c1 (r : Int) : Int := ((cl r).getD 1 (0, 0)).1
def k1 (r : Int) : Int := ((cl r).getD 1 (0, 0)).2
/-- The value of two cells, by a sign. -/
def two (r : Int) : Value := .agg #[.int .i32 (c0 r), .int .i64 (k0 r), .int .i32 (c1 r), .int .i64 (k1 r)]
theorem two_flat (r : Int) : flat (cl r) = ([.int .i32 (c0 r), .int .i64 (k0 r), .int .i32 (c1 r), .int .i64 (k1 r)] : List Value).take ((cl r).length * 2) := by
  unfold c0 k0 c1 k1 flat
  rcases cl_len r with h | h
  · match hc : cl r, h with
    | [x], _ => rfl
  · match hc : cl r, h with
    | [x, y], _ => rfl
end Wd
set_option maxHeartbeats 1000000 in
theorem shape_any (r : Int) (w : World) (S : Spans w 2) : Calls Tryd.prog 38 #[.int .i32 r] w fun e w' => e = .returned (.tuple #[two r, .int .i64 (wd r)]) ∧ Below w.heap.size w w' := by
  by_cases h1 : 0 ≤ r ∧ r < 32
  · have hc := Lib.hid (cl_ctl h1)
    go_enter Tryd.func38, Tryd.ntmps38
    go_wp2
    refine bodyPost_ret (v := .tuple #[.agg #[.int .i32 94, .int .i64 0, .int .i32 (r + 64), .int .i64 0], .int .i64 2]) (by simp [results, Tryd.results38, go_sem]) rfl ⟨?_, (Below.refl _ _).alloc (Nat.le_refl _) _⟩
    unfold two c0 k0 c1 k1 wd
    rw [hc.out]
    rfl
  by_cases h2 : r = 127
  · subst h2
    go_enter Tryd.func38, Tryd.ntmps38
    go_wp2
    refine bodyPost_ret (v := .tuple #[.agg #[.int .i32 94, .int .i64 0, .int .i32 63, .int .i64 0], .int .i64 2]) (by simp [results, Tryd.results38, go_sem]) rfl ⟨?_, (Below.refl _ _).alloc (Nat.le_refl _) _⟩
    unfold two c0 k0 c1 k1 wd
    rw [cl_del]
    rfl
  cases h3 : shw r
  · have hc := Lib.hid (cl_bad h1 h2 h3)
    have H3 := Lib.hid h3
    have H1 := Lib.hid h1
    have b1 : (r == 127) = false := by simpa using h2
    have b2 : (decide (0 ≤ r) && decide (r < 32)) = false := by simp; omega
    rcases (show r < 0 ∨ 32 ≤ r by omega) with hr | hr
    all_goals
      clear h1 h2 h3
      go_enter Tryd.func38, Tryd.ntmps38
      go_wp2_with fail
      refine (shown_any _ _).mono ?_
      rintro e w1 ⟨rfl, rfl⟩
      rw [H3.out]
      go_wp2
      refine bodyPost_ret (v := .tuple #[.agg #[.int .i32 65533, .int .i64 0, .int .i32 0, .int .i64 0], .int .i64 1]) (by simp [results, Tryd.results38, go_sem]) rfl ⟨?_, (Below.refl _ _).alloc (Nat.le_refl _) _⟩
      unfold two c0 k0 c1 k1 wd
      rw [hc.out]
      rfl
  · have hr : 32 ≤ r := by unfold shw at h3; simp at h3; omega
    have b1 : (r == 127) = false := by simpa using h2
    cases h4 : wid r
    · have hc := Lib.hid (cl_one h3 h4)
      have H3 := Lib.hid h3
      have H4 := Lib.hid h4
      clear h1 h2 h3 h4
      go_enter Tryd.func38, Tryd.ntmps38
      go_wp2_with fail
      refine (shown_any _ _).mono ?_
      rintro e w1 ⟨rfl, rfl⟩
      rw [H3.out]
      go_wp2_with fail
      refine (wide_any _ _ (S.below ((Below.refl _ _).alloc (Nat.le_refl _) _))).mono ?_
      rintro e w1 ⟨rfl, hw1⟩
      rw [H4.out]
      obtain ⟨hc1, hf1⟩ := bcell hw1
      have hz1 := hw1.size
      go_wp2
      refine bodyPost_ret (v := .tuple #[.agg #[.int .i32 r, .int .i64 0, .int .i32 0, .int .i64 0], .int .i64 1]) (by simp [results, Tryd.results38, go_sem, hc1]) rfl ⟨?_, ?_⟩
      · unfold two c0 k0 c1 k1 wd
        rw [hc.out]
        rfl
      · exact (((((((Below.refl _ _).alloc (Nat.le_refl _) _).trans (hw1.mono (by simp))).setCell (by simp) _).setCell (by simp) _).setCell (by simp) _).setCell (by simp) _)
    · have hc := Lib.hid (cl_wide h3 h4)
      have H3 := Lib.hid h3
      have H4 := Lib.hid h4
      clear h1 h2 h3 h4
      go_enter Tryd.func38, Tryd.ntmps38
      go_wp2_with fail
      refine (shown_any _ _).mono ?_
      rintro e w1 ⟨rfl, rfl⟩
      rw [H3.out]
      go_wp2_with fail
      refine (wide_any _ _ (S.below ((Below.refl _ _).alloc (Nat.le_refl _) _))).mono ?_
      rintro e w1 ⟨rfl, hw1⟩
      rw [H4.out]
      obtain ⟨hc1, hf1⟩ := bcell hw1
      have hz1 := hw1.size
      go_wp2
      refine bodyPost_ret (v := .tuple #[.agg #[.int .i32 r, .int .i64 1, .int .i32 r, .int .i64 2], .int .i64 2]) (by simp [results, Tryd.results38, go_sem, hc1]) rfl ⟨?_, ?_⟩
      · unfold two c0 k0 c1 k1 wd
        rw [hc.out]
        rfl
      · exact (((((((Below.refl _ _).alloc (Nat.le_refl _) _).trans (hw1.mono (by simp))).setCell (by simp) _).setCell (by simp) _).setCell (by simp) _).setCell (by simp) _)
end Go.Proofs.YtkkioajmfkcloaaDoor
