/- The contracts of paired, lost, Is and the like of grids. -/
import Derived.Test.YtkkioajmfkcloaaDoorMWp
import Derived.Test.YtkkioajmfkcloaaDoorMWc
import Derived.Test.YtkkioajmfkcloaaDoorMLd
import Derived.BigQuiet
/- The contracts of the sides, of a row of blanks; rows that were made. -/
set_option linter.unusedVariables false
namespace Go.Proofs.YtkkioajmfkcloaaDoor
open Go.RowKit Gl L Wd Gd
theorem sides_any (a b : Int) (w : World) : Calls Tryd.prog 24 #[.int .i64 a, .int .i64 b] w fun e w' => e = .returned (.bool (sidesB a b)) ∧ w = w' := by
  go_enter Tryd.func24, Tryd.ntmps24
  go_wp2
  all_goals go_ret
  all_goals refine ⟨ret_bool ?_, rfl⟩
  all_goals unfold sidesB
  all_goals rw [Bool.eq_iff_iff]
  all_goals simp
  all_goals omega
theorem rsides_any (a b : Int) (w : World) : Calls Tryd.prog 41 #[.int .i64 a, .int .i64 b] w fun e w' => e = .returned (.bool (sidesB a b)) ∧ w = w' := by
  go_enter Tryd.func41, Tryd.ntmps41
  go_wp2
  all_goals go_ret
  all_goals refine ⟨ret_bool ?_, rfl⟩
  all_goals unfold sidesB
  all_goals rw [Bool.eq_iff_iff]
  all_goals simp
  all_goals omega
/-- v is a row of cells that was made. -/
def Own (B : Nat) (w : World) (v : Value) (l : List (Int × Int)) : Prop := ∃ g cap, v = .slice (some ⟨g, 0, none⟩) l.length cap ∧ l.length ≤ cap ∧ w.ownsRow B 48 2 (.slice (some ⟨g, 0, none⟩) l.length cap) l.length (flat l)
namespace Gd
def half (k n : Nat) : List (Int × Int) := List.replicate k bl ++ List.replicate (n - k) (0, 0)
theorem half_set {k n : Nat} (h : k < n) : (half k n).set k bl = half (k + 1) n := by
  unfold half
  rw [List.set_append_right _ _ (by simp), show n - k = (n - (k + 1)) + 1 by omega]
  simp [List.replicate_succ]
  have : ∀ l : List (Int × Int), List.replicate k bl ++ bl :: l = bl :: (List.replicate k bl ++ l) := fun l => by
    induction k with
    | zero => rfl
    | succ k ih => simp [List.replicate_succ]; exact ih (by omega)
  rw [this]
theorem half_len {k n : Nat} (h : k ≤ n) : (half k n).length = n := by simp [half]; omega
end Gd
set_option maxHeartbeats 1000000 in
theorem blanks_any (n : Nat) (hn : n ≤ 100000) (w : World) (T : Blk w 0) : Calls Tryd.prog 25 #[.int .i64 n] w fun e w' => ∃ v, e = .returned v ∧ Own w.heap.size w' v (List.replicate n bl) ∧ Below w.heap.size w w' := by
  obtain ⟨i0, hi, hz0, hz1, hz2⟩ := info_parts Tryd.info48
  obtain ⟨wm, hmk, hown0, hgr0⟩ := run_make_full (P := Tryd.prog) w w.heap.size 22 48 i0 _ 2 Tryd.underlying22 hi hz0 hz1 .i64 .i64 n (by rw [hz2]; omega) (by unfold maxLen; omega) (Nat.le_refl _)
  have hb0 : Below w.heap.size w wm := (Below.refl _ _).grown hgr0 (Nat.le_refl _) (by simp)
  have e0 : (madeCells (Value.agg #[.int .i32 0, .int .i64 0]).cells (n * 2)).toList = flat (half 0 n) := by
    unfold half; rw [List.replicate_zero, List.nil_append, Nat.sub_zero, flat_rep]; rfl
  rw [e0] at hown0
  go_enter Tryd.func25, Tryd.ntmps25
  go_wp2
  have HM := Lib.hid hmk
  clear hmk e0
  go_loopw [9] (fun i wr => ∃ k : Nat, k ≤ n ∧ i = .int .i64 k ∧ wr.ownsRow w.heap.size 48 2 (.slice (some ⟨w.heap.size, 0, none⟩) n n) n (flat (half k n)) ∧ Below w.heap.size w wr) (fun i _ => n - (intOf i).toNat)
  case atStart => exact ⟨0, Nat.zero_le _, rfl, hown0, hb0⟩
  case round =>
    obtain ⟨k, hk, rfl, hown, hw⟩ := hrel
    obtain ⟨t1, t2⟩ := T.below hw
    by_cases hlt : k < n
    · have HS := Lib.hid (ownsRow_set2 hown (k * 2) (.int .i32 32) (.int .i64 0))
      obtain ⟨x, y, hxy, c1, c2, f1, f2⟩ := own_cells hown k hlt
      have HX := Lib.hid hxy
      clear hxy
      go_wp2
      go_roundw
      case rel =>
        obtain ⟨o1, g1⟩ := HS.out
        refine ⟨k + 1, by omega, by go_num, ?_, below_own hw g1 hown (Nat.le_refl _) hw.size⟩
        rw [← half_set hlt, show bl = (32, 0) from rfl, flat_set]
        exact o1
      case measure => simp [intOf]; omega
    · obtain rfl : k = n := by omega
      clear HM
      go_wp2
      go_ret
      have e1 : half k k = List.replicate k bl := by simp [half]
      rw [e1] at hown
      refine ⟨_, rfl, ⟨w.heap.size, k, ?_⟩, hw⟩
      rw [List.length_replicate]
      exact ⟨rfl, Nat.le_refl _, hown⟩
theorem Own.rw {B : Nat} {w : World} {v : Value} {l : List (Int × Int)} (h : Own B w v l) : Rw w v 2 l.length (flat l) := by
  obtain ⟨g, cap, rfl, _, h⟩ := h
  exact Rw.of_owns h
theorem Own.below {B : Nat} {w w' : World} {v : Value} {l : List (Int × Int)} (h : Own B w v l) (hb : Below w.heap.size w w') : Own B w' v l := by
  obtain ⟨g, cap, rfl, h1, h⟩ := h
  exact ⟨g, cap, rfl, h1, ownsRow_below h hb⟩
theorem Own.mono {B B' : Nat} {w : World} {v : Value} {l : List (Int × Int)} (h : Own B w v l) (hb : B' ≤ B) : Own B' w v l := by
  obtain ⟨g, cap, rfl, h1, h⟩ := h
  exact ⟨g, cap, rfl, h1, ownsRow_mono h hb⟩
end Go.Proofs.YtkkioajmfkcloaaDoor
/- The contracts of isPaired and of the reference's lost. -/
set_option linter.unusedVariables false
namespace Go.Proofs.YtkkioajmfkcloaaDoor
open Go.RowKit Gl L Wd Gd
namespace Gd
theorem lost_1 {W : Nat} {L : List (Int × Int)} {p : Nat} {x : Int} (h : L.getD p (0, 0) = (x, 1)) : lost W L p ↔ p % W + 1 = W ∨ L.getD (p + 1) (0, 0) ≠ (x, 2) := by
  unfold lost; rw [h]; simp
theorem lost_2 {W : Nat} {L : List (Int × Int)} {p : Nat} {x : Int} (h : L.getD p (0, 0) = (x, 2)) : lost W L p ↔ p % W = 0 ∨ L.getD (p - 1) (0, 0) ≠ (x, 1) := by
  unfold lost; rw [h]; simp
theorem lost_0 {W : Nat} {L : List (Int × Int)} {p : Nat} {x y : Int} (h : L.getD p (0, 0) = (x, y)) (h1 : y ≠ 1) (h2 : y ≠ 2) : ¬ lost W L p := by
  unfold lost; rw [h]; simp [h1, h2]
theorem next_in {W H p : Nat} {L : List (Int × Int)} (hl : L.length = W * H) (hp : p < L.length) (hx : p % W + 1 ≠ W) : p + 1 < L.length := by
  have hW : 0 < W := by rcases Nat.eq_zero_or_pos W with rfl | h; rw [Nat.zero_mul] at hl; omega; exact h
  apply Classical.byContradiction
  intro h
  have e : p + 1 = L.length := by omega
  have := mod_succ hW hx
  rw [e, hl, Nat.mul_mod_right] at this
  omega
end Gd
set_option maxHeartbeats 4000000 in
theorem paired_any (W H : Nat) (v : Value) (L : List (Int × Int)) (p : Nat) (w : World) (hv : Rw w v 2 L.length (flat L)) (w2 : 2 ≤ W) (w80 : W ≤ 80) (h24 : H ≤ 24) (hlen : L.length = W * H) (hp : p < L.length) :
    Calls Tryd.prog 40 #[.agg #[.int .i64 W, .int .i64 H, v], .int .i64 p] w fun e w' => e = .returned (.bool (!decide (lost W L p))) ∧ Below w.heap.size w w' := by
  have hm : L.length ≤ 1920 := by rw [hlen]; exact Nat.mul_le_mul w80 h24
  have hpm := Nat.mod_lt p (show 0 < W by omega)
  obtain ⟨A, cap, rfl⟩ : ∃ A cap, v = .slice A L.length cap := ⟨_, _, hv.2.choose_spec.choose_spec.1⟩
  obtain ⟨b, off, rfl, _, hc⟩ := Rw.cell2 hv (by omega)
  obtain ⟨p1, p2⟩ := hc p hp
  have hb : b < w.heap.size := World.block_lt_of_cell? w _ p1
  have HC := Lib.hid hc
  have HLEN := Lib.hid hlen
  have HP := Lib.hid hp
  clear hc hlen hv
  generalize hxy : L.getD p (0, 0) = xy at p1 p2
  obtain ⟨x, y⟩ := xy
  simp only at p1 p2
  have HXY := Lib.hid hxy
  clear hxy
  by_cases hy1 : y = 1
  · subst hy1
    by_cases hx : p % W + 1 = W
    · have d1 : decide ((p : Int) % (W : Int) < (W : Int) - 1) = false := by rw [decide_eq_false_iff_not]; omega
      have HX := Lib.hid hx
      clear hx
      go_enter Tryd.func40, Tryd.ntmps40
      go_wp2
      go_quiet (fail)
      go_wp2
      go_ret
      exact ⟨ret_bool (by rw [decide_eq_true ((lost_1 HXY.out).2 (.inl HX.out))]; rfl), below_drewN' (((Below.refl _ _).alloc (Nat.le_refl _) _).alloc (by simp) _) _⟩
    · have d1 : decide ((p : Int) % (W : Int) < (W : Int) - 1) = true := by rw [decide_eq_true_iff]; omega
      have hp1 := next_in HLEN.out hp hx
      obtain ⟨q1, q2⟩ := HC.out (p + 1) hp1
      have HX := Lib.hid hx
      clear hx
      generalize hxy2 : L.getD (p + 1) (0, 0) = xy2 at q1 q2
      obtain ⟨x2, y2⟩ := xy2
      simp only at q1 q2
      have HXY2 := Lib.hid hxy2
      clear hxy2
      by_cases he : x2 = x ∧ y2 = 2
      · obtain ⟨rfl, rfl⟩ := he
        go_enter Tryd.func40, Tryd.ntmps40
        go_wp2
        go_quiet (fail)
        go_wp2
        go_ret
        refine ⟨ret_bool ?_, below_drewN' (((Below.refl _ _).alloc (Nat.le_refl _) _).alloc (by simp) _) _⟩
        rw [decide_eq_false]
        · rfl
        · rw [lost_1 HXY.out, HXY2.out]
          rintro (h | h)
          · exact HX.out h
          · exact h rfl
      · have HE := Lib.hid he
        rcases (show x2 ≠ x ∨ x2 = x ∧ y2 ≠ 2 by omega) with h | ⟨rfl, h⟩
        all_goals
          have hb := beq_eq_false_iff_ne.2 h
          clear h he
          go_enter Tryd.func40, Tryd.ntmps40
          go_wp2
          go_quiet (fail)
          go_wp2
          go_ret
          refine ⟨ret_bool ?_, below_drewN' (((Below.refl _ _).alloc (Nat.le_refl _) _).alloc (by simp) _) _⟩
          rw [decide_eq_true]
          · rfl
          · rw [lost_1 HXY.out, HXY2.out]
            exact .inr fun h => HE.out (by simpa using h)
  · have b1 : (y == 1) = false := by simpa using hy1
    have H1 := Lib.hid hy1
    clear hy1
    by_cases hy2 : y = 2
    · subst hy2
      by_cases hx : p % W = 0
      · have d1 : decide ((0 : Int) < (p : Int) % (W : Int)) = false := by rw [decide_eq_false_iff_not]; omega
        have HX := Lib.hid hx
        clear hx
        go_enter Tryd.func40, Tryd.ntmps40
        go_wp2
        go_quiet (fail)
        go_wp2
        go_ret
        exact ⟨ret_bool (by rw [decide_eq_true ((lost_2 HXY.out).2 (.inl HX.out))]; rfl), below_drewN' (((Below.refl _ _).alloc (Nat.le_refl _) _).alloc (by simp) _) _⟩
      · have d1 : decide ((0 : Int) < (p : Int) % (W : Int)) = true := by rw [decide_eq_true_iff]; omega
        have hp0 : 0 < p := by rcases Nat.eq_zero_or_pos p with rfl | h; simp at hx; exact h
        obtain ⟨k, rfl⟩ : ∃ k, p = k + 1 := ⟨p - 1, by omega⟩
        have d2 : decide ((0 : Int) < ((k : Int) + 1) % (W : Int)) = true := by simpa using d1
        clear d1
        obtain ⟨q1, q2⟩ := HC.out k (by omega)
        have HX := Lib.hid hx
        clear hx
        generalize hxy2 : L.getD k (0, 0) = xy2 at q1 q2
        obtain ⟨x2, y2⟩ := xy2
        simp only at q1 q2
        have HXY2 := Lib.hid hxy2
        clear hxy2
        by_cases he : x2 = x ∧ y2 = 1
        · obtain ⟨rfl, rfl⟩ := he
          go_enter Tryd.func40, Tryd.ntmps40
          go_wp2
          go_quiet (fail)
          go_wp2
          go_ret
          refine ⟨ret_bool ?_, below_drewN' (((Below.refl _ _).alloc (Nat.le_refl _) _).alloc (by simp) _) _⟩
          rw [decide_eq_false]
          · rfl
          · rw [lost_2 HXY.out, Nat.add_sub_cancel, HXY2.out]
            rintro (h | h)
            · exact HX.out h
            · exact h rfl
        · have HE := Lib.hid he
          rcases (show x2 ≠ x ∨ x2 = x ∧ y2 ≠ 1 by omega) with h | ⟨rfl, h⟩
          all_goals
            have hb := beq_eq_false_iff_ne.2 h
            clear h he
            go_enter Tryd.func40, Tryd.ntmps40
            go_wp2
            go_quiet (fail)
            go_wp2
            go_ret
            refine ⟨ret_bool ?_, below_drewN' (((Below.refl _ _).alloc (Nat.le_refl _) _).alloc (by simp) _) _⟩
            rw [decide_eq_true]
            · rfl
            · rw [lost_2 HXY.out, Nat.add_sub_cancel, HXY2.out]
              exact .inr fun h => HE.out (by simpa using h)
    · have b2 : (y == 2) = false := by simpa using hy2
      have H2 := Lib.hid hy2
      clear hy2
      go_enter Tryd.func40, Tryd.ntmps40
      go_wp2
      go_ret
      exact ⟨ret_bool (by rw [decide_eq_false (lost_0 HXY.out H1.out H2.out)]; rfl), (((Below.refl _ _).alloc (Nat.le_refl _) _).alloc (by simp) _)⟩
end Go.Proofs.YtkkioajmfkcloaaDoor
/- The contract of the reference's lost. -/
set_option linter.unusedVariables false
namespace Go.Proofs.YtkkioajmfkcloaaDoor
open Go.RowKit Gl L Wd Gd
set_option maxHeartbeats 4000000 in
theorem lost_any (W H : Nat) (v : Value) (L : List (Int × Int)) (p : Nat) (w : World) (hv : Rw w v 2 L.length (flat L)) (w2 : 2 ≤ W) (w80 : W ≤ 80) (h24 : H ≤ 24) (hlen : L.length = W * H) (hp : p < L.length) :
    Calls Tryd.prog 43 #[.agg #[.int .i64 W, .int .i64 H, v], .int .i64 p] w fun e w' => e = .returned (.bool (decide (lost W L p))) ∧ Below w.heap.size w w' := by
  have hm : L.length ≤ 1920 := by rw [hlen]; exact Nat.mul_le_mul w80 h24
  have hpm := Nat.mod_lt p (show 0 < W by omega)
  obtain ⟨A, cap, rfl⟩ : ∃ A cap, v = .slice A L.length cap := ⟨_, _, hv.2.choose_spec.choose_spec.1⟩
  obtain ⟨b, off, rfl, _, hc⟩ := Rw.cell2 hv (by omega)
  obtain ⟨p1, p2⟩ := hc p hp
  have hb : b < w.heap.size := World.block_lt_of_cell? w _ p1
  have HC := Lib.hid hc
  have HLEN := Lib.hid hlen
  have HP := Lib.hid hp
  clear hc hlen hv
  generalize hxy : L.getD p (0, 0) = xy at p1 p2
  obtain ⟨x, y⟩ := xy
  simp only at p1 p2
  have HXY := Lib.hid hxy
  clear hxy
  by_cases hy1 : y = 1
  · subst hy1
    by_cases hx : p % W + 1 = W
    · have d1 : ((p : Int) % (W : Int) == (W : Int) - 1) = true := by rw [beq_iff_eq]; omega
      have HX := Lib.hid hx
      clear hx
      go_enter Tryd.func43, Tryd.ntmps43
      go_wp2
      go_quiet (fail)
      go_wp2
      go_ret
      exact ⟨ret_bool (by rw [decide_eq_true ((lost_1 HXY.out).2 (.inl HX.out))]), below_drewN' (((Below.refl _ _).alloc (Nat.le_refl _) _).alloc (by simp) _) _⟩
    · have d1 : ((p : Int) % (W : Int) == (W : Int) - 1) = false := by rw [beq_eq_false_iff_ne]; omega
      have hp1 := next_in HLEN.out hp hx
      obtain ⟨q1, q2⟩ := HC.out (p + 1) hp1
      have HX := Lib.hid hx
      clear hx
      generalize hxy2 : L.getD (p + 1) (0, 0) = xy2 at q1 q2
      obtain ⟨x2, y2⟩ := xy2
      simp only at q1 q2
      have HXY2 := Lib.hid hxy2
      clear hxy2
      by_cases he : x2 = x ∧ y2 = 2
      · obtain ⟨rfl, rfl⟩ := he
        go_enter Tryd.func43, Tryd.ntmps43
        go_wp2
        go_quiet (fail)
        go_wp2
        go_ret
        refine ⟨ret_bool ?_, below_drewN' (((Below.refl _ _).alloc (Nat.le_refl _) _).alloc (by simp) _) _⟩
        rw [decide_eq_false]
        rw [lost_1 HXY.out, HXY2.out]
        rintro (h | h)
        · exact HX.out h
        · exact h rfl
      · have HE := Lib.hid he
        rcases (show x2 ≠ x ∨ x2 = x ∧ y2 ≠ 2 by omega) with h | ⟨rfl, h⟩
        all_goals
          have hb := beq_eq_false_iff_ne.2 h
          clear h he
          go_enter Tryd.func43, Tryd.ntmps43
          go_wp2
          go_quiet (fail)
          go_wp2
          go_ret
          refine ⟨ret_bool ?_, below_drewN' (((Below.refl _ _).alloc (Nat.le_refl _) _).alloc (by simp) _) _⟩
          rw [decide_eq_true]
          rw [lost_1 HXY.out, HXY2.out]
          exact .inr fun h => HE.out (by simpa using h)
  · have b1 : (y == 1) = false := by simpa using hy1
    have H1 := Lib.hid hy1
    clear hy1
    by_cases hy2 : y = 2
    · subst hy2
      by_cases hx : p % W = 0
      · have d1 : ((p : Int) % (W : Int) == 0) = true := by rw [beq_iff_eq]; omega
        have HX := Lib.hid hx
        clear hx
        go_enter Tryd.func43, Tryd.ntmps43
        go_wp2
        go_quiet (fail)
        go_wp2
        go_ret
        exact ⟨ret_bool (by rw [decide_eq_true ((lost_2 HXY.out).2 (.inl HX.out))]), below_drewN' (((Below.refl _ _).alloc (Nat.le_refl _) _).alloc (by simp) _) _⟩
      · have d1 : ((p : Int) % (W : Int) == 0) = false := by rw [beq_eq_false_iff_ne]; omega
        have hp0 : 0 < p := by rcases Nat.eq_zero_or_pos p with rfl | h; simp at hx; exact h
        obtain ⟨k, rfl⟩ : ∃ k, p = k + 1 := ⟨p - 1, by omega⟩
        have d2 : (((k : Int) + 1) % (W : Int) == 0) = false := by rw [Int.natCast_add] at d1; exact d1
        clear d1
        obtain ⟨q1, q2⟩ := HC.out k (by omega)
        have HX := Lib.hid hx
        clear hx
        generalize hxy2 : L.getD k (0, 0) = xy2 at q1 q2
        obtain ⟨x2, y2⟩ := xy2
        simp only at q1 q2
        have HXY2 := Lib.hid hxy2
        clear hxy2
        by_cases he : x2 = x ∧ y2 = 1
        · obtain ⟨rfl, rfl⟩ := he
          go_enter Tryd.func43, Tryd.ntmps43
          go_wp2
          go_quiet (fail)
          go_wp2
          go_ret
          refine ⟨ret_bool ?_, below_drewN' (((Below.refl _ _).alloc (Nat.le_refl _) _).alloc (by simp) _) _⟩
          rw [decide_eq_false]
          rw [lost_2 HXY.out, Nat.add_sub_cancel, HXY2.out]
          rintro (h | h)
          · exact HX.out h
          · exact h rfl
        · have HE := Lib.hid he
          rcases (show x2 ≠ x ∨ x2 = x ∧ y2 ≠ 1 by omega) with h | ⟨rfl, h⟩
          all_goals
            have hb := beq_eq_false_iff_ne.2 h
            clear h he
            go_enter Tryd.func43, Tryd.ntmps43
            go_wp2
            go_quiet (fail)
            go_wp2
            go_ret
            refine ⟨ret_bool ?_, below_drewN' (((Below.refl _ _).alloc (Nat.le_refl _) _).alloc (by simp) _) _⟩
            rw [decide_eq_true]
            rw [lost_2 HXY.out, Nat.add_sub_cancel, HXY2.out]
            exact .inr fun h => HE.out (by simpa using h)
    · have b2 : (y == 2) = false := by simpa using hy2
      have H2 := Lib.hid hy2
      clear hy2
      go_enter Tryd.func43, Tryd.ntmps43
      go_wp2
      go_ret
      exact ⟨ret_bool (by rw [decide_eq_false (lost_0 HXY.out H1.out H2.out)]), (((Below.refl _ _).alloc (Nat.le_refl _) _).alloc (by simp) _)⟩
end Go.Proofs.YtkkioajmfkcloaaDoor
/- The contracts of both Is of a grid. -/
set_option linter.unusedVariables false
namespace Go.Proofs.YtkkioajmfkcloaaDoor
open Go.RowKit Gl L Wd Gd
namespace Gd
/-- Are the first k cells in order? -/
def upto (W : Nat) (L : List (Int × Int)) (k : Nat) : Prop := ∀ i, i < k → Wd.ok (L.getD i (0, 0)).1 (L.getD i (0, 0)).2 = true ∧ ¬ lost W L i
theorem upto_succ {W : Nat} {L : List (Int × Int)} {k : Nat} (h : upto W L k) (h1 : Wd.ok (L.getD k (0, 0)).1 (L.getD k (0, 0)).2 = true) (h2 : ¬ lost W L k) : upto W L (k + 1) := by
  intro i hi
  rcases (show i < k ∨ i = k by omega) with h3 | rfl
  · exact h i h3
  · exact ⟨h1, h2⟩
theorem right_of {W H : Nat} {L : List (Int × Int)} (w2 : 2 ≤ W) (w80 : W ≤ 80) (h1 : 1 ≤ H) (h24 : H ≤ 24) (hl : L.length = W * H) (h : upto W L L.length) : right W H L :=
  R_right ⟨w2, w80, h1, h24, hl, fun i hi => (h i hi).1, fun i hi => (h i hi).2⟩
theorem not_right_at {W H : Nat} {L : List (Int × Int)} {k : Nat} (hk : k < L.length) (h : Wd.ok (L.getD k (0, 0)).1 (L.getD k (0, 0)).2 = true → lost W L k) : ¬ right W H L := fun hr => by
  have := hr.2.2 k hk
  exact this.2 (by rw [Int.toNat_natCast]; exact h this.1)
end Gd
theorem box3 {w wr : World} {x y z : Value} {t : TypeId} (h : Below (w.heap.size + 1) (w.alloc (.cells #[x, y, z] t)) wr) :
    wr.cell? ⟨w.heap.size, 0, none⟩ = some x ∧ wr.cell? ⟨w.heap.size, 1, none⟩ = some y ∧ wr.cell? ⟨w.heap.size, 2, none⟩ = some z ∧ Below w.heap.size w wr ∧ w.heap.size < wr.heap.size := by
  have hz := h.size
  have hb : Below (w.alloc (.cells #[x, y, z] t)).heap.size (w.alloc (.cells #[x, y, z] t)) wr := h.mono (by simp)
  refine ⟨?_, ?_, ?_, ((Below.refl _ _).alloc (Nat.le_refl _) _).trans (h.mono (by simp)), by simp at hz; omega⟩
  all_goals rw [old_cell hb _ _ (by simp)]; simp
set_option maxHeartbeats 4000000 in
theorem is_grid_any (gw gh : Int) (v : Value) (L : List (Int × Int)) (w : World) (hv : Rw w v 2 L.length (flat L)) (hm : L.length ≤ maxLen) (S : Spans w 2) :
    Calls Tryd.prog 30 #[.agg #[.int .i64 gw, .int .i64 gh, v]] w fun e w' => e = .returned (.bool (decide (right gw gh L))) ∧ Below w.heap.size w w' := by
  obtain ⟨A, cap, rfl⟩ : ∃ A cap, v = .slice A L.length cap := ⟨_, _, hv.2.choose_spec.choose_spec.1⟩
  unfold maxLen at hm
  cases hs : sidesB gw gh
  · have hn := Lib.hid (not_right_sides (L := L) hs)
    have HS := Lib.hid hs
    clear hs
    go_enter Tryd.func30, Tryd.ntmps30
    go_wp2_with fail
    refine (sides_any _ _ _).mono ?_
    rintro e w1 ⟨rfl, rfl⟩
    rw [HS.out]
    go_wp2
    go_ret
    exact ⟨ret_bool (decide_eq_false hn.out).symm, (Below.refl _ _).alloc (Nat.le_refl _) _⟩
  · obtain ⟨W, H, rfl, rfl, g2, g80, g1, g24⟩ := sides_of hs
    have HS := Lib.hid hs
    clear hs
    have hWH : W * H ≤ 1920 := Nat.mul_le_mul g80 g24
    have hWHi : (W : Int) * (H : Int) ≤ 1920 := by
      have h : ((W * H : Nat) : Int) ≤ 1920 := by omega
      rwa [Int.natCast_mul] at h
    have hWH0 : 0 ≤ (W : Int) * (H : Int) := Int.mul_nonneg (by omega) (by omega)
    by_cases hlen : L.length = W * H
    · have hb : (((L.length : Nat) : Int) == (W : Int) * (H : Int)) = true := by rw [beq_iff_eq]; exact_mod_cast hlen
      have hb' : (((L.length : Nat) : Int) != (W : Int) * (H : Int)) = false := by unfold bne; rw [hb]; rfl
      have HLEN := Lib.hid hlen
      clear hlen
      go_enter Tryd.func30, Tryd.ntmps30
      go_wp2_with fail
      refine (sides_any _ _ _).mono ?_
      rintro e w1 ⟨rfl, rfl⟩
      rw [HS.out]
      go_wp2
      go_loopw [25] (fun i wr => ∃ k : Nat, k ≤ L.length ∧ i = .int .i64 k ∧ upto W L k ∧ Below (w.heap.size + 1) (w.alloc (.cells #[.int .i64 W, .int .i64 H, .slice A L.length cap] 24)) wr) (fun i _ => L.length - (intOf i).toNat)
      case atStart => exact ⟨0, Nat.zero_le _, rfl, fun i hi => by omega, Below.refl _ _⟩
      case round =>
        obtain ⟨k, hk, rfl, hup, hw⟩ := hrel
        have HUP := Lib.hid hup
        have HW := Lib.hid hw
        clear hup
        obtain ⟨x1, x2, x3, hww, hsz⟩ := box3 hw
        clear hw
        by_cases hlt : k < L.length
        · have hvr := hv.below hww
          obtain ⟨b, off, rfl, _, hc⟩ := Rw.cell2 hvr (by omega)
          obtain ⟨p1, p2⟩ := hc k hlt
          have hbb : b < wr.heap.size := World.block_lt_of_cell? wr _ p1
          clear hc
          generalize hxy : L.getD k (0, 0) = xy at p1 p2
          obtain ⟨x, y⟩ := xy
          simp only at p1 p2
          have HXY := Lib.hid hxy
          clear hxy
          have HK := Lib.hid hlt
          have HRW := Lib.hid hvr
          clear hvr
          go_wp2_with fail
          refine (wis_any _ _ _ (S.below (hww.alloc hww.size _))).mono ?_
          rintro e w2 ⟨rfl, hb2⟩
          cases ho : Wd.ok x y
          · have HN := Lib.hid (show ¬ right W H L from not_right_at hlt (by rw [HXY.out, ho]; intro h; cases h))
            clear ho
            go_wp2
            go_ret
            exact ⟨ret_bool (decide_eq_false HN.out).symm, (hww.alloc hww.size _).trans (hb2.mono (Nat.le_trans hww.size (by simp)))⟩
          · have hwa := (HW.out.alloc hsz (.cells #[.int .i32 x, .int .i64 y] 48)).trans (hb2.mono (Nat.le_trans hsz (by simp)))
            obtain ⟨z1, z2, z3, hwz, hsz2⟩ := box3 hwa
            have HW2 := Lib.hid hwa
            have HO := Lib.hid ho
            clear hwa ho x1 x2 x3 p1 p2
            go_wp2_with fail
            refine (paired_any W H _ L k _ (hv.below hwz) g2 g80 g24 HLEN.out hlt).mono ?_
            rintro e w3 ⟨rfl, hb3⟩
            have hw3 := HW2.out.trans (hb3.mono hsz2)
            by_cases hlo : lost W L k
            · have HN := Lib.hid (show ¬ right W H L from not_right_at hlt fun _ => hlo)
              rw [decide_eq_true hlo]
              have HW3 := Lib.hid (hwz.trans (hb3.mono hwz.size))
              clear hw3 hlo
              go_wp2
              go_ret
              exact ⟨ret_bool (decide_eq_false HN.out).symm, HW3.out⟩
            · have HU := Lib.hid (upto_succ HUP.out (by rw [HXY.out]; exact HO.out) hlo)
              rw [decide_eq_false hlo]
              have HW3 := Lib.hid hw3
              clear hw3 hlo
              go_wp2
              go_roundw
              case rel => exact ⟨k + 1, by omega, by go_num, HU.out, HW3.out⟩
              case measure => simp [intOf]; omega
        · obtain rfl : k = L.length := by omega
          have HY := Lib.hid (right_of g2 g80 g1 g24 HLEN.out HUP.out)
          go_wp2
          go_ret
          exact ⟨ret_bool (decide_eq_true HY.out).symm, hww⟩
    · have hb : (((L.length : Nat) : Int) == (W : Int) * (H : Int)) = false := by rw [beq_eq_false_iff_ne]; intro h; exact hlen (by exact_mod_cast h)
      have hn := Lib.hid (show ¬ right (W : Int) (H : Int) L from fun h => hlen (by have := h.2.1; exact_mod_cast this))
      clear hlen
      go_enter Tryd.func30, Tryd.ntmps30
      go_wp2_with fail
      refine (sides_any _ _ _).mono ?_
      rintro e w1 ⟨rfl, rfl⟩
      rw [HS.out]
      go_wp2
      go_ret
      exact ⟨ret_bool (decide_eq_false hn.out).symm, (Below.refl _ _).alloc (Nat.le_refl _) _⟩
end Go.Proofs.YtkkioajmfkcloaaDoor
