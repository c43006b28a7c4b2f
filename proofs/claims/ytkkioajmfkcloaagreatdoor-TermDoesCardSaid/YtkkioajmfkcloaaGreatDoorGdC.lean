/- The contract of the reference's lost. -/
import Derived.Test.YtkkioajmfkcloaaGreatDoorGdB
set_option linter.unusedVariables false
namespace Go.Proofs.YtkkioajmfkcloaaGreatDoor
open Go.RowKit Gl L Wd Gd
set_option maxHeartbeats 4000000 in
theorem lost_any (W H : Nat) (v : Value) (L : List (Int × Int)) (p : Nat) (w : World) (hv : Rw w v 2 L.length (flat L)) (w2 : 2 ≤ W) (w80 : W ≤ 80) (h24 : H ≤ 24) (hlen : L.length = W * H) (hp : p < L.length) :
    Calls Tryz.prog 62 #[.agg #[.int .i64 W, .int .i64 H, v], .int .i64 p] w fun e w' => e = .returned (.bool (decide (lost W L p))) ∧ Below w.heap.size w w' := by
  have hm : L.length ≤ 1920 := by rw [hlen]; exact Nat.mul_le_mul w80 h24
  have hpm := Nat.mod_lt p (show 0 < W by omega)
  obtain ⟨A, cap, rfl⟩ : ∃ A cap, v = .slice A L.length cap := ⟨_, _, hv.2.choose_spec.choose_spec.1⟩
  obtain ⟨b, off, rfl, _, hc⟩ := Rw.cell2 hv (by omega)
  obtain ⟨p1, p2⟩ := hc p hp
  have hb : b < w.heap.size := World.block_lt_of_cell? w _ p1
  have HC := Lib.hid hc
  have HLEN := Lib.hid hlen
  have HP := Lib.hid hp
  clear hc hlen hv
  generalize hxy : L.getD p (0, 0) = xy at p1 p2
  obtain ⟨x, y⟩ := xy
  simp only at p1 p2
  have HXY := Lib.hid hxy
  clear hxy
  by_cases hy1 : y = 1
  · subst hy1
    by_cases hx : p % W + 1 = W
    · have d1 : ((p : Int) % (W : Int) == (W : Int) - 1) = true := by rw [beq_iff_eq]; omega
      have HX := Lib.hid hx
      clear hx
      go_enter Tryz.func62, Tryz.ntmps62
      go_wp2
      go_quiet (fail)
      go_wp2
      go_ret
      exact ⟨ret_bool (by rw [decide_eq_true ((lost_1 HXY.out).2 (.inl HX.out))]), below_drewN' (((Below.refl _ _).alloc (Nat.le_refl _) _).alloc (by simp) _) _⟩
    · have d1 : ((p : Int) % (W : Int) == (W : Int) - 1) = false := by rw [beq_eq_false_iff_ne]; omega
      have hp1 := next_in HLEN.out hp hx
      obtain ⟨q1, q2⟩ := HC.out (p + 1) hp1
      have HX := Lib.hid hx
      clear hx
      generalize hxy2 : L.getD (p + 1) (0, 0) = xy2 at q1 q2
      obtain ⟨x2, y2⟩ := xy2
      simp only at q1 q2
      have HXY2 := Lib.hid hxy2
      clear hxy2
      by_cases he : x2 = x ∧ y2 = 2
      · obtain ⟨rfl, rfl⟩ := he
        go_enter Tryz.func62, Tryz.ntmps62
        go_wp2
        go_quiet (fail)
        go_wp2
        go_ret
        refine ⟨ret_bool ?_, below_drewN' (((Below.refl _ _).alloc (Nat.le_refl _) _).alloc (by simp) _) _⟩
        rw [decide_eq_false]
        rw [lost_1 HXY.out, HXY2.out]
        rintro (h | h)
        · exact HX.out h
        · exact h rfl
      · have HE := Lib.hid he
        rcases (show x2 ≠ x ∨ x2 = x ∧ y2 ≠ 2 by omega) with h | ⟨rfl, h⟩
        all_goals
          have hb := beq_eq_false_iff_ne.2 h
          clear h he
          go_enter Tryz.func62, Tryz.ntmps62
          go_wp2
          go_quiet (fail)
          go_wp2
          go_ret
          refine ⟨ret_bool ?_, below_drewN' (((Below.refl _ _).alloc (Nat.le_refl _) _).alloc (by simp) _) _⟩
          rw [decide_eq_true]
          rw [lost_1 HXY.out, HXY2.out]
          exact .inr fun h => HE.out (by simpa using h)
  · have b1 : (y == 1) = false := by simpa using hy1
    have H1 := Lib.hid hy1
    clear hy1
    by_cases hy2 : y = 2
    · subst hy2
      by_cases hx : p % W = 0
      · have d1 : ((p : Int) % (W : Int) == 0) = true := by rw [beq_iff_eq]; omega
        have HX := Lib.hid hx
        clear hx
        go_enter Tryz.func62, Tryz.ntmps62
        go_wp2
        go_quiet (fail)
        go_wp2
        go_ret
        exact ⟨ret_bool (by rw [decide_eq_true ((lost_2 HXY.out).2 (.inl HX.out))]), below_drewN' (((Below.refl _ _).alloc (Nat.le_refl _) _).alloc (by simp) _) _⟩
      · have d1 : ((p : Int) % (W : Int) == 0) = false := by rw [beq_eq_false_iff_ne]; omega
        have hp0 : 0 < p := by rcases Nat.eq_zero_or_pos p with rfl | h; simp at hx; exact h
        obtain ⟨k, rfl⟩ : ∃ k, p = k + 1 := ⟨p - 1, by omega⟩
        have d2 : (((k : Int) + 1) % (W : Int) == 0) = false := by rw [Int.natCast_add] at d1; exact d1
        clear d1
        obtain ⟨q1, q2⟩ := HC.out k (by omega)
        have HX := Lib.hid hx
        clear hx
        generalize hxy2 : L.getD k (0, 0) = xy2 at q1 q2
        obtain ⟨x2, y2⟩ := xy2
        simp only at q1 q2
        have HXY2 := Lib.hid hxy2
        clear hxy2
        by_cases he : x2 = x ∧ y2 = 1
        · obtain ⟨rfl, rfl⟩ := he
          go_enter Tryz.func62, Tryz.ntmps62
          go_wp2
          go_quiet (fail)
          go_wp2
          go_ret
          refine ⟨ret_bool ?_, below_drewN' (((Below.refl _ _).alloc (Nat.le_refl _) _).alloc (by simp) _) _⟩
          rw [decide_eq_false]
          rw [lost_2 HXY.out, Nat.add_sub_cancel, HXY2.out]
          rintro (h | h)
          · exact HX.out h
          · exact h rfl
        · have HE := Lib.hid he
          rcases (show x2 ≠ x ∨ x2 = x ∧ y2 ≠ 1 by omega) with h | ⟨rfl, h⟩
          all_goals
            have hb := beq_eq_false_iff_ne.2 h
            clear h he
            go_enter Tryz.func62, Tryz.ntmps62
            go_wp2
            go_quiet (fail)
            go_wp2
            go_ret
            refine ⟨ret_bool ?_, below_drewN' (((Below.refl _ _).alloc (Nat.le_refl _) _).alloc (by simp) _) _⟩
            rw [decide_eq_true]
            rw [lost_2 HXY.out, Nat.add_sub_cancel, HXY2.out]
            exact .inr fun h => HE.out (by simpa using h)
    · have b2 : (y == 2) = false := by simpa using hy2
      have H2 := Lib.hid hy2
      clear hy2
      go_enter Tryz.func62, Tryz.ntmps62
      go_wp2
      go_ret
      exact ⟨ret_bool (by rw [decide_eq_false (lost_0 HXY.out H1.out H2.out)]), (((Below.refl _ _).alloc (Nat.le_refl _) _).alloc (by simp) _)⟩
end Go.Proofs.YtkkioajmfkcloaaGreatDoor
