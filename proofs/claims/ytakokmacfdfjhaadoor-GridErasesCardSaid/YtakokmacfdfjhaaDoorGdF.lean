/- The contracts of both At of a grid, and of what asks for a place. -/
import Derived.Test.YtakokmacfdfjhaaDoorGdE
set_option linter.unusedVariables false
namespace Go.Proofs.YtakokmacfdfjhaaDoor
open Go.RowKit Gl L Wd Gd
namespace Gd
def place (gw gh : Int) (L : List (Int × Int)) (x y : Int) : Prop := right gw gh L ∧ (0 ≤ x ∧ x < gw ∧ 0 ≤ y ∧ y < gh)
instance (gw gh : Int) (L : List (Int × Int)) (x y : Int) : Decidable (place gw gh L x y) := by unfold place; infer_instance
theorem place_nat {gw gh : Int} {L : List (Int × Int)} {x y : Int} (h : place gw gh L x y) : ∃ W H X Y : Nat, gw = W ∧ gh = H ∧ x = X ∧ y = Y ∧ R W H L ∧ X < W ∧ Y < H ∧ Y * W + X < L.length ∧ Y * W + W ≤ L.length := by
  obtain ⟨hr, h1, h2, h3, h4⟩ := h
  obtain ⟨W, H, rfl, rfl, r⟩ := right_R hr
  refine ⟨W, H, x.toNat, y.toNat, rfl, rfl, by omega, by omega, r, by omega, by omega, ?_, ?_⟩
  all_goals
    rw [r.len]
    have hY : y.toNat + 1 ≤ H := by omega
    have := Nat.mul_le_mul_right W hY
    rw [Nat.mul_comm W H]
    rw [Nat.add_mul] at this
    omega
end Gd
set_option maxHeartbeats 2000000 in
theorem place_any (gw gh x y : Int) (v : Value) (L : List (Int × Int)) (w : World) (hv : Rw w v 2 L.length (flat L)) (hm : L.length ≤ maxLen) (S : Spans w 1) :
    Calls Tryd.prog 32 #[.agg #[.int .i64 gw, .int .i64 gh, v], .int .i64 x, .int .i64 y] w fun e w' => e = .returned (.bool (decide (place gw gh L x y))) ∧ Below w.heap.size w w' := by
  by_cases hp : 0 ≤ x ∧ x < gw ∧ 0 ≤ y ∧ y < gh
  · have hpp := hp
    have HD := Lib.hid (show decide (place gw gh L x y) = decide (right gw gh L) by rw [decide_eq_decide]; exact ⟨fun h => h.1, fun h => ⟨h, hpp⟩⟩)
    obtain ⟨h1, h2, h3, h4⟩ := hp
    go_enter Tryd.func32, Tryd.ntmps32
    go_wp2_with fail
    refine (is_grid_any gw gh v L _ (hv.alloc _) hm (S.below ((Below.refl _ _).alloc (Nat.le_refl _) _))).mono ?_
    rintro e w1 ⟨rfl, hb1⟩
    go_wp2
    go_ret
    exact ⟨ret_bool (by rw [HD.out]), ((Below.refl _ _).alloc (Nat.le_refl _) _).trans (hb1.mono (by simp))⟩
  · have HD := Lib.hid (show decide (place gw gh L x y) = false by rw [decide_eq_false_iff_not]; exact fun h => hp h.2)
    have HP := Lib.hid hp
    clear hp
    cases d1 : decide (0 ≤ x)
    · go_enter Tryd.func32, Tryd.ntmps32
      go_wp2
      go_ret
      exact ⟨ret_bool HD.out.symm, (Below.refl _ _).alloc (Nat.le_refl _) _⟩
    cases d2 : decide (x < gw)
    · go_enter Tryd.func32, Tryd.ntmps32
      go_wp2
      go_ret
      exact ⟨ret_bool HD.out.symm, (Below.refl _ _).alloc (Nat.le_refl _) _⟩
    cases d3 : decide (0 ≤ y)
    · go_enter Tryd.func32, Tryd.ntmps32
      go_wp2
      go_ret
      exact ⟨ret_bool HD.out.symm, (Below.refl _ _).alloc (Nat.le_refl _) _⟩
    cases d4 : decide (y < gh)
    · go_enter Tryd.func32, Tryd.ntmps32
      go_wp2
      go_ret
      exact ⟨ret_bool HD.out.symm, (Below.refl _ _).alloc (Nat.le_refl _) _⟩
    simp only [decide_eq_true_eq] at d1 d2 d3 d4
    exact absurd ⟨d1, d2, d3, d4⟩ HP.out
set_option maxHeartbeats 2000000 in
theorem rplace_any (gw gh x y : Int) (v : Value) (L : List (Int × Int)) (w : World) (hv : Rw w v 2 L.length (flat L)) (hm : L.length ≤ maxLen) :
    Calls Tryd.prog 33 #[.agg #[.int .i64 gw, .int .i64 gh, v], .int .i64 x, .int .i64 y] w fun e w' => e = .returned (.bool (decide (place gw gh L x y))) ∧ Below w.heap.size w w' := by
  by_cases hr : right gw gh L
  · have HR := Lib.hid hr
    clear hr
    have HD := Lib.hid (show decide (place gw gh L x y) = decide (0 ≤ x ∧ x < gw ∧ 0 ≤ y ∧ y < gh) by rw [decide_eq_decide]; exact ⟨fun h => h.2, fun h => ⟨HR.out, h⟩⟩)
    go_enter Tryd.func33, Tryd.ntmps33
    go_wp2_with fail
    refine (ris_grid_any gw gh v L _ (hv.alloc _) hm).mono ?_
    rintro e w1 ⟨rfl, hb1⟩
    rw [decide_eq_true HR.out]
    have c0 : w1.cell? ⟨w.heap.size, 0, none⟩ = some (.int .i64 gw) := by rw [old_cell hb1 _ _ (by simp)]; simp
    have c1 : w1.cell? ⟨w.heap.size, 1, none⟩ = some (.int .i64 gh) := by rw [old_cell hb1 _ _ (by simp)]; simp
    have HB := Lib.hid (((Below.refl _ _).alloc (Nat.le_refl _) _).trans (hb1.mono (by simp)) : Below w.heap.size w w1)
    clear hb1
    go_wp2
    all_goals go_ret
    all_goals refine ⟨ret_bool ?_, HB.out⟩
    all_goals rw [HD.out, Bool.eq_iff_iff]
    all_goals simp
    all_goals omega
  · have HD := Lib.hid (show decide (place gw gh L x y) = false by rw [decide_eq_false_iff_not]; exact fun h => hr h.1)
    have HR := Lib.hid hr
    clear hr
    go_enter Tryd.func33, Tryd.ntmps33
    go_wp2_with fail
    refine (ris_grid_any gw gh v L _ (hv.alloc _) hm).mono ?_
    rintro e w1 ⟨rfl, hb1⟩
    rw [decide_eq_false HR.out]
    go_wp2
    all_goals go_ret
    all_goals exact ⟨ret_bool HD.out.symm, ((Below.refl _ _).alloc (Nat.le_refl _) _).trans (hb1.mono (by simp))⟩
/-- What At tells. -/
def Gd.atV (gw gh : Int) (L : List (Int × Int)) (x y : Int) : Int × Int := if place gw gh L x y then L.getD (y.toNat * gw.toNat + x.toNat) (0, 0) else (0, 0)
def Gd.atE (gw gh : Int) (L : List (Int × Int)) (x y : Int) : Int := if place gw gh L x y then 0 else 1
set_option maxHeartbeats 2000000 in
theorem at_any (gw gh x y : Int) (v : Value) (L : List (Int × Int)) (w : World) (hv : Rw w v 2 L.length (flat L)) (hm : L.length ≤ maxLen) (S : Spans w 1) :
    Calls Tryd.prog 13 #[.agg #[.int .i64 gw, .int .i64 gh, v], .int .i64 x, .int .i64 y] w fun e w' => (∃ r k, atV gw gh L x y = (r, k) ∧ e = .returned (.tuple #[.agg #[.int .i32 r, .int .i64 k], .int .i64 (atE gw gh L x y)])) ∧ Below w.heap.size w w' := by
  have hb0 : Below w.heap.size w ((w.alloc (.cells #[.int .i64 gw, .int .i64 gh, v] 24)).alloc (.cells #[.int .i32 0, .int .i64 0] 30)) := ((Below.refl _ _).alloc (Nat.le_refl _) _).alloc (by simp) _
  by_cases hp : place gw gh L x y
  · have HE := Lib.hid (show atE gw gh L x y = 0 from if_pos hp)
    have HV := Lib.hid (show atV gw gh L x y = L.getD (y.toNat * gw.toNat + x.toNat) (0, 0) from if_pos hp)
    have HP := Lib.hid hp
    obtain ⟨W, H, X, Y, rfl, rfl, rfl, rfl, r, hX, hY, hlt, _⟩ := place_nat hp
    have w80 := r.w80
    have h24 := r.h24
    have hlen : L.length ≤ 1920 := by rw [r.len]; exact Nat.mul_le_mul w80 h24
    clear r hp
    obtain ⟨A, cap, rfl⟩ : ∃ A cap, v = .slice A L.length cap := ⟨_, _, hv.2.choose_spec.choose_spec.1⟩
    obtain ⟨b, off, rfl, _, hc⟩ := Rw.cell2 hv (by omega)
    obtain ⟨p1, p2⟩ := hc _ hlt
    have hbb : b < w.heap.size := World.block_lt_of_cell? w _ p1
    clear hc
    go_enter Tryd.func13, Tryd.ntmps13
    go_wp2_with fail
    refine (place_any _ _ _ _ _ L _ (hv.below hb0) hm (S.below hb0)).mono ?_
    rintro e w1 ⟨rfl, hb1⟩
    rw [decide_eq_true HP.out]
    have hc0 := old_cell (hb0.trans (hb1.mono hb0.size))
    have hc1 := old_cell hb1
    have hf1 := old_frozen hb1
    have hz1 := hb1.size
    generalize hxy : L.getD (Y * W + X) (0, 0) = xy at p1 p2
    obtain ⟨r, k⟩ := xy
    simp only at p1 p2
    have HXY := Lib.hid hxy
    clear hxy
    go_wp2
    refine bodyPost_ret (v := .tuple #[.agg #[.int .i32 r, .int .i64 k], .int .i64 0]) (by simp [results, Tryd.results13, go_sem, hc1]) rfl ⟨⟨r, k, ?_, ?_⟩, ?_⟩
    · rw [HV.out, Int.toNat_natCast, Int.toNat_natCast, Int.toNat_natCast, HXY.out]
    · rw [HE.out]
    · exact (((hb0.trans (hb1.mono hb0.size)).setCell (by simp) _).setCell (by simp) _)
  · have HE := Lib.hid (show atE gw gh L x y = 1 from if_neg hp)
    have HV := Lib.hid (show atV gw gh L x y = (0, 0) from if_neg hp)
    have HP := Lib.hid hp
    clear hp
    go_enter Tryd.func13, Tryd.ntmps13
    go_wp2_with fail
    refine (place_any _ _ _ _ _ L _ (hv.below hb0) hm (S.below hb0)).mono ?_
    rintro e w1 ⟨rfl, hb1⟩
    rw [decide_eq_false HP.out]
    have hc1 := old_cell hb1
    have hf1 := old_frozen hb1
    have hz1 := hb1.size
    go_wp2
    refine bodyPost_ret (v := .tuple #[.agg #[.int .i32 0, .int .i64 0], .int .i64 1]) (by simp [results, Tryd.results13, go_sem, hc1]) rfl ⟨⟨0, 0, HV.out, ?_⟩, ?_⟩
    · rw [HE.out]
    · exact (((hb0.trans (hb1.mono hb0.size)).setCell (by simp) _).setCell (by simp) _)
set_option maxHeartbeats 2000000 in
theorem rat_any (gw gh x y : Int) (v : Value) (L : List (Int × Int)) (w : World) (hv : Rw w v 2 L.length (flat L)) (hm : L.length ≤ maxLen) :
    Calls Tryd.prog 14 #[.agg #[.int .i64 gw, .int .i64 gh, v], .int .i64 x, .int .i64 y] w fun e w' => (∃ r k, atV gw gh L x y = (r, k) ∧ e = .returned (.tuple #[.agg #[.int .i32 r, .int .i64 k], .int .i64 (atE gw gh L x y)])) ∧ Below w.heap.size w w' := by
  have hb0 : Below w.heap.size w ((w.alloc (.cells #[.int .i64 gw, .int .i64 gh, v] 24)).alloc (.cells #[.int .i32 0, .int .i64 0] 30)) := ((Below.refl _ _).alloc (Nat.le_refl _) _).alloc (by simp) _
  by_cases hp : place gw gh L x y
  · have HE := Lib.hid (show atE gw gh L x y = 0 from if_pos hp)
    have HV := Lib.hid (show atV gw gh L x y = L.getD (y.toNat * gw.toNat + x.toNat) (0, 0) from if_pos hp)
    have HP := Lib.hid hp
    obtain ⟨W, H, X, Y, rfl, rfl, rfl, rfl, r, hX, hY, hlt, _⟩ := place_nat hp
    have w80 := r.w80
    have h24 := r.h24
    have hlen : L.length ≤ 1920 := by rw [r.len]; exact Nat.mul_le_mul w80 h24
    clear r hp
    obtain ⟨A, cap, rfl⟩ : ∃ A cap, v = .slice A L.length cap := ⟨_, _, hv.2.choose_spec.choose_spec.1⟩
    obtain ⟨b, off, rfl, _, hc⟩ := Rw.cell2 hv (by omega)
    obtain ⟨p1, p2⟩ := hc _ hlt
    have hbb : b < w.heap.size := World.block_lt_of_cell? w _ p1
    clear hc
    go_enter Tryd.func14, Tryd.ntmps14
    go_wp2_with fail
    refine (rplace_any _ _ _ _ _ L _ (hv.below hb0) hm).mono ?_
    rintro e w1 ⟨rfl, hb1⟩
    rw [decide_eq_true HP.out]
    have hc0 := old_cell (hb0.trans (hb1.mono hb0.size))
    have hc1 := old_cell hb1
    have hf1 := old_frozen hb1
    have hz1 := hb1.size
    generalize hxy : L.getD (Y * W + X) (0, 0) = xy at p1 p2
    obtain ⟨r, k⟩ := xy
    simp only at p1 p2
    have HXY := Lib.hid hxy
    clear hxy
    go_wp2
    refine bodyPost_ret (v := .tuple #[.agg #[.int .i32 r, .int .i64 k], .int .i64 0]) (by simp [results, Tryd.results14, go_sem, hc1]) rfl ⟨⟨r, k, ?_, ?_⟩, ?_⟩
    · rw [HV.out, Int.toNat_natCast, Int.toNat_natCast, Int.toNat_natCast, HXY.out]
    · rw [HE.out]
    · exact (((hb0.trans (hb1.mono hb0.size)).setCell (by simp) _).setCell (by simp) _)
  · have HE := Lib.hid (show atE gw gh L x y = 1 from if_neg hp)
    have HV := Lib.hid (show atV gw gh L x y = (0, 0) from if_neg hp)
    have HP := Lib.hid hp
    clear hp
    go_enter Tryd.func14, Tryd.ntmps14
    go_wp2_with fail
    refine (rplace_any _ _ _ _ _ L _ (hv.below hb0) hm).mono ?_
    rintro e w1 ⟨rfl, hb1⟩
    rw [decide_eq_false HP.out]
    have hc1 := old_cell hb1
    have hf1 := old_frozen hb1
    have hz1 := hb1.size
    go_wp2
    refine bodyPost_ret (v := .tuple #[.agg #[.int .i32 0, .int .i64 0], .int .i64 1]) (by simp [results, Tryd.results14, go_sem, hc1]) rfl ⟨⟨0, 0, HV.out, ?_⟩, ?_⟩
    · rw [HE.out]
    · exact (((hb0.trans (hb1.mono hb0.size)).setCell (by simp) _).setCell (by simp) _)
end Go.Proofs.YtakokmacfdfjhaaDoor
