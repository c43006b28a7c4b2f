/- The contracts of both Is of a grid. -/
import Derived.Test.YtkkioajmfkcloaaGreatDoorGdC
set_option linter.unusedVariables false
namespace Go.Proofs.YtkkioajmfkcloaaGreatDoor
open Go.RowKit Gl L Wd Gd
namespace Gd
/-- Are the first k cells in order? -/
def upto (W : Nat) (L : List (Int × Int)) (k : Nat) : Prop := ∀ i, i < k → Wd.ok (L.getD i (0, 0)).1 (L.getD i (0, 0)).2 = true ∧ ¬ lost W L i
theorem upto_succ {W : Nat} {L : List (Int × Int)} {k : Nat} (h : upto W L k) (h1 : Wd.ok (L.getD k (0, 0)).1 (L.getD k (0, 0)).2 = true) (h2 : ¬ lost W L k) : upto W L (k + 1) := by
  intro i hi
  rcases (show i < k ∨ i = k by omega) with h3 | rfl
  · exact h i h3
  · exact ⟨h1, h2⟩
theorem right_of {W H : Nat} {L : List (Int × Int)} (w2 : 2 ≤ W) (w80 : W ≤ 80) (h1 : 1 ≤ H) (h24 : H ≤ 24) (hl : L.length = W * H) (h : upto W L L.length) : right W H L :=
  R_right ⟨w2, w80, h1, h24, hl, fun i hi => (h i hi).1, fun i hi => (h i hi).2⟩
theorem not_right_at {W H : Nat} {L : List (Int × Int)} {k : Nat} (hk : k < L.length) (h : Wd.ok (L.getD k (0, 0)).1 (L.getD k (0, 0)).2 = true → lost W L k) : ¬ right W H L := fun hr => by
  have := hr.2.2 k hk
  exact this.2 (by rw [Int.toNat_natCast]; exact h this.1)
end Gd
theorem box3 {w wr : World} {x y z : Value} {t : TypeId} (h : Below (w.heap.size + 1) (w.alloc (.cells #[x, y, z] t)) wr) :
    wr.cell? ⟨w.heap.size, 0, none⟩ = some x ∧ wr.cell? ⟨w.heap.size, 1, none⟩ = some y ∧ wr.cell? ⟨w.heap.size, 2, none⟩ = some z ∧ Below w.heap.size w wr ∧ w.heap.size < wr.heap.size := by
  have hz := h.size
  have hb : Below (w.alloc (.cells #[x, y, z] t)).heap.size (w.alloc (.cells #[x, y, z] t)) wr := h.mono (by simp)
  refine ⟨?_, ?_, ?_, ((Below.refl _ _).alloc (Nat.le_refl _) _).trans (h.mono (by simp)), by simp at hz; omega⟩
  all_goals rw [old_cell hb _ _ (by simp)]; simp
set_option maxHeartbeats 4000000 in
theorem is_grid_any (gw gh : Int) (v : Value) (L : List (Int × Int)) (w : World) (hv : Rw w v 2 L.length (flat L)) (hm : L.length ≤ maxLen) (S : Spans w 2) :
    Calls Tryz.prog 28 #[.agg #[.int .i64 gw, .int .i64 gh, v]] w fun e w' => e = .returned (.bool (decide (right gw gh L))) ∧ Below w.heap.size w w' := by
  obtain ⟨A, cap, rfl⟩ : ∃ A cap, v = .slice A L.length cap := ⟨_, _, hv.2.choose_spec.choose_spec.1⟩
  unfold maxLen at hm
  cases hs : sidesB gw gh
  · have hn := Lib.hid (not_right_sides (L := L) hs)
    have HS := Lib.hid hs
    clear hs
    go_enter Tryz.func28, Tryz.ntmps28
    go_wp2_with fail
    refine (sides_any _ _ _).mono ?_
    rintro e w1 ⟨rfl, rfl⟩
    rw [HS.out]
    go_wp2
    go_ret
    exact ⟨ret_bool (decide_eq_false hn.out).symm, (Below.refl _ _).alloc (Nat.le_refl _) _⟩
  · obtain ⟨W, H, rfl, rfl, g2, g80, g1, g24⟩ := sides_of hs
    have HS := Lib.hid hs
    clear hs
    have hWH : W * H ≤ 1920 := Nat.mul_le_mul g80 g24
    have hWHi : (W : Int) * (H : Int) ≤ 1920 := by
      have h : ((W * H : Nat) : Int) ≤ 1920 := by omega
      rwa [Int.natCast_mul] at h
    have hWH0 : 0 ≤ (W : Int) * (H : Int) := Int.mul_nonneg (by omega) (by omega)
    by_cases hlen : L.length = W * H
    · have hb : (((L.length : Nat) : Int) == (W : Int) * (H : Int)) = true := by rw [beq_iff_eq]; exact_mod_cast hlen
      have hb' : (((L.length : Nat) : Int) != (W : Int) * (H : Int)) = false := by unfold bne; rw [hb]; rfl
      have HLEN := Lib.hid hlen
      clear hlen
      go_enter Tryz.func28, Tryz.ntmps28
      go_wp2_with fail
      refine (sides_any _ _ _).mono ?_
      rintro e w1 ⟨rfl, rfl⟩
      rw [HS.out]
      go_wp2
      go_loopw [25] (fun i wr => ∃ k : Nat, k ≤ L.length ∧ i = .int .i64 k ∧ upto W L k ∧ Below (w.heap.size + 1) (w.alloc (.cells #[.int .i64 W, .int .i64 H, .slice A L.length cap] 24)) wr) (fun i _ => L.length - (intOf i).toNat)
      case atStart => exact ⟨0, Nat.zero_le _, rfl, fun i hi => by omega, Below.refl _ _⟩
      case round =>
        obtain ⟨k, hk, rfl, hup, hw⟩ := hrel
        have HUP := Lib.hid hup
        have HW := Lib.hid hw
        clear hup
        obtain ⟨x1, x2, x3, hww, hsz⟩ := box3 hw
        clear hw
        by_cases hlt : k < L.length
        · have hvr := hv.below hww
          obtain ⟨b, off, rfl, _, hc⟩ := Rw.cell2 hvr (by omega)
          obtain ⟨p1, p2⟩ := hc k hlt
          have hbb : b < wr.heap.size := World.block_lt_of_cell? wr _ p1
          clear hc
          generalize hxy : L.getD k (0, 0) = xy at p1 p2
          obtain ⟨x, y⟩ := xy
          simp only at p1 p2
          have HXY := Lib.hid hxy
          clear hxy
          have HK := Lib.hid hlt
          have HRW := Lib.hid hvr
          clear hvr
          go_wp2_with fail
          refine (wis_any _ _ _ (S.below (hww.alloc hww.size _))).mono ?_
          rintro e w2 ⟨rfl, hb2⟩
          cases ho : Wd.ok x y
          · have HN := Lib.hid (show ¬ right W H L from not_right_at hlt (by rw [HXY.out, ho]; intro h; cases h))
            clear ho
            go_wp2
            go_ret
            exact ⟨ret_bool (decide_eq_false HN.out).symm, (hww.alloc hww.size _).trans (hb2.mono (Nat.le_trans hww.size (by simp)))⟩
          · have hwa := (HW.out.alloc hsz (.cells #[.int .i32 x, .int .i64 y] 49)).trans (hb2.mono (Nat.le_trans hsz (by simp)))
            obtain ⟨z1, z2, z3, hwz, hsz2⟩ := box3 hwa
            have HW2 := Lib.hid hwa
            have HO := Lib.hid ho
            clear hwa ho x1 x2 x3 p1 p2
            go_wp2_with fail
            refine (paired_any W H _ L k _ (hv.below hwz) g2 g80 g24 HLEN.out hlt).mono ?_
            rintro e w3 ⟨rfl, hb3⟩
            have hw3 := HW2.out.trans (hb3.mono hsz2)
            by_cases hlo : lost W L k
            · have HN := Lib.hid (show ¬ right W H L from not_right_at hlt fun _ => hlo)
              rw [decide_eq_true hlo]
              have HW3 := Lib.hid (hwz.trans (hb3.mono hwz.size))
              clear hw3 hlo
              go_wp2
              go_ret
              exact ⟨ret_bool (decide_eq_false HN.out).symm, HW3.out⟩
            · have HU := Lib.hid (upto_succ HUP.out (by rw [HXY.out]; exact HO.out) hlo)
              rw [decide_eq_false hlo]
              have HW3 := Lib.hid hw3
              clear hw3 hlo
              go_wp2
              go_roundw
              case rel => exact ⟨k + 1, by omega, by go_num, HU.out, HW3.out⟩
              case measure => simp [intOf]; omega
        · obtain rfl : k = L.length := by omega
          have HY := Lib.hid (right_of g2 g80 g1 g24 HLEN.out HUP.out)
          go_wp2
          go_ret
          exact ⟨ret_bool (decide_eq_true HY.out).symm, hww⟩
    · have hb : (((L.length : Nat) : Int) == (W : Int) * (H : Int)) = false := by rw [beq_eq_false_iff_ne]; intro h; exact hlen (by exact_mod_cast h)
      have hn := Lib.hid (show ¬ right (W : Int) (H : Int) L from fun h => hlen (by have := h.2.1; exact_mod_cast this))
      clear hlen
      go_enter Tryz.func28, Tryz.ntmps28
      go_wp2_with fail
      refine (sides_any _ _ _).mono ?_
      rintro e w1 ⟨rfl, rfl⟩
      rw [HS.out]
      go_wp2
      go_ret
      exact ⟨ret_bool (decide_eq_false hn.out).symm, (Below.refl _ _).alloc (Nat.le_refl _) _⟩
end Go.Proofs.YtkkioajmfkcloaaGreatDoor
