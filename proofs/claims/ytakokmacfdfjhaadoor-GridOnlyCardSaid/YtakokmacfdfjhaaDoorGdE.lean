/- The contract of the reference's Is of a grid. -/
import Derived.Test.YtakokmacfdfjhaaDoorGdD
set_option linter.unusedVariables false
namespace Go.Proofs.YtakokmacfdfjhaaDoor
open Go.RowKit Gl L Wd Gd
set_option maxHeartbeats 4000000 in
theorem ris_grid_any (gw gh : Int) (v : Value) (L : List (Int × Int)) (w : World) (hv : Rw w v 2 L.length (flat L)) (hm : L.length ≤ maxLen) :
    Calls Tryd.prog 18 #[.agg #[.int .i64 gw, .int .i64 gh, v]] w fun e w' => e = .returned (.bool (decide (right gw gh L))) ∧ Below w.heap.size w w' := by
  obtain ⟨A, cap, rfl⟩ : ∃ A cap, v = .slice A L.length cap := ⟨_, _, hv.2.choose_spec.choose_spec.1⟩
  unfold maxLen at hm
  cases hs : sidesB gw gh
  · have hn := Lib.hid (not_right_sides (L := L) hs)
    have HS := Lib.hid hs
    clear hs
    go_enter Tryd.func18, Tryd.ntmps18
    go_wp2_with fail
    refine (rsides_any _ _ _).mono ?_
    rintro e w1 ⟨rfl, rfl⟩
    rw [HS.out]
    go_wp2
    go_ret
    exact ⟨ret_bool (decide_eq_false hn.out).symm, (Below.refl _ _).alloc (Nat.le_refl _) _⟩
  · obtain ⟨W, H, rfl, rfl, g2, g80, g1, g24⟩ := sides_of hs
    have HS := Lib.hid hs
    clear hs
    have hWH : W * H ≤ 1920 := Nat.mul_le_mul g80 g24
    have hWHi : (W : Int) * (H : Int) ≤ 1920 := by
      have h : ((W * H : Nat) : Int) ≤ 1920 := by omega
      rwa [Int.natCast_mul] at h
    have hWH0 : 0 ≤ (W : Int) * (H : Int) := Int.mul_nonneg (by omega) (by omega)
    by_cases hlen : L.length = W * H
    · have hb : (((L.length : Nat) : Int) == (W : Int) * (H : Int)) = true := by rw [beq_iff_eq]; exact_mod_cast hlen
      have hb' : (((L.length : Nat) : Int) != (W : Int) * (H : Int)) = false := by unfold bne; rw [hb]; rfl
      have HLEN := Lib.hid hlen
      clear hlen
      go_enter Tryd.func18, Tryd.ntmps18
      go_wp2_with fail
      refine (rsides_any _ _ _).mono ?_
      rintro e w1 ⟨rfl, rfl⟩
      rw [HS.out]
      go_wp2
      go_loopw [3] (fun i wr => ∃ k : Nat, k ≤ L.length ∧ i = .int .i64 k ∧ upto W L k ∧ Below (w.heap.size + 1) (w.alloc (.cells #[.int .i64 W, .int .i64 H, .slice A L.length cap] 24)) wr) (fun i _ => L.length - (intOf i).toNat)
      case atStart => exact ⟨0, Nat.zero_le _, rfl, fun i hi => by omega, Below.refl _ _⟩
      case round =>
        obtain ⟨k, hk, rfl, hup, hw⟩ := hrel
        have HUP := Lib.hid hup
        have HW := Lib.hid hw
        clear hup
        obtain ⟨x1, x2, x3, hww, hsz⟩ := box3 hw
        clear hw
        by_cases hlt : k < L.length
        · have hvr := hv.below hww
          obtain ⟨b, off, rfl, _, hc⟩ := Rw.cell2 hvr (by omega)
          obtain ⟨p1, p2⟩ := hc k hlt
          have hbb : b < wr.heap.size := World.block_lt_of_cell? wr _ p1
          clear hc
          generalize hxy : L.getD k (0, 0) = xy at p1 p2
          obtain ⟨x, y⟩ := xy
          simp only at p1 p2
          have HXY := Lib.hid hxy
          clear hxy
          have HK := Lib.hid hlt
          have HRW := Lib.hid hvr
          clear hvr
          go_wp2_with fail
          refine (ris2_any _ _ _).mono ?_
          rintro e w2 ⟨rfl, hb2⟩
          cases ho : Wd.ok x y
          · have HN := Lib.hid (show ¬ right W H L from not_right_at hlt (by rw [HXY.out, ho]; intro h; cases h))
            clear ho
            go_wp2
            go_ret
            exact ⟨ret_bool (decide_eq_false HN.out).symm, hww.trans (hb2.mono hww.size)⟩
          · have hwa := HW.out.trans (hb2.mono hsz)
            obtain ⟨z1, z2, z3, hwz, hsz2⟩ := box3 hwa
            have HW2 := Lib.hid hwa
            have HO := Lib.hid ho
            clear hwa ho x1 x2 x3 p1 p2
            go_wp2_with fail
            refine (lost_any W H _ L k _ (hv.below hwz) g2 g80 g24 HLEN.out hlt).mono ?_
            rintro e w3 ⟨rfl, hb3⟩
            have hw3 := HW2.out.trans (hb3.mono hsz2)
            by_cases hlo : lost W L k
            · have HN := Lib.hid (show ¬ right W H L from not_right_at hlt fun _ => hlo)
              rw [decide_eq_true hlo]
              have HW3 := Lib.hid (hwz.trans (hb3.mono hwz.size))
              clear hw3 hlo
              go_wp2
              go_ret
              exact ⟨ret_bool (decide_eq_false HN.out).symm, HW3.out⟩
            · have HU := Lib.hid (upto_succ HUP.out (by rw [HXY.out]; exact HO.out) hlo)
              rw [decide_eq_false hlo]
              have HW3 := Lib.hid hw3
              clear hw3 hlo
              go_wp2
              go_roundw
              case rel => exact ⟨k + 1, by omega, by go_num, HU.out, HW3.out⟩
              case measure => simp [intOf]; omega
        · obtain rfl : k = L.length := by omega
          have HY := Lib.hid (right_of g2 g80 g1 g24 HLEN.out HUP.out)
          go_wp2
          go_ret
          exact ⟨ret_bool (decide_eq_true HY.out).symm, hww⟩
    · have hb : (((L.length : Nat) : Int) == (W : Int) * (H : Int)) = false := by rw [beq_eq_false_iff_ne]; intro h; exact hlen (by exact_mod_cast h)
      have hn := Lib.hid (show ¬ right (W : Int) (H : Int) L from fun h => hlen (by have := h.2.1; exact_mod_cast this))
      clear hlen
      go_enter Tryd.func18, Tryd.ntmps18
      go_wp2_with fail
      refine (rsides_any _ _ _).mono ?_
      rintro e w1 ⟨rfl, rfl⟩
      rw [HS.out]
      go_wp2
      go_ret
      exact ⟨ret_bool (decide_eq_false hn.out).symm, (Below.refl _ _).alloc (Nat.le_refl _) _⟩
end Go.Proofs.YtakokmacfdfjhaaDoor
