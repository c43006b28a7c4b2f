/- Contracts of grid and of its reference. -/
import Derived.Test.YtkkioajmfkcloaaDoorMGa
import Derived.Test.YtkkioajmfkcloaaDoorMWp
/- The contract of the reference's Is of a grid. -/
set_option linter.unusedVariables false
namespace Go.Proofs.YtkkioajmfkcloaaDoor
open Go.RowKit Gl L Wd Gd
set_option maxHeartbeats 4000000 in
theorem ris_grid_any (gw gh : Int) (v : Value) (L : List (Int × Int)) (w : World) (hv : Rw w v 2 L.length (flat L)) (hm : L.length ≤ maxLen) :
    Calls Tryd.prog 31 #[.agg #[.int .i64 gw, .int .i64 gh, v]] w fun e w' => e = .returned (.bool (decide (right gw gh L))) ∧ Below w.heap.size w w' := by
  obtain ⟨A, cap, rfl⟩ : ∃ A cap, v = .slice A L.length cap := ⟨_, _, hv.2.choose_spec.choose_spec.1⟩
  unfold maxLen at hm
  cases hs : sidesB gw gh
  · have hn := Lib.hid (not_right_sides (L := L) hs)
    have HS := Lib.hid hs
    clear hs
    go_enter Tryd.func31, Tryd.ntmps31
    go_wp2_with fail
    refine (rsides_any _ _ _).mono ?_
    rintro e w1 ⟨rfl, rfl⟩
    rw [HS.out]
    go_wp2
    go_ret
    exact ⟨ret_bool (decide_eq_false hn.out).symm, (Below.refl _ _).alloc (Nat.le_refl _) _⟩
  · obtain ⟨W, H, rfl, rfl, g2, g80, g1, g24⟩ := sides_of hs
    have HS := Lib.hid hs
    clear hs
    have hWH : W * H ≤ 1920 := Nat.mul_le_mul g80 g24
    have hWHi : (W : Int) * (H : Int) ≤ 1920 := by
      have h : ((W * H : Nat) : Int) ≤ 1920 := by omega
      rwa [Int.natCast_mul] at h
    have hWH0 : 0 ≤ (W : Int) * (H : Int) := Int.mul_nonneg (by omega) (by omega)
    by_cases hlen : L.length = W * H
    · have hb : (((L.length : Nat) : Int) == (W : Int) * (H : Int)) = true := by rw [beq_iff_eq]; exact_mod_cast hlen
      have hb' : (((L.length : Nat) : Int) != (W : Int) * (H : Int)) = false := by unfold bne; rw [hb]; rfl
      have HLEN := Lib.hid hlen
      clear hlen
      go_enter Tryd.func31, Tryd.ntmps31
      go_wp2_with fail
      refine (rsides_any _ _ _).mono ?_
      rintro e w1 ⟨rfl, rfl⟩
      rw [HS.out]
      go_wp2
      go_loopw [3] (fun i wr => ∃ k : Nat, k ≤ L.length ∧ i = .int .i64 k ∧ upto W L k ∧ Below (w.heap.size + 1) (w.alloc (.cells #[.int .i64 W, .int .i64 H, .slice A L.length cap] 24)) wr) (fun i _ => L.length - (intOf i).toNat)
      case atStart => exact ⟨0, Nat.zero_le _, rfl, fun i hi => by omega, Below.refl _ _⟩
      case round =>
        obtain ⟨k, hk, rfl, hup, hw⟩ := hrel
        have HUP := Lib.hid hup
        have HW := Lib.hid hw
        clear hup
        obtain ⟨x1, x2, x3, hww, hsz⟩ := box3 hw
        clear hw
        by_cases hlt : k < L.length
        · have hvr := hv.below hww
          obtain ⟨b, off, rfl, _, hc⟩ := Rw.cell2 hvr (by omega)
          obtain ⟨p1, p2⟩ := hc k hlt
          have hbb : b < wr.heap.size := World.block_lt_of_cell? wr _ p1
          clear hc
          generalize hxy : L.getD k (0, 0) = xy at p1 p2
          obtain ⟨x, y⟩ := xy
          simp only at p1 p2
          have HXY := Lib.hid hxy
          clear hxy
          have HK := Lib.hid hlt
          have HRW := Lib.hid hvr
          clear hvr
          go_wp2_with fail
          refine (ris2_any _ _ _).mono ?_
          rintro e w2 ⟨rfl, hb2⟩
          cases ho : Wd.ok x y
          · have HN := Lib.hid (show ¬ right W H L from not_right_at hlt (by rw [HXY.out, ho]; intro h; cases h))
            clear ho
            go_wp2
            go_ret
            exact ⟨ret_bool (decide_eq_false HN.out).symm, hww.trans (hb2.mono hww.size)⟩
          · have hwa := HW.out.trans (hb2.mono hsz)
            obtain ⟨z1, z2, z3, hwz, hsz2⟩ := box3 hwa
            have HW2 := Lib.hid hwa
            have HO := Lib.hid ho
            clear hwa ho x1 x2 x3 p1 p2
            go_wp2_with fail
            refine (lost_any W H _ L k _ (hv.below hwz) g2 g80 g24 HLEN.out hlt).mono ?_
            rintro e w3 ⟨rfl, hb3⟩
            have hw3 := HW2.out.trans (hb3.mono hsz2)
            by_cases hlo : lost W L k
            · have HN := Lib.hid (show ¬ right W H L from not_right_at hlt fun _ => hlo)
              rw [decide_eq_true hlo]
              have HW3 := Lib.hid (hwz.trans (hb3.mono hwz.size))
              clear hw3 hlo
              go_wp2
              go_ret
              exact ⟨ret_bool (decide_eq_false HN.out).symm, HW3.out⟩
            · have HU := Lib.hid (upto_succ HUP.out (by rw [HXY.out]; exact HO.out) hlo)
              rw [decide_eq_false hlo]
              have HW3 := Lib.hid hw3
              clear hw3 hlo
              go_wp2
              go_roundw
              case rel => exact ⟨k + 1, by omega, by go_num, HU.out, HW3.out⟩
              case measure => simp [intOf]; omega
        · obtain rfl : k = L.length := by omega
          have HY := Lib.hid (right_of g2 g80 g1 g24 HLEN.out HUP.out)
          go_wp2
          go_ret
          exact ⟨ret_bool (decide_eq_true HY.out).symm, hww⟩
    · have hb : (((L.length : Nat) : Int) == (W : Int) * (H : Int)) = false := by rw [beq_eq_false_iff_ne]; intro h; exact hlen (by exact_mod_cast h)
      have hn := Lib.hid (show ¬ right (W : Int) (H : Int) L from fun h => hlen (by have := h.2.1; exact_mod_cast this))
      clear hlen
      go_enter Tryd.func31, Tryd.ntmps31
      go_wp2_with fail
      refine (rsides_any _ _ _).mono ?_
      rintro e w1 ⟨rfl, rfl⟩
      rw [HS.out]
      go_wp2
      go_ret
      exact ⟨ret_bool (decide_eq_false hn.out).symm, (Below.refl _ _).alloc (Nat.le_refl _) _⟩
end Go.Proofs.YtkkioajmfkcloaaDoor
/- The contracts of both At of a grid, and of what asks for a place. -/
set_option linter.unusedVariables false
namespace Go.Proofs.YtkkioajmfkcloaaDoor
open Go.RowKit Gl L Wd Gd
set_option maxHeartbeats 2000000 in
theorem gplace_any (gw gh x y : Int) (v : Value) (L : List (Int × Int)) (w : World) (hv : Rw w v 2 L.length (flat L)) (hm : L.length ≤ maxLen) (S : Spans w 2) :
    Calls Tryd.prog 27 #[.agg #[.int .i64 gw, .int .i64 gh, v], .int .i64 x, .int .i64 y] w fun e w' => e = .returned (.bool (decide (place gw gh L x y))) ∧ Below w.heap.size w w' := by
  by_cases hp : 0 ≤ x ∧ x < gw ∧ 0 ≤ y ∧ y < gh
  · have hpp := hp
    have HD := Lib.hid (show decide (place gw gh L x y) = decide (right gw gh L) by rw [decide_eq_decide]; exact ⟨fun h => h.1, fun h => ⟨h, hpp⟩⟩)
    obtain ⟨h1, h2, h3, h4⟩ := hp
    go_enter Tryd.func27, Tryd.ntmps27
    go_wp2_with fail
    refine (is_grid_any gw gh v L _ (hv.alloc _) hm (S.below ((Below.refl _ _).alloc (Nat.le_refl _) _))).mono ?_
    rintro e w1 ⟨rfl, hb1⟩
    go_wp2
    go_ret
    exact ⟨ret_bool (by rw [HD.out]), ((Below.refl _ _).alloc (Nat.le_refl _) _).trans (hb1.mono (by simp))⟩
  · have HD := Lib.hid (show decide (place gw gh L x y) = false by rw [decide_eq_false_iff_not]; exact fun h => hp h.2)
    have HP := Lib.hid hp
    clear hp
    cases d1 : decide (0 ≤ x)
    · go_enter Tryd.func27, Tryd.ntmps27
      go_wp2
      go_ret
      exact ⟨ret_bool HD.out.symm, (Below.refl _ _).alloc (Nat.le_refl _) _⟩
    cases d2 : decide (x < gw)
    · go_enter Tryd.func27, Tryd.ntmps27
      go_wp2
      go_ret
      exact ⟨ret_bool HD.out.symm, (Below.refl _ _).alloc (Nat.le_refl _) _⟩
    cases d3 : decide (0 ≤ y)
    · go_enter Tryd.func27, Tryd.ntmps27
      go_wp2
      go_ret
      exact ⟨ret_bool HD.out.symm, (Below.refl _ _).alloc (Nat.le_refl _) _⟩
    cases d4 : decide (y < gh)
    · go_enter Tryd.func27, Tryd.ntmps27
      go_wp2
      go_ret
      exact ⟨ret_bool HD.out.symm, (Below.refl _ _).alloc (Nat.le_refl _) _⟩
    simp only [decide_eq_true_eq] at d1 d2 d3 d4
    exact absurd ⟨d1, d2, d3, d4⟩ HP.out
/-- What At tells. -/
def Gd.atV (gw gh : Int) (L : List (Int × Int)) (x y : Int) : Int × Int := if place gw gh L x y then L.getD (y.toNat * gw.toNat + x.toNat) (0, 0) else (0, 0)
def Gd.atE (gw gh : Int) (L : List (Int × Int)) (x y : Int) : Int := if place gw gh L x y then 0 else 1
end Go.Proofs.YtkkioajmfkcloaaDoor
/- The contracts of both New of a grid. -/
set_option linter.unusedVariables false
namespace Go.Proofs.YtkkioajmfkcloaaDoor
open Go.RowKit Gl L Wd Gd
theorem Own.op {B : Nat} {w : World} {v : Value} {l : List (Int × Int)} (h : Own B w v l) {n : Nat} (hn : l.length = n) : ∃ g cap, v = .slice (some ⟨g, 0, none⟩) n cap ∧ n ≤ cap ∧ w.ownsRow B 48 2 (.slice (some ⟨g, 0, none⟩) n cap) n (flat l) := by
  subst hn; exact h
theorem Own.sh {B : Nat} {w : World} {l : List (Int × Int)} {g n cap : Nat} (hn : l.length = n) (hc : n ≤ cap) (h : w.ownsRow B 48 2 (.slice (some ⟨g, 0, none⟩) n cap) n (flat l)) : Own B w (.slice (some ⟨g, 0, none⟩) n cap) l := by
  subst hn; exact ⟨g, cap, rfl, hc, h⟩
theorem Own.set1 {B : Nat} {w : World} {v : Value} {l : List (Int × Int)} (h : Own B w v l) (b o : Nat) (u : Value) (hb : b < B) : Own B (w.setCell ⟨b, o, none⟩ u) v l := by
  obtain ⟨g, cap, rfl, hc, h⟩ := h
  refine ⟨g, cap, rfl, hc, h.kept (row := some b) ⟨rfl, rfl, rfl, by simp, fun k _ hk => heap_setCell_other w ⟨b, o, none⟩ k u (fun e => hk (by simp [e]))⟩ (.inr ?_)⟩
  have := (h.lt g rfl).1
  simp [Value.ownBlock]
  omega
/-- A grid that was made is told with no error. -/
def GridOK (B : Nat) (w' : World) (e : Ending) (gw gh : Int) (l : List (Int × Int)) : Prop := ∃ v, e = .returned (.tuple #[.agg #[.int .i64 gw, .int .i64 gh, v], .int .i64 0]) ∧ Own B w' v l
/-- No grid is told, with an error. -/
def GridNo (e : Ending) (err : Int) : Prop := e = .returned (.tuple #[.agg #[.int .i64 0, .int .i64 0, .slice none 0 0], .int .i64 err])
/-- A grid is told, if c; else none, with an error. -/
def Out (c : Bool) (err : Int) (B : Nat) (w' : World) (e : Ending) (gw gh : Int) (l : List (Int × Int)) : Prop := if c then GridOK B w' e gw gh l else GridNo e err
theorem Out.yes {c : Bool} {err : Int} {B : Nat} {w' : World} {e : Ending} {gw gh : Int} {l : List (Int × Int)} (hc : c = true) (h : GridOK B w' e gw gh l) : Out c err B w' e gw gh l := by subst hc; exact h
theorem Out.no {c : Bool} {err : Int} {B : Nat} {w' : World} {e : Ending} {gw gh : Int} {l : List (Int × Int)} (hc : c = false) (h : GridNo e err) : Out c err B w' e gw gh l := by subst hc; exact h
theorem Out.is {c : Bool} {err : Int} {B : Nat} {w' : World} {e : Ending} {gw gh : Int} {l : List (Int × Int)} (h : Out c err B w' e gw gh l) (hc : c = true) : GridOK B w' e gw gh l := by subst hc; exact h
theorem Out.isnt {c : Bool} {err : Int} {B : Nat} {w' : World} {e : Ending} {gw gh : Int} {l : List (Int × Int)} (h : Out c err B w' e gw gh l) (hc : c = false) : GridNo e err := by subst hc; exact h
set_option maxHeartbeats 2000000 in
theorem new_any (gw gh : Int) (w : World) (T : Blk w 0) :
    Calls Tryd.prog 12 #[.int .i64 gw, .int .i64 gh] w fun e w' => Out (sidesB gw gh) 4 w.heap.size w' e gw gh (newL gw gh) ∧ Below w.heap.size w w' := by
  have hb0 : Below w.heap.size w (w.alloc (.cells #[.int .i64 0, .int .i64 0, .slice none 0 0] 24)) := (Below.refl _ _).alloc (Nat.le_refl _) _
  cases hs : sidesB gw gh
  · have HS := Lib.hid hs
    clear hs
    go_enter Tryd.func12, Tryd.ntmps12
    go_wp2_with fail
    refine (sides_any _ _ _).mono ?_
    rintro e w1 ⟨rfl, rfl⟩
    rw [HS.out]
    go_wp2
    refine bodyPost_ret (v := .tuple #[.agg #[.int .i64 0, .int .i64 0, .slice none 0 0], .int .i64 4]) (by simp [results, Tryd.results12, go_sem]) rfl ⟨?_, ?_⟩
    · exact Out.no rfl rfl
    · exact hb0
  · obtain ⟨W, H, rfl, rfl, g2, g80, g1, g24⟩ := sides_of hs
    have HS := Lib.hid hs
    clear hs
    have hWH : W * H ≤ 1920 := Nat.mul_le_mul g80 g24
    have HB := Lib.hid (show ∀ wz, Blk wz 0 → Calls Tryd.prog 25 #[.int .i64 ((W : Int) * (H : Int))] wz fun e w' => ∃ v, e = .returned v ∧ Own wz.heap.size w' v (List.replicate (W * H) bl) ∧ Below wz.heap.size wz w' from fun wz T => by rw [← Int.natCast_mul]; exact blanks_any (W * H) (by omega) wz T)
    go_enter Tryd.func12, Tryd.ntmps12
    go_wp2_with fail
    refine (sides_any _ _ _).mono ?_
    rintro e w1 ⟨rfl, rfl⟩
    rw [HS.out]
    go_wp2_with fail
    refine (HB.out _ (T.below hb0)).mono ?_
    rintro e w1 ⟨v, rfl, hown, hb1⟩
    obtain ⟨g, cap, rfl, hcap, hrow⟩ := hown.op (List.length_replicate ..)
    have HO := Lib.hid (Own.sh (List.length_replicate ..) hcap hrow)
    clear hown hrow
    have hc1 := old_cell hb1
    have hf1 := old_frozen hb1
    have hz1 := hb1.size
    go_wp2
    refine bodyPost_ret (v := .tuple #[.agg #[.int .i64 W, .int .i64 H, .slice (some ⟨g, 0, none⟩) (W * H) cap], .int .i64 0]) (by simp [results, Tryd.results12, go_sem, hc1]) rfl ⟨?_, ?_⟩
    · refine Out.yes rfl ⟨_, rfl, ?_⟩
      have := HO.out
      unfold newL
      rw [Int.toNat_natCast, Int.toNat_natCast]
      exact ((((this.set1 _ _ _ (by simp)).set1 _ _ _ (by simp)).set1 _ _ _ (by simp))).mono (by simp)
    · exact ((((hb0.trans (hb1.mono hb0.size)).setCell (by simp) _).setCell (by simp) _).setCell (by simp) _)
end Go.Proofs.YtkkioajmfkcloaaDoor
/- The contract of the reference's own: a grid's cells as a list of its own. -/
set_option linter.unusedVariables false
namespace Go.Proofs.YtkkioajmfkcloaaDoor
open Go.RowKit Gl L Wd Gd
set_option maxHeartbeats 2000000 in
theorem own_any (gw gh : Int) (v : Value) (L : List (Int × Int)) (w : World) (hv : Rw w v 2 L.length (flat L)) (hm : L.length ≤ 100000) (h0 : 0 < L.length) :
    Calls Tryd.prog 44 #[.agg #[.int .i64 gw, .int .i64 gh, v]] w fun e w' => (∃ v', e = .returned (.agg #[.int .i64 gw, .int .i64 gh, v']) ∧ Own w.heap.size w' v' L) ∧ Below w.heap.size w w' := by
  have hb0 : Below w.heap.size w ((w.alloc (.cells #[.int .i64 gw, .int .i64 gh, v] 24)).alloc (.cells #[.int .i64 0, .int .i64 0, .slice none 0 0] 24)) := ((Below.refl _ _).alloc (Nat.le_refl _) _).alloc (by simp) _
  obtain ⟨A, cap, rfl⟩ : ∃ A cap, v = .slice A L.length cap := ⟨_, _, hv.2.choose_spec.choose_spec.1⟩
  obtain ⟨i0, hi, hz0, hz1, hz2⟩ := info_parts Tryd.info48
  have hown0 : (((w.alloc (.cells #[.int .i64 gw, .int .i64 gh, .slice A L.length cap] 24)).alloc (.cells #[.int .i64 0, .int .i64 0, .slice none 0 0] 24)).alloc (.cells #[] 48)).ownsRow (w.heap.size + 1 + 1) 48 2 (.slice (some ⟨w.heap.size + 1 + 1, 0, none⟩) 0 0) 0 [] := by
    have := World.ownsRow_made (base := w.heap.size + 1 + 1) (e := 48) (size := 2) ((w.alloc (.cells #[.int .i64 gw, .int .i64 gh, .slice A L.length cap] 24)).alloc (.cells #[.int .i64 0, .int .i64 0, .slice none 0 0] 24)) #[] 0 (by simp) (by decide) (by simp)
    simpa using this
  have hb1 := hb0.alloc hb0.size (.cells #[] 48)
  have hrw1 := hv.below hb1
  go_enter Tryd.func44, Tryd.ntmps44
  go_wp2_with (at_builtin; refine wpList_append_rw rfl (.tmp 5) (.tmp 7) 22 rfl _ 48 i0 _ 2 16 Tryd.underlying22 hi hz0 hz1 hz2 rfl (by decide) _ _ _ rfl hown0 _ _ _ rfl hrw1 (flat_one _) ?c2 ?c3 ?c4 ?_)
  case c2 => unfold maxLen; omega
  case c3 => omega
  case c4 => simp
  intro v' w2 hown' hgr hne'
  have hbW : Below (w.heap.size + 1 + 1) ((w.alloc (.cells #[.int .i64 gw, .int .i64 gh, .slice A L.length cap] 24)).alloc (.cells #[.int .i64 0, .int .i64 0, .slice none 0 0] 24)) w2 := Below.of_grown ((Below.refl _ _).alloc (by simp) (.cells #[] 48)) hown0 hgr (by simp) (Nat.le_refl _)
  have HB := Lib.hid (hb0.trans (hbW.mono (by omega)))
  have hc1 := old_cell (hbW.mono (by simp))
  have hf1 := old_frozen (hbW.mono (by simp))
  have hz1 := hbW.size
  obtain ⟨g, cap', rfl, hcap⟩ := Rw.form_ne hown' hne'
  have HO := Lib.hid hown'
  clear hown' hown0 hgr hne' hrw1 hbW hb0 hb1
  go_wp2
  refine bodyPost_ret (v := .agg #[.int .i64 gw, .int .i64 gh, .slice (some ⟨g, 0, none⟩) L.length cap']) (by simp [results, Tryd.results44, go_sem, hc1]) rfl ⟨⟨_, rfl, ?_⟩, ?_⟩
  · exact ((((Own.sh rfl hcap HO.out).set1 _ _ _ (by simp)).set1 _ _ _ (by simp)).set1 _ _ _ (by simp)).mono (by omega)
  · exact (((HB.out).setCell (by simp) _).setCell (by simp) _).setCell (by simp) _
end Go.Proofs.YtkkioajmfkcloaaDoor
/- The contracts of the reference's New of a grid, and of own. -/
set_option linter.unusedVariables false
namespace Go.Proofs.YtkkioajmfkcloaaDoor
open Go.RowKit Gl L Wd Gd
namespace Gd
theorem rep_snoc (k : Nat) : List.replicate k bl ++ [bl] = List.replicate (k + 1) bl := List.replicate_succ'.symm
end Gd
theorem blk3 {w : World} {g : Nat} {x y z : Value} {t : TypeId} (h : w.heap[g]? = some (.cells #[x, y, z] t (0, 0))) : w.cell? ⟨g, 0, none⟩ = some x ∧ w.cell? ⟨g, 1, none⟩ = some y ∧ w.cell? ⟨g, 2, none⟩ = some z ∧ w.frozen? ⟨g, 0, none⟩ = false ∧ w.frozen? ⟨g, 1, none⟩ = false ∧ w.frozen? ⟨g, 2, none⟩ = false ∧ g < w.heap.size :=
  ⟨cell_of_row w g 0 _ t (0, 0) h, cell_of_row w g 1 _ t (0, 0) h, cell_of_row w g 2 _ t (0, 0) h, frozen_of_row w g 0 _ t h, frozen_of_row w g 1 _ t h, frozen_of_row w g 2 _ t h, (Array.getElem?_eq_some_iff.1 h).1⟩
theorem blk3_set {w : World} {g : Nat} {x y z u : Value} {t : TypeId} (h : w.heap[g]? = some (.cells #[x, y, z] t (0, 0))) : (w.setCell ⟨g, 2, none⟩ u).heap[g]? = some (.cells #[x, y, u] t (0, 0)) := by
  rw [heap_setCell_same w g 2 _ t u h]; rfl
set_option maxHeartbeats 2000000 in
theorem rnew_any (gw gh : Int) (w : World) :
    Calls Tryd.prog 32 #[.int .i64 gw, .int .i64 gh] w fun e w' => Out (sidesB gw gh) 4 w.heap.size w' e gw gh (newL gw gh) ∧ Below w.heap.size w w' := by
  have hb0 : Below w.heap.size w (w.alloc (.cells #[.int .i64 0, .int .i64 0, .slice none 0 0] 24)) := (Below.refl _ _).alloc (Nat.le_refl _) _
  cases hs : sidesB gw gh
  · have HS := Lib.hid hs
    clear hs
    go_enter Tryd.func32, Tryd.ntmps32
    go_wp2_with fail
    refine (rsides_any _ _ _).mono ?_
    rintro e w1 ⟨rfl, rfl⟩
    rw [HS.out]
    go_wp2
    refine bodyPost_ret (v := .tuple #[.agg #[.int .i64 0, .int .i64 0, .slice none 0 0], .int .i64 4]) (by simp [results, Tryd.results32, go_sem]) rfl ⟨?_, ?_⟩
    · exact Out.no rfl rfl
    · exact hb0
  · obtain ⟨W, H, rfl, rfl, g2, g80, g1, g24⟩ := sides_of hs
    have HS := Lib.hid hs
    clear hs
    have hWH : W * H ≤ 1920 := Nat.mul_le_mul g80 g24
    obtain ⟨i0, hi, hz0, hz1, hz2⟩ := info_parts Tryd.info48
    go_enter Tryd.func32, Tryd.ntmps32
    go_wp2_with fail
    refine (rsides_any _ _ _).mono ?_
    rintro e w1 ⟨rfl, rfl⟩
    rw [HS.out]
    go_wp2_with fail
    go_loopw [7] (fun i wr => ∃ k : Nat, k ≤ W * H ∧ i = .int .i64 k ∧ ∃ v, wr.heap[w.heap.size + 1]? = some (.cells #[.int .i64 W, .int .i64 H, v] 24 (0, 0)) ∧ wr.ownsRow (w.heap.size + 1 + 1) 48 2 v k (flat (List.replicate k bl)) ∧ Below (w.heap.size + 1) (w.alloc (.cells #[.int .i64 0, .int .i64 0, .slice none 0 0] 24)) wr) (fun i _ => W * H - (intOf i).toNat)
    case atStart => exact ⟨0, Nat.zero_le _, rfl, _, by simpa using heap_alloc_new (w.alloc (.cells #[.int .i64 0, .int .i64 0, .slice none 0 0] 24)) (.cells #[.int .i64 W, .int .i64 H, .slice none 0 0] 24), World.ownsRow_nil _ _ _ _, (Below.refl _ _).alloc (by simp) _⟩
    case round =>
      obtain ⟨k, hk, rfl, v, hg, hown, hw⟩ := hrel
      obtain ⟨b1, b2, b3, f1, f2, f3, hsz⟩ := blk3 hg
      have hww : Below w.heap.size w wr := hb0.trans (hw.mono (by omega))
      by_cases hlt : k < W * H
      · have d1 : decide ((k : Int) < (W : Int) * (H : Int)) = true := by rw [decide_eq_true_iff, ← Int.natCast_mul]; omega
        have hown1 := hown.alloc (.cells #[.int .i32 32, .int .i64 0] 48)
        have hRw := fun n cap h => Rw.lit wr #[.int .i32 32, .int .i64 0] 48 2 n cap h
        go_wp2_with (at_builtin; refine wpList_append_rw rfl (.tmp 24) (.tmp 26) 22 rfl (w.heap.size + 1 + 1) 48 i0 _ 2 16 Tryd.underlying22 hi hz0 hz1 hz2 rfl (by decide) _ _ _ rfl hown1 _ _ _ rfl (hRw 1 1 (by simp)) (flat_one [(32, 0)]) (by unfold maxLen; omega) (by omega) (by simp; omega) ?_)
        intro v' w2 hown' hgr hne'
        have hg2 : w2.heap[w.heap.size + 1]? = some (.cells #[.int .i64 W, .int .i64 H, v] 24 (0, 0)) := by
          rw [hgr.block (w.heap.size + 1) (by simp; omega) (by intro h; have := hown.lt _ h.symm; omega)]
          exact (((Below.refl _ _).alloc (Nat.le_refl _) (.cells #[.int .i32 32, .int .i64 0] 48)).block _ hsz).trans hg
        have hb2 : Below (w.heap.size + 1) (w.alloc (.cells #[.int .i64 0, .int .i64 0, .slice none 0 0] 24)) w2 := Below.of_grown (hw.alloc (by omega) (.cells #[.int .i32 32, .int .i64 0] 48)) hown1 hgr (by simp; omega) (by omega)
        have hn2 : w2.ownsRow (w.heap.size + 1 + 1) 48 2 v' (k + 1) (flat (List.replicate (k + 1) bl)) := by
          rw [← rep_snoc, flat_append]; exact hown'
        obtain ⟨g', cap', rfl, hcap⟩ : ∃ g cap, v' = .slice (some ⟨g, 0, none⟩) (k + 1) cap ∧ k + 1 ≤ cap := (Rw.form hn2).resolve_left (fun h => by omega)
        obtain ⟨b1', b2', b3', f1', f2', f3', hsz'⟩ := blk3 hg2
        have H1 := Lib.hid hg2
        have H2 := Lib.hid hb2
        have H3 := Lib.hid hn2
        clear hg2 hb2 hn2 hown' hgr hne' hown1 hRw hown hg b1 b2 b3 f1 f2 f3
        go_wp2
        go_roundw
        case rel =>
          refine ⟨k + 1, by omega, by go_num, _, blk3_set H1.out, ?_, H2.out.setCell (by simp) _⟩
          exact H3.out.kept (row := some (w.heap.size + 1)) ⟨rfl, rfl, rfl, by simp, fun q _ hk => heap_setCell_other w2 ⟨w.heap.size + 1, 2, none⟩ q _ (fun e => hk (by simp [e]))⟩ (.inr (by have := (H3.out.lt g' rfl).1; simp [Value.ownBlock]; omega))
        case measure => simp [intOf]; omega
      · obtain rfl : k = W * H := by omega
        have d1 : decide (((W * H : Nat) : Int) < (W : Int) * (H : Int)) = false := by rw [decide_eq_false_iff_not, ← Int.natCast_mul]; omega
        have hpos : 0 < W * H := Nat.mul_pos (by omega) (by omega)
        obtain ⟨g', cap', rfl, hcap⟩ : ∃ g cap, v = .slice (some ⟨g, 0, none⟩) (W * H) cap ∧ W * H ≤ cap := (Rw.form hown).resolve_left (fun h => by omega)
        have H3 := Lib.hid hown
        have hc1 := old_cell (hw.mono (by simp))
        have hf1 := old_frozen (hw.mono (by simp))
        clear hown hg
        go_wp2
        refine bodyPost_ret (v := .tuple #[.agg #[.int .i64 W, .int .i64 H, .slice (some ⟨g', 0, none⟩) (W * H) cap'], .int .i64 0]) (by simp [results, Tryd.results32, go_sem, hc1]) rfl ⟨?_, ?_⟩
        · refine Out.yes rfl ⟨_, rfl, ?_⟩
          unfold newL
          rw [Int.toNat_natCast, Int.toNat_natCast]
          exact ((((Own.sh (List.length_replicate ..) hcap H3.out).set1 _ _ _ (by omega)).set1 _ _ _ (by omega)).set1 _ _ _ (by omega)).mono (by omega)
        · exact (((hww.setCell (by simp) _).setCell (by simp) _).setCell (by simp) _)
end Go.Proofs.YtkkioajmfkcloaaDoor
/- The contract of the reference's mend. -/
set_option linter.unusedVariables false
namespace Go.Proofs.YtkkioajmfkcloaaDoor
open Go.RowKit Gl L Wd Gd
namespace Gd
def mendK (W : Nat) (M : List (Int × Int)) (k : Nat) : List (Int × Int) := (List.range M.length).map fun i => if i < k ∧ lost W M i then bl else M.getD i (0, 0)
theorem mendK_len (W : Nat) (M : List (Int × Int)) (k : Nat) : (mendK W M k).length = M.length := by simp [mendK]
theorem mendK_at (W : Nat) (M : List (Int × Int)) (k i : Nat) (h : i < M.length) : (mendK W M k).getD i (0, 0) = if i < k ∧ lost W M i then bl else M.getD i (0, 0) := by
  unfold mendK; rw [map_getD, if_pos h]
theorem mendK_0 (W : Nat) (M : List (Int × Int)) : mendK W M 0 = M := by
  apply ext_getD (mendK_len ..)
  intro i hi
  rw [mendK_len] at hi
  rw [mendK_at _ _ _ _ hi, if_neg (by omega)]
theorem mendK_all (W : Nat) (M : List (Int × Int)) : mendK W M M.length = mend W M := by
  apply ext_getD (by rw [mendK_len, mend_len])
  intro i hi
  rw [mendK_len] at hi
  rw [mendK_at _ _ _ _ hi, mend_at _ _ _ hi]
  simp [hi]
theorem mendK_yes {W : Nat} {M : List (Int × Int)} {k : Nat} (hk : k < M.length) (h : lost W M k) : mendK W M (k + 1) = (mendK W M k).set k bl := by
  apply ext_getD (by rw [List.length_set, mendK_len, mendK_len])
  intro i hi
  rw [mendK_len] at hi
  rw [set_getD _ _ _ _ (by rw [mendK_len]; exact hk), mendK_at _ _ _ _ hi, mendK_at _ _ _ _ hi]
  by_cases e : i = k
  · subst e; rw [if_pos rfl, if_pos ⟨by omega, h⟩]
  · rw [if_neg e]
    by_cases h2 : i < k ∧ lost W M i
    · rw [if_pos h2, if_pos ⟨by omega, h2.2⟩]
    · rw [if_neg h2, if_neg (fun h3 => h2 ⟨by omega, h3.2⟩)]
theorem mendK_no {W : Nat} {M : List (Int × Int)} {k : Nat} (h : ¬ lost W M k) : mendK W M (k + 1) = mendK W M k := by
  apply ext_getD (by rw [mendK_len, mendK_len])
  intro i hi
  rw [mendK_len] at hi
  rw [mendK_at _ _ _ _ hi, mendK_at _ _ _ _ hi]
  by_cases h2 : i < k ∧ lost W M i
  · rw [if_pos h2, if_pos ⟨by omega, h2.2⟩]
  · rw [if_neg h2, if_neg]
    rintro ⟨h3, h4⟩
    have : i ≠ k := fun e => h (e ▸ h4)
    exact h2 ⟨by omega, h4⟩
end Gd
set_option maxHeartbeats 4000000 in
theorem mend_any (W H : Nat) (v : Value) (L : List (Int × Int)) (w : World) (hv : Rw w v 2 L.length (flat L)) (w2 : 2 ≤ W) (w80 : W ≤ 80) (h1 : 1 ≤ H) (h24 : H ≤ 24) (hlen : L.length = W * H) :
    Calls Tryd.prog 33 #[.agg #[.int .i64 W, .int .i64 H, v]] w fun e w' => (∃ v', e = .returned (.agg #[.int .i64 W, .int .i64 H, v']) ∧ Own w.heap.size w' v' (mend W L)) ∧ Below w.heap.size w w' := by
  have hm : L.length ≤ 1920 := by rw [hlen]; exact Nat.mul_le_mul w80 h24
  have h0 : 0 < L.length := by rw [hlen]; exact Nat.mul_pos (by omega) (by omega)
  have hb0 : Below w.heap.size w ((w.alloc (.cells #[.int .i64 W, .int .i64 H, v] 24)).alloc (.cells #[.int .i64 0, .int .i64 0, .slice none 0 0] 24)) := ((Below.refl _ _).alloc (Nat.le_refl _) _).alloc (by simp) _
  obtain ⟨A, cap, rfl⟩ : ∃ A cap, v = .slice A L.length cap := ⟨_, _, hv.2.choose_spec.choose_spec.1⟩
  have HLEN := Lib.hid hlen
  clear hlen
  go_enter Tryd.func33, Tryd.ntmps33
  go_wp2_with fail
  refine (own_any W H _ L _ (hv.below hb0) (by omega) h0).mono ?_
  rintro e w1 ⟨⟨v', rfl, hown⟩, hb1⟩
  obtain ⟨g, cap', rfl, hcap, hrow⟩ := hown
  have hgl := hrow.lt g rfl
  have hg0 : w.heap.size + 1 + 1 ≤ g := by simpa using hgl.1
  have hrow0 : w1.ownsRow (w.heap.size + 1 + 1) 48 2 (.slice (some ⟨g, 0, none⟩) L.length cap') L.length (flat (mendK W L 0)) := by
    rw [mendK_0]; simpa using hrow
  have hb2 : Below (w.heap.size + 1 + 1) ((w.alloc (.cells #[.int .i64 W, .int .i64 H, .slice A L.length cap] 24)).alloc (.cells #[.int .i64 0, .int .i64 0, .slice none 0 0] 24)) w1 := hb1.mono (by simp)
  have HB1 := Lib.hid hb1
  clear hb1 hrow
  go_wp2
  go_loopw [4] (fun i wr => ∃ k : Nat, k ≤ L.length ∧ i = .int .i64 k ∧ wr.ownsRow (w.heap.size + 1 + 1) 48 2 (.slice (some ⟨g, 0, none⟩) L.length cap') L.length (flat (mendK W L k)) ∧ wr.heap[w1.heap.size]? = some (.cells #[.int .i64 W, .int .i64 H, .slice (some ⟨g, 0, none⟩) L.length cap'] 24 (0, 0)) ∧ Below (w.heap.size + 1 + 1) ((w.alloc (.cells #[.int .i64 W, .int .i64 H, .slice A L.length cap] 24)).alloc (.cells #[.int .i64 0, .int .i64 0, .slice none 0 0] 24)) wr) (fun i _ => L.length - (intOf i).toNat)
  case atStart => exact ⟨0, Nat.zero_le _, rfl, hrow0.alloc _, heap_alloc_new w1 _, hb2.alloc (by omega) _⟩
  case round =>
    obtain ⟨k, hk, rfl, hown, hg, hw⟩ := hrel
    obtain ⟨b1, b2, b3, f1, f2, f3, hsz⟩ := blk3 hg
    have hww : Below w.heap.size w wr := hb0.trans (hw.mono (by omega))
    have hc1 := old_cell (hw.mono (by simp))
    have hf1 := old_frozen (hw.mono (by simp))
    by_cases hlt : k < L.length
    · have HO := Lib.hid hown
      have HG := Lib.hid hg
      clear hown hg
      go_wp2_with fail
      refine (lost_any W H _ L k _ (hv.below hww) w2 w80 h24 HLEN.out hlt).mono ?_
      rintro e w2 ⟨rfl, hb3⟩
      have hg2 := (hb3.block _ hsz).trans HG.out
      have hn2 := ownsRow_below HO.out hb3
      have hw2 := hw.trans (hb3.mono (by have := hw.size; simp at this; omega))
      have hz3 := hb3.size
      by_cases hlo : lost W L k
      · have HS := Lib.hid (ownsRow_set2 hn2 (k * 2) (.int .i32 32) (.int .i64 0))
        obtain ⟨x, y, hxy, c1, c2, e1, e2⟩ := own_cells hn2 k hlt
        obtain ⟨b1', b2', b3', f1', f2', f3', hsz'⟩ := blk3 hg2
        have HM := Lib.hid (mendK_yes hlt hlo)
        rw [decide_eq_true hlo]
        have H1 := Lib.hid hg2
        have H2 := Lib.hid hw2
        have H3 := Lib.hid hn2
        clear hg2 hw2 hn2 hxy hlo b1 b2 b3 f1 f2 f3 hw hc1 hf1 hrow0 hb2
        go_wp2
        go_roundw
        case rel =>
          obtain ⟨o1, g1⟩ := HS.out
          refine ⟨k + 1, by omega, by go_num, ?_, (g1.block _ hsz' (by simp; omega)).trans H1.out, below_own H2.out g1 H3.out (Nat.le_refl _) (by have := H2.out.size; simp at this; omega)⟩
          rw [HM.out, show bl = (32, 0) from rfl, flat_set]
          exact o1
        case measure => simp [intOf]; omega
      · have HM := Lib.hid (mendK_no hlo)
        rw [decide_eq_false hlo]
        have H1 := Lib.hid hg2
        have H2 := Lib.hid hw2
        have H3 := Lib.hid hn2
        clear hg2 hw2 hn2 hlo b1 b2 b3 f1 f2 f3 hw hc1 hf1 hrow0 hb2
        go_wp2
        go_roundw
        case rel => exact ⟨k + 1, by omega, by go_num, by rw [HM.out]; exact H3.out, H1.out, H2.out⟩
        case measure => simp [intOf]; omega
    · obtain rfl : k = L.length := by omega
      rw [mendK_all] at hown
      have HO := Lib.hid hown
      clear hown hg hrow0 hb2
      go_wp2
      refine bodyPost_ret (v := .agg #[.int .i64 W, .int .i64 H, .slice (some ⟨g, 0, none⟩) L.length cap']) (by simp [results, Tryd.results33, go_sem, hc1]) rfl ⟨⟨_, rfl, ?_⟩, ?_⟩
      · exact ((((Own.sh (mend_len ..) hcap HO.out).set1 _ _ _ (by simp)).set1 _ _ _ (by simp)).set1 _ _ _ (by simp)).mono (by omega)
      · exact (((hww.setCell (by simp) _).setCell (by simp) _).setCell (by simp) _)
end Go.Proofs.YtkkioajmfkcloaaDoor
