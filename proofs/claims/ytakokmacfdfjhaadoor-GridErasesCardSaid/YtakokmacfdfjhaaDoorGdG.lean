/- The contracts of both New of a grid. -/
import Derived.Test.YtakokmacfdfjhaaDoorGdF
set_option linter.unusedVariables false
namespace Go.Proofs.YtakokmacfdfjhaaDoor
open Go.RowKit Gl L Wd Gd
namespace Gd
/-- A grid and an error are told: a new grid of these sides and cells, or none. -/
def newL (gw gh : Int) : List (Int × Int) := List.replicate (gw.toNat * gh.toNat) bl
end Gd
theorem Own.op {B : Nat} {w : World} {v : Value} {l : List (Int × Int)} (h : Own B w v l) {n : Nat} (hn : l.length = n) : ∃ g cap, v = .slice (some ⟨g, 0, none⟩) n cap ∧ n ≤ cap ∧ w.ownsRow B 30 2 (.slice (some ⟨g, 0, none⟩) n cap) n (flat l) := by
  subst hn; exact h
theorem Own.sh {B : Nat} {w : World} {l : List (Int × Int)} {g n cap : Nat} (hn : l.length = n) (hc : n ≤ cap) (h : w.ownsRow B 30 2 (.slice (some ⟨g, 0, none⟩) n cap) n (flat l)) : Own B w (.slice (some ⟨g, 0, none⟩) n cap) l := by
  subst hn; exact ⟨g, cap, rfl, hc, h⟩
theorem Own.set1 {B : Nat} {w : World} {v : Value} {l : List (Int × Int)} (h : Own B w v l) (b o : Nat) (u : Value) (hb : b < B) : Own B (w.setCell ⟨b, o, none⟩ u) v l := by
  obtain ⟨g, cap, rfl, hc, h⟩ := h
  refine ⟨g, cap, rfl, hc, h.kept (row := some b) ⟨rfl, rfl, rfl, by simp, fun k _ hk => heap_setCell_other w ⟨b, o, none⟩ k u (fun e => hk (by simp [e]))⟩ (.inr ?_)⟩
  have := (h.lt g rfl).1
  simp [Value.ownBlock]
  omega
/-- A grid that was made is told with no error. -/
def GridOK (B : Nat) (w' : World) (e : Ending) (gw gh : Int) (l : List (Int × Int)) : Prop := ∃ v, e = .returned (.tuple #[.agg #[.int .i64 gw, .int .i64 gh, v], .int .i64 0]) ∧ Own B w' v l
/-- No grid is told, with an error. -/
def GridNo (e : Ending) (err : Int) : Prop := e = .returned (.tuple #[.agg #[.int .i64 0, .int .i64 0, .slice none 0 0], .int .i64 err])
/-- A grid is told, if c; else none, with an error. -/
def Out (c : Bool) (err : Int) (B : Nat) (w' : World) (e : Ending) (gw gh : Int) (l : List (Int × Int)) : Prop := if c then GridOK B w' e gw gh l else GridNo e err
theorem Out.yes {c : Bool} {err : Int} {B : Nat} {w' : World} {e : Ending} {gw gh : Int} {l : List (Int × Int)} (hc : c = true) (h : GridOK B w' e gw gh l) : Out c err B w' e gw gh l := by subst hc; exact h
theorem Out.no {c : Bool} {err : Int} {B : Nat} {w' : World} {e : Ending} {gw gh : Int} {l : List (Int × Int)} (hc : c = false) (h : GridNo e err) : Out c err B w' e gw gh l := by subst hc; exact h
theorem Out.is {c : Bool} {err : Int} {B : Nat} {w' : World} {e : Ending} {gw gh : Int} {l : List (Int × Int)} (h : Out c err B w' e gw gh l) (hc : c = true) : GridOK B w' e gw gh l := by subst hc; exact h
theorem Out.isnt {c : Bool} {err : Int} {B : Nat} {w' : World} {e : Ending} {gw gh : Int} {l : List (Int × Int)} (h : Out c err B w' e gw gh l) (hc : c = false) : GridNo e err := by subst hc; exact h
set_option maxHeartbeats 2000000 in
theorem new_any (gw gh : Int) (w : World) (T : Blk w 0) :
    Calls Tryd.prog 11 #[.int .i64 gw, .int .i64 gh] w fun e w' => Out (sidesB gw gh) 4 w.heap.size w' e gw gh (newL gw gh) ∧ Below w.heap.size w w' := by
  have hb0 : Below w.heap.size w (w.alloc (.cells #[.int .i64 0, .int .i64 0, .slice none 0 0] 24)) := (Below.refl _ _).alloc (Nat.le_refl _) _
  cases hs : sidesB gw gh
  · have HS := Lib.hid hs
    clear hs
    go_enter Tryd.func11, Tryd.ntmps11
    go_wp2_with fail
    refine (sides_any _ _ _).mono ?_
    rintro e w1 ⟨rfl, rfl⟩
    rw [HS.out]
    go_wp2
    refine bodyPost_ret (v := .tuple #[.agg #[.int .i64 0, .int .i64 0, .slice none 0 0], .int .i64 4]) (by simp [results, Tryd.results11, go_sem]) rfl ⟨?_, ?_⟩
    · exact Out.no rfl rfl
    · exact hb0
  · obtain ⟨W, H, rfl, rfl, g2, g80, g1, g24⟩ := sides_of hs
    have HS := Lib.hid hs
    clear hs
    have hWH : W * H ≤ 1920 := Nat.mul_le_mul g80 g24
    have HB := Lib.hid (show ∀ wz, Blk wz 0 → Calls Tryd.prog 30 #[.int .i64 ((W : Int) * (H : Int))] wz fun e w' => ∃ v, e = .returned v ∧ Own wz.heap.size w' v (List.replicate (W * H) bl) ∧ Below wz.heap.size wz w' from fun wz T => by rw [← Int.natCast_mul]; exact blanks_any (W * H) (by omega) wz T)
    go_enter Tryd.func11, Tryd.ntmps11
    go_wp2_with fail
    refine (sides_any _ _ _).mono ?_
    rintro e w1 ⟨rfl, rfl⟩
    rw [HS.out]
    go_wp2_with fail
    refine (HB.out _ (T.below hb0)).mono ?_
    rintro e w1 ⟨v, rfl, hown, hb1⟩
    obtain ⟨g, cap, rfl, hcap, hrow⟩ := hown.op (List.length_replicate ..)
    have HO := Lib.hid (Own.sh (List.length_replicate ..) hcap hrow)
    clear hown hrow
    have hc1 := old_cell hb1
    have hf1 := old_frozen hb1
    have hz1 := hb1.size
    go_wp2
    refine bodyPost_ret (v := .tuple #[.agg #[.int .i64 W, .int .i64 H, .slice (some ⟨g, 0, none⟩) (W * H) cap], .int .i64 0]) (by simp [results, Tryd.results11, go_sem, hc1]) rfl ⟨?_, ?_⟩
    · refine Out.yes rfl ⟨_, rfl, ?_⟩
      have := HO.out
      unfold newL
      rw [Int.toNat_natCast, Int.toNat_natCast]
      exact ((((this.set1 _ _ _ (by simp)).set1 _ _ _ (by simp)).set1 _ _ _ (by simp))).mono (by simp)
    · exact ((((hb0.trans (hb1.mono hb0.size)).setCell (by simp) _).setCell (by simp) _).setCell (by simp) _)
end Go.Proofs.YtakokmacfdfjhaaDoor
