/- Contracts of vt, told. -/
import Derived.Test.YtkkioajmfkcloaaDoorMVc
import Derived.Test.YtkkioajmfkcloaaDoorMVr
import Derived.Deep.RegionHeld3
/- The contract of vt's told: any command. Condition: the table of the kinds with one form as the program lays it. -/
set_option linter.unusedVariables false
namespace Go.Proofs.YtkkioajmfkcloaaDoor
open Go.RowKit Gl L Vt
theorem oneForm_any (k a b r : Int) (hk : ¬ (1 ≤ k ∧ k ≤ 6)) (w : World) (F : Forms w 1) : Calls Tryd.prog 49 #[.agg #[.int .i64 k, .int .i64 a, .int .i64 b, .int .i32 r]] w fun e w' => e = .returned (.tuple #[.agg #[.string (bts k a b r), .int .i64 (pads k a b r)], .bool (isC k a b r)]) ∧ Below w.heap.size w w' := by
  cases hc : isC k a b r
  · have := oneForm_no k a b r hk hc w F
    rw [hc] at this
    exact this
  · have := oneForm_yes k a b r hk hc w F
    rw [hc] at this
    exact this
theorem pads_low {k a b r : Int} (h : k ≤ 6) : pads k a b r = 0 := by
  unfold pads
  rw [if_neg (show k ≠ 7 by omega), if_neg (show k ≠ 8 by omega)]
  split <;> rfl
namespace Vt
/-- The value that told tells. -/
def tld (k a b r : Int) : Value := .tuple #[.agg #[.string (bts k a b r), .int .i64 (pads k a b r)], .bool (isC k a b r)]
theorem bl3 {w w1 : World} {x y : Obj} (hw : Below ((w.alloc x).alloc y).heap.size ((w.alloc x).alloc y) w1) (u v : Value) : Below w.heap.size w ((w1.setCell ⟨w.heap.size + 1, 0, none⟩ u).setCell ⟨w.heap.size + 1, 1, none⟩ v) :=
  (((((Below.refl _ _).alloc (Nat.le_refl _) _).alloc (by simp) _).trans (hw.mono (by simp; omega))).setCell (by simp) _).setCell (by simp) _
end Vt
set_option maxHeartbeats 2000000 in
theorem told_any (k a b r : Int) (w : World) (F : Forms w 1) : Calls Tryd.prog 35 #[.agg #[.int .i64 k, .int .i64 a, .int .i64 b, .int .i32 r]] w fun e w' => e = .returned (tld k a b r) ∧ Below w.heap.size w w' := by
  by_cases h1 : k = 1
  · subst h1
    have hP := Lib.hid (pads_low (k := 1) (a := a) (b := b) (r := r) (by omega))
    go_enter Tryd.func35, Tryd.ntmps35
    go_wp2_with fail
    refine (text_any _ _ _ _ _).mono ?_
    rintro e w1 ⟨rfl, hw1⟩
    have hc1 := old_cell hw1
    have hf1 := old_frozen hw1
    have hz1 := hw1.size
    go_wp2
    exact bodyPost_ret (v := .tuple #[.agg #[.string (bts 1 a b r), .int .i64 0], .bool (isC 1 a b r)]) (by simp [results, Tryd.results35, go_sem, hc1]) rfl ⟨by unfold tld; rw [hP.out], bl3 hw1 _ _⟩
  by_cases h2 : k = 2
  · subst h2
    have hP := Lib.hid (pads_low (k := 2) (a := a) (b := b) (r := r) (by omega))
    go_enter Tryd.func35, Tryd.ntmps35
    go_wp2_with fail
    refine (place_any _ _ _ _ _).mono ?_
    rintro e w1 ⟨rfl, hw1⟩
    have hc1 := old_cell hw1
    have hf1 := old_frozen hw1
    have hz1 := hw1.size
    go_wp2
    exact bodyPost_ret (v := .tuple #[.agg #[.string (bts 2 a b r), .int .i64 0], .bool (isC 2 a b r)]) (by simp [results, Tryd.results35, go_sem, hc1]) rfl ⟨by unfold tld; rw [hP.out], bl3 hw1 _ _⟩
  by_cases h3 : 3 ≤ k ∧ k ≤ 6
  · have hP := pads_low (a := a) (b := b) (r := r) (show k ≤ 6 by omega)
    have hM := move_any k a b r h3
    rcases (show k = 3 ∨ k = 4 ∨ k = 5 ∨ k = 6 by omega) with rfl | rfl | rfl | rfl
    all_goals
      have HP := Lib.hid hP
      have HM := Lib.hid hM
      clear hP hM h1 h2 h3
      go_enter Tryd.func35, Tryd.ntmps35
      go_wp2_with fail
      refine (HM.out _).mono ?_
      rintro e w1 ⟨rfl, hw1⟩
      have hc1 := old_cell hw1
      have hf1 := old_frozen hw1
      have hz1 := hw1.size
      go_wp2
    · exact bodyPost_ret (v := .tuple #[.agg #[.string (bts 3 a b r), .int .i64 0], .bool (isC 3 a b r)]) (by simp [results, Tryd.results35, go_sem, hc1]) rfl ⟨by unfold tld; rw [HP.out], bl3 hw1 _ _⟩
    · exact bodyPost_ret (v := .tuple #[.agg #[.string (bts 4 a b r), .int .i64 0], .bool (isC 4 a b r)]) (by simp [results, Tryd.results35, go_sem, hc1]) rfl ⟨by unfold tld; rw [HP.out], bl3 hw1 _ _⟩
    · exact bodyPost_ret (v := .tuple #[.agg #[.string (bts 5 a b r), .int .i64 0], .bool (isC 5 a b r)]) (by simp [results, Tryd.results35, go_sem, hc1]) rfl ⟨by unfold tld; rw [HP.out], bl3 hw1 _ _⟩
    · exact bodyPost_ret (v := .tuple #[.agg #[.string (bts 6 a b r), .int .i64 0], .bool (isC 6 a b r)]) (by simp [results, Tryd.results35, go_sem, hc1]) rfl ⟨by unfold tld; rw [HP.out], bl3 hw1 _ _⟩
  · have HO := Lib.hid (fun wz (h : Forms wz 1) => oneForm_any k a b r (by omega) wz h)
    have b1 : (k == 1) = false := by simpa using h1
    have b2 : (k == 2) = false := by simpa using h2
    have b3 : (k == 3) = false := by simp; omega
    have b4 : (k == 4) = false := by simp; omega
    have b5 : (k == 5) = false := by simp; omega
    have b6 : (k == 6) = false := by simp; omega
    have HF := Lib.hid (fun (x y : Obj) => (F.below ((Below.refl _ _).alloc (Nat.le_refl _) x)).below ((Below.refl _ _).alloc (Nat.le_refl _) y))
    clear h1 h2 h3
    go_enter Tryd.func35, Tryd.ntmps35
    go_wp2_with fail
    refine (HO.out _ (HF.out _ _)).mono ?_
    rintro e w1 ⟨rfl, hw1⟩
    have hc1 := old_cell hw1
    have hf1 := old_frozen hw1
    have hz1 := hw1.size
    go_wp2
    exact bodyPost_ret (v := .tuple #[.agg #[.string (bts k a b r), .int .i64 (pads k a b r)], .bool (isC k a b r)]) (by simp [results, Tryd.results35, go_sem, hc1]) rfl ⟨rfl, bl3 hw1 _ _⟩
end Go.Proofs.YtkkioajmfkcloaaDoor
/- The contract of the reference's Put of commands: any command. -/
set_option linter.unusedVariables false
namespace Go.Proofs.YtkkioajmfkcloaaDoor
open Go.RowKit Gl L Vt
theorem held12 {w w1 w2 : World} {n : Nat} {x y : Value} (hb : Below w1.heap.size w1 w2) (h : w1.cell? ⟨n, 1, none⟩ = some x ∧ w1.cell? ⟨n, 2, none⟩ = some y ∧ Below w.heap.size w w1) :
    w2.cell? ⟨n, 1, none⟩ = some x ∧ w2.cell? ⟨n, 2, none⟩ = some y ∧ Below w.heap.size w w2 := by
  obtain ⟨h0, h1, hw⟩ := h
  exact ⟨by rw [old_cell hb _ _ (World.block_lt_of_cell? w1 _ h0)]; exact h0, by rw [old_cell hb _ _ (World.block_lt_of_cell? w1 _ h1)]; exact h1, hw.trans (hb.mono hw.size)⟩
namespace Vt
def pv (k a b r : Int) : Value := .tuple #[.string (bts k a b r), .int .i64 (err k a b r)]
theorem bl1 {w w1 : World} {x : Obj} (hw : Below (w.alloc x).heap.size (w.alloc x) w1) : Below w.heap.size w w1 := ((Below.refl _ _).alloc (Nat.le_refl _) _).trans (hw.mono (by simp))
theorem pv_no {k a b r : Int} (h : isC k a b r = false) : pv k a b r = .tuple #[.string ⟨#[]⟩, .int .i64 1] := by unfold pv err; rw [bts_no h, h]; rfl
theorem pv_yes {k a b r : Int} (h : isC k a b r = true) : pv k a b r = .tuple #[.string (bts k a b r), .int .i64 0] := by unfold pv err; rw [h]; rfl
end Vt
end Go.Proofs.YtkkioajmfkcloaaDoor
/- The contracts of vt's Put: any command. Condition: the table of the kinds with one form as the program lays it. -/
set_option linter.unusedVariables false
namespace Go.Proofs.YtkkioajmfkcloaaDoor
open Go.RowKit Gl L Vt
end Go.Proofs.YtkkioajmfkcloaaDoor
/- The contract of vt's Is: any command. Condition: the table of the kinds with one form as the program lays it. -/
set_option linter.unusedVariables false
namespace Go.Proofs.YtkkioajmfkcloaaDoor
open Go.RowKit Gl L Vt
theorem vis_any (k a b r : Int) (w : World) (F : Forms w 1) : Calls Tryd.prog 22 #[.agg #[.int .i64 k, .int .i64 a, .int .i64 b, .int .i32 r]] w fun e w' => e = .returned (.bool (isC k a b r)) ∧ Below w.heap.size w w' := by
  have HF := Lib.hid (fun (x : Obj) => F.below ((Below.refl _ _).alloc (Nat.le_refl _) x))
  have hT := Lib.hid (fun wz hf => told_any k a b r wz hf)
  go_enter Tryd.func22, Tryd.ntmps22
  go_wp2_with fail
  refine (hT.out _ (HF.out _)).mono ?_
  rintro e w1 ⟨rfl, hw1⟩
  unfold tld
  have hc1 := old_cell hw1
  have hwb := bl1 hw1
  go_wp2
  go_ret
  exact ⟨rfl, hwb.alloc hwb.size _⟩
end Go.Proofs.YtkkioajmfkcloaaDoor
