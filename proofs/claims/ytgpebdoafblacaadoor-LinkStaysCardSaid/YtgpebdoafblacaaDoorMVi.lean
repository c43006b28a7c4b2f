/- Contracts of vt, told. -/
import Derived.Test.YtgpebdoafblacaaDoorMVc
import Derived.Test.YtgpebdoafblacaaDoorMVr
import Derived.Deep.RegionHeld3
/- The contract of vt's told: any command. Condition: the table of the kinds with one form as the program lays it. -/
set_option linter.unusedVariables false
namespace Go.Proofs.YtgpebdoafblacaaDoor
open Go.RowKit Gl L Vt
theorem oneForm_any (k a b r : Int) (hk : ¬ (1 ≤ k ∧ k ≤ 6)) (w : World) (F : Forms w 0) : Calls Tryd.prog 50 #[.agg #[.int .i64 k, .int .i64 a, .int .i64 b, .int .i32 r]] w fun e w' => e = .returned (.tuple #[.agg #[.string (bts k a b r), .int .i64 (pads k a b r)], .bool (isC k a b r)]) ∧ Below w.heap.size w w' := by
  cases hc : isC k a b r
  · have := oneForm_no k a b r hk hc w F
    rw [hc] at this
    exact this
  · have := oneForm_yes k a b r hk hc w F
    rw [hc] at this
    exact this
theorem pads_low {k a b r : Int} (h : k ≤ 6) : pads k a b r = 0 := by
  unfold pads
  rw [if_neg (show k ≠ 7 by omega), if_neg (show k ≠ 8 by omega)]
  split <;> rfl
namespace Vt
/-- The value that told tells. -/
def tld (k a b r : Int) : Value := .tuple #[.agg #[.string (bts k a b r), .int .i64 (pads k a b r)], .bool (isC k a b r)]
theorem bl3 {w w1 : World} {x y : Obj} (hw : Below ((w.alloc x).alloc y).heap.size ((w.alloc x).alloc y) w1) (u v : Value) : Below w.heap.size w ((w1.setCell ⟨w.heap.size + 1, 0, none⟩ u).setCell ⟨w.heap.size + 1, 1, none⟩ v) :=
  (((((Below.refl _ _).alloc (Nat.le_refl _) _).alloc (by simp) _).trans (hw.mono (by simp; omega))).setCell (by simp) _).setCell (by simp) _
end Vt
set_option maxHeartbeats 2000000 in
theorem told_any (k a b r : Int) (w : World) (F : Forms w 0) : Calls Tryd.prog 42 #[.agg #[.int .i64 k, .int .i64 a, .int .i64 b, .int .i32 r]] w fun e w' => e = .returned (tld k a b r) ∧ Below w.heap.size w w' := by
  by_cases h1 : k = 1
  · subst h1
    have hP := Lib.hid (pads_low (k := 1) (a := a) (b := b) (r := r) (by omega))
    go_enter Tryd.func42, Tryd.ntmps42
    go_wp2_with fail
    refine (text_any _ _ _ _ _).mono ?_
    rintro e w1 ⟨rfl, hw1⟩
    have hc1 := old_cell hw1
    have hf1 := old_frozen hw1
    have hz1 := hw1.size
    go_wp2
    exact bodyPost_ret (v := .tuple #[.agg #[.string (bts 1 a b r), .int .i64 0], .bool (isC 1 a b r)]) (by simp [results, Tryd.results42, go_sem, hc1]) rfl ⟨by unfold tld; rw [hP.out], bl3 hw1 _ _⟩
  by_cases h2 : k = 2
  · subst h2
    have hP := Lib.hid (pads_low (k := 2) (a := a) (b := b) (r := r) (by omega))
    go_enter Tryd.func42, Tryd.ntmps42
    go_wp2_with fail
    refine (place_any _ _ _ _ _).mono ?_
    rintro e w1 ⟨rfl, hw1⟩
    have hc1 := old_cell hw1
    have hf1 := old_frozen hw1
    have hz1 := hw1.size
    go_wp2
    exact bodyPost_ret (v := .tuple #[.agg #[.string (bts 2 a b r), .int .i64 0], .bool (isC 2 a b r)]) (by simp [results, Tryd.results42, go_sem, hc1]) rfl ⟨by unfold tld; rw [hP.out], bl3 hw1 _ _⟩
  by_cases h3 : 3 ≤ k ∧ k ≤ 6
  · have hP := pads_low (a := a) (b := b) (r := r) (show k ≤ 6 by omega)
    have hM := move_any k a b r h3
    rcases (show k = 3 ∨ k = 4 ∨ k = 5 ∨ k = 6 by omega) with rfl | rfl | rfl | rfl
    all_goals
      have HP := Lib.hid hP
      have HM := Lib.hid hM
      clear hP hM h1 h2 h3
      go_enter Tryd.func42, Tryd.ntmps42
      go_wp2_with fail
      refine (HM.out _).mono ?_
      rintro e w1 ⟨rfl, hw1⟩
      have hc1 := old_cell hw1
      have hf1 := old_frozen hw1
      have hz1 := hw1.size
      go_wp2
    · exact bodyPost_ret (v := .tuple #[.agg #[.string (bts 3 a b r), .int .i64 0], .bool (isC 3 a b r)]) (by simp [results, Tryd.results42, go_sem, hc1]) rfl ⟨by unfold tld; rw [HP.out], bl3 hw1 _ _⟩
    · exact bodyPost_ret (v := .tuple #[.agg #[.string (bts 4 a b r), .int .i64 0], .bool (isC 4 a b r)]) (by simp [results, Tryd.results42, go_sem, hc1]) rfl ⟨by unfold tld; rw [HP.out], bl3 hw1 _ _⟩
    · exact bodyPost_ret (v := .tuple #[.agg #[.string (bts 5 a b r), .int .i64 0], .bool (isC 5 a b r)]) (by simp [results, Tryd.results42, go_sem, hc1]) rfl ⟨by unfold tld; rw [HP.out], bl3 hw1 _ _⟩
    · exact bodyPost_ret (v := .tuple #[.agg #[.string (bts 6 a b r), .int .i64 0], .bool (isC 6 a b r)]) (by simp [results, Tryd.results42, go_sem, hc1]) rfl ⟨by unfold tld; rw [HP.out], bl3 hw1 _ _⟩
  · have HO := Lib.hid (fun wz (h : Forms wz 0) => oneForm_any k a b r (by omega) wz h)
    have b1 : (k == 1) = false := by simpa using h1
    have b2 : (k == 2) = false := by simpa using h2
    have b3 : (k == 3) = false := by simp; omega
    have b4 : (k == 4) = false := by simp; omega
    have b5 : (k == 5) = false := by simp; omega
    have b6 : (k == 6) = false := by simp; omega
    have HF := Lib.hid (fun (x y : Obj) => (F.below ((Below.refl _ _).alloc (Nat.le_refl _) x)).below ((Below.refl _ _).alloc (Nat.le_refl _) y))
    clear h1 h2 h3
    go_enter Tryd.func42, Tryd.ntmps42
    go_wp2_with fail
    refine (HO.out _ (HF.out _ _)).mono ?_
    rintro e w1 ⟨rfl, hw1⟩
    have hc1 := old_cell hw1
    have hf1 := old_frozen hw1
    have hz1 := hw1.size
    go_wp2
    exact bodyPost_ret (v := .tuple #[.agg #[.string (bts k a b r), .int .i64 (pads k a b r)], .bool (isC k a b r)]) (by simp [results, Tryd.results42, go_sem, hc1]) rfl ⟨rfl, bl3 hw1 _ _⟩
end Go.Proofs.YtgpebdoafblacaaDoor
/- The contract of the reference's Put of commands: any command. -/
set_option linter.unusedVariables false
namespace Go.Proofs.YtgpebdoafblacaaDoor
open Go.RowKit Gl L Vt
theorem held12 {w w1 w2 : World} {n : Nat} {x y : Value} (hb : Below w1.heap.size w1 w2) (h : w1.cell? ⟨n, 1, none⟩ = some x ∧ w1.cell? ⟨n, 2, none⟩ = some y ∧ Below w.heap.size w w1) :
    w2.cell? ⟨n, 1, none⟩ = some x ∧ w2.cell? ⟨n, 2, none⟩ = some y ∧ Below w.heap.size w w2 := by
  obtain ⟨h0, h1, hw⟩ := h
  exact ⟨by rw [old_cell hb _ _ (World.block_lt_of_cell? w1 _ h0)]; exact h0, by rw [old_cell hb _ _ (World.block_lt_of_cell? w1 _ h1)]; exact h1, hw.trans (hb.mono hw.size)⟩
set_option maxHeartbeats 8000000 in
theorem rput5_go (a b : Int) (hc : isC 2 a b 0 = true) (w : World) : Calls Tryd.prog 41 #[.agg #[.int .i64 2, .int .i64 a, .int .i64 b, .int .i32 0]] w fun e w' => e = .returned (.tuple #[.string (bts 2 a b 0), .int .i64 0]) ∧ Below w.heap.size w w' := by
  have hN := Lib.hid hc
  have hE := Lib.hid ((bts_form hc (by decide)).trans (go_bytes a b).symm)
  obtain ⟨h0, h1, h2, h3, _⟩ : 0 ≤ a ∧ a ≤ 23 ∧ 0 ≤ b ∧ b ≤ 79 ∧ (0 : Int) = 0 := by
    unfold isC at hc; rw [if_neg (by omega), if_pos rfl] at hc; exact of_decide_eq_true hc
  have c0 := Lib.hid (fun wz => ris5_any 2 a b 0 wz)
  have s1 : (dS (a + 1)).size ≤ 2 := by unfold dS; rw [strOfNums_size]; exact (dg_len _).2
  have s2 : (dS (b + 1)).size ≤ 2 := by unfold dS; rw [strOfNums_size]; exact (dg_len _).2
  have c1 := Lib.hid (fun x h0 h1 wz => rdigits_any x h0 h1 wz)
  clear hc
  generalize dS = D at *
  go_enter Tryd.func41, Tryd.ntmps41
  go_wp2_with fail
  refine (c0.out _).mono ?_
  rintro e w1 ⟨rfl, hw1⟩
  rw [hN.out]
  have hc1 := old_cell hw1
  have hf1 := old_frozen hw1
  have hz1 := hw1.size
  have hwb : Below w.heap.size w w1 := ((Below.refl _ _).alloc (Nat.le_refl _) _).trans (hw1.mono (by simp))
  go_wp2
  have hx1 : w1.cell? ⟨w.heap.size, 1, none⟩ = some (.int .i64 a) := by rw [hc1 _ _ (by simp)]; simp
  have hx2 : w1.cell? ⟨w.heap.size, 2, none⟩ = some (.int .i64 b) := by rw [hc1 _ _ (by simp)]; simp
  clear hc1 hf1 hz1 hw1
  have q1 := IntWalk.i64_in (a + 1) (by omega)
  have q2 := IntWalk.i64_in (b + 1) (by omega)
  have t1 : ¬ 9223372036854775807 < 2 + (D (a + 1)).size := by omega
  have t2 : ¬ 9223372036854775807 < 2 + (D (a + 1)).size + 1 := by omega
  have t3 : ¬ 9223372036854775807 < 2 + (D (a + 1)).size + 1 + (D (b + 1)).size := by omega
  have t4 : ¬ 9223372036854775807 < 2 + (D (a + 1)).size + 1 + (D (b + 1)).size + 1 := by omega
  clear s1 s2
  go_region_held3 (fun w' => w'.cell? ⟨w.heap.size, 1, none⟩ = some (.int .i64 a) ∧ w'.cell? ⟨w.heap.size, 2, none⟩ = some (.int .i64 b) ∧ Below w.heap.size w w') (first | exact held12 (by assumption) (by assumption) | (go_keep; done) | exact ⟨by simpa using hx1, by simpa using hx2, hwb.drew⟩)
    (first | (go_at_call 46; refine (c1.out _ (by omega) (by omega) _).mono ?_; rintro e w' ⟨rfl, hb⟩))
  all_goals go_wp2
  all_goals go_ret2
  all_goals exact ⟨by rw [hE.out]; rfl, And.right (And.right (by assumption))⟩
namespace Vt
def pv (k a b r : Int) : Value := .tuple #[.string (bts k a b r), .int .i64 (err k a b r)]
theorem bl1 {w w1 : World} {x : Obj} (hw : Below (w.alloc x).heap.size (w.alloc x) w1) : Below w.heap.size w w1 := ((Below.refl _ _).alloc (Nat.le_refl _) _).trans (hw.mono (by simp))
theorem pv_no {k a b r : Int} (h : isC k a b r = false) : pv k a b r = .tuple #[.string ⟨#[]⟩, .int .i64 1] := by unfold pv err; rw [bts_no h, h]; rfl
theorem pv_yes {k a b r : Int} (h : isC k a b r = true) : pv k a b r = .tuple #[.string (bts k a b r), .int .i64 0] := by unfold pv err; rw [h]; rfl
end Vt
theorem rput5_no (k a b r : Int) (h : isC k a b r = false) (w : World) : Calls Tryd.prog 41 #[.agg #[.int .i64 k, .int .i64 a, .int .i64 b, .int .i32 r]] w fun e w' => e = .returned (pv k a b r) ∧ Below w.heap.size w w' := by
  have hN := Lib.hid h
  have hP := Lib.hid (pv_no h)
  have c0 := Lib.hid (fun wz => ris5_any k a b r wz)
  clear h
  go_enter Tryd.func41, Tryd.ntmps41
  go_wp2_with fail
  refine (c0.out _).mono ?_
  rintro e w1 ⟨rfl, hw1⟩
  rw [hN.out]
  go_wp2
  go_ret2
  exact ⟨by rw [hP.out]; rfl, bl1 hw1⟩
theorem rput5_text (a b r : Int) (h : isC 1 a b r = true) (w : World) : Calls Tryd.prog 41 #[.agg #[.int .i64 1, .int .i64 a, .int .i64 b, .int .i32 r]] w fun e w' => e = .returned (pv 1 a b r) ∧ Below w.heap.size w w' := by
  have hN := Lib.hid h
  have hP := Lib.hid ((pv_yes h).trans (by rw [bts_text h]))
  have hs : Wd.shw r = true := by
    rcases (isC_iff 1 a b r).1 h with h | h | h | h
    · exact h.2.1
    all_goals omega
  have hE := Lib.hid (show putE r = 0 by unfold putE; rw [(shw_vld hs).1]; rfl)
  have c0 := Lib.hid (fun wz => ris5_any 1 a b r wz)
  clear h hs
  go_enter Tryd.func41, Tryd.ntmps41
  go_wp2_with fail
  refine (c0.out _).mono ?_
  rintro e w1 ⟨rfl, hw1⟩
  rw [hN.out]
  have hc1 := old_cell hw1
  have hwb := bl1 hw1
  go_wp2_with fail
  refine (rput_any _ _).mono ?_
  rintro e w2 ⟨rfl, hw2⟩
  go_wp2
  go_ret2
  exact ⟨by rw [hP.out, hE.out]; rfl, hwb.trans (hw2.mono hwb.size)⟩
set_option maxHeartbeats 2000000 in
theorem rput5_move (k a : Int) (hk : 3 ≤ k ∧ k ≤ 6) (h : isC k a 0 0 = true) (w : World) : Calls Tryd.prog 41 #[.agg #[.int .i64 k, .int .i64 a, .int .i64 0, .int .i32 0]] w fun e w' => e = .returned (pv k a 0 0) ∧ Below w.heap.size w w' := by
  obtain ⟨h0, h1, _, _⟩ : 1 ≤ a ∧ a ≤ 80 ∧ (0 : Int) = 0 ∧ (0 : Int) = 0 := by
    unfold isC at h; rw [if_neg (by omega), if_neg (by omega), if_pos (by omega)] at h; exact of_decide_eq_true h
  have hE := bts_form h (by omega)
  have hP := pv_yes h
  have c0 := fun wz => ris5_any k a 0 0 wz
  have s1 : (dS a).size ≤ 2 := by unfold dS; rw [strOfNums_size]; exact (dg_len _).2
  rw [h] at c0
  by_cases g : 1 < a
  · have hM := hP.trans (by rw [hE.trans (move_bytes k a (by omega) (dS a) (by rw [if_pos g]) 0).symm])
    have c1 := Lib.hid (fun wz => rdigits_any a (by omega) (by omega) wz)
    clear h hE hP
    rcases (show k = 3 ∨ k = 4 ∨ k = 5 ∨ k = 6 by omega) with rfl | rfl | rfl | rfl
    all_goals
      have HM := Lib.hid hM
      have C0 := Lib.hid c0
      clear hM hk c0
      go_enter Tryd.func41, Tryd.ntmps41
      go_wp2_with fail
      refine (C0.out _).mono ?_
      rintro e w1 ⟨rfl, hw1⟩
      have hc1 := old_cell hw1
      have hwb := bl1 hw1
      have hz1 := hwb.size
      have hq1 : w.heap.size < w1.heap.size := by have := hw1.size; simp at this; omega
      go_wp2_with fail
      refine (c1.out _).mono ?_
      rintro e w2 ⟨rfl, hw2⟩
      have hc2 := old_cell hw2
      go_wp2
      go_ret2
      exact ⟨by rw [HM.out]; rfl, hwb.trans (hw2.mono hwb.size)⟩
  · have hM := hP.trans (by rw [hE.trans (move_bytes k a (by omega) ⟨#[]⟩ (by rw [if_neg g]) 0).symm])
    clear h hE hP
    rcases (show k = 3 ∨ k = 4 ∨ k = 5 ∨ k = 6 by omega) with rfl | rfl | rfl | rfl
    all_goals
      have HM := Lib.hid hM
      have C0 := Lib.hid c0
      clear hM hk c0
      go_enter Tryd.func41, Tryd.ntmps41
      go_wp2_with fail
      refine (C0.out _).mono ?_
      rintro e w1 ⟨rfl, hw1⟩
      have hc1 := old_cell hw1
      go_wp2
      go_ret2
      exact ⟨by rw [HM.out]; rfl, bl1 hw1⟩
theorem rput5_one (k : Int) (hk : 7 ≤ k ∧ k ≤ 12) (h : isC k 0 0 0 = true) (w : World) : Calls Tryd.prog 41 #[.agg #[.int .i64 k, .int .i64 0, .int .i64 0, .int .i32 0]] w fun e w' => e = .returned (pv k 0 0 0) ∧ Below w.heap.size w w' := by
  have hP := (pv_yes h).trans (by rw [bts_form h (by omega)])
  have c0 := fun wz => ris5_any k 0 0 0 wz
  rw [h] at c0
  clear h
  rcases (show k = 7 ∨ k = 8 ∨ k = 9 ∨ k = 10 ∨ k = 11 ∨ k = 12 by omega) with rfl | rfl | rfl | rfl | rfl | rfl
  all_goals
    have HP := Lib.hid hP
    have C0 := Lib.hid c0
    clear hP hk c0
    go_enter Tryd.func41, Tryd.ntmps41
    go_wp2_with fail
    refine (C0.out _).mono ?_
    rintro e w1 ⟨rfl, hw1⟩
    have hc1 := old_cell hw1
    go_wp2
    go_ret2
    exact ⟨by rw [HP.out]; rfl, bl1 hw1⟩
theorem rput5_any (k a b r : Int) (w : World) : Calls Tryd.prog 41 #[.agg #[.int .i64 k, .int .i64 a, .int .i64 b, .int .i32 r]] w fun e w' => e = .returned (pv k a b r) ∧ Below w.heap.size w w' := by
  cases h : isC k a b r
  · exact rput5_no k a b r h w
  · rcases (isC_iff k a b r).1 h with ⟨rfl, _⟩ | ⟨rfl, _, _, _, _, rfl⟩ | ⟨h1, h2, _, _, rfl, rfl⟩ | ⟨h1, h2, rfl, rfl, rfl⟩
    · exact rput5_text a b r h w
    · rw [pv_yes h]; exact rput5_go a b h w
    · exact rput5_move k a ⟨h1, h2⟩ h w
    · exact rput5_one k ⟨h1, h2⟩ h w
end Go.Proofs.YtgpebdoafblacaaDoor
/- The contracts of vt's Put: any command. Condition: the table of the kinds with one form as the program lays it. -/
set_option linter.unusedVariables false
namespace Go.Proofs.YtgpebdoafblacaaDoor
open Go.RowKit Gl L Vt
theorem vput_any (k a b r : Int) (w : World) (F : Forms w 0) : Calls Tryd.prog 38 #[.agg #[.int .i64 k, .int .i64 a, .int .i64 b, .int .i32 r]] w fun e w' => e = .returned (pv k a b r) ∧ Below w.heap.size w w' := by
  have HF := Lib.hid (fun (x : Obj) => F.below ((Below.refl _ _).alloc (Nat.le_refl _) x))
  cases h : isC k a b r
  · have hP := Lib.hid (pv_no h)
    have hT := Lib.hid (fun wz hf => told_any k a b r wz hf)
    have hN := Lib.hid h
    clear h
    go_enter Tryd.func38, Tryd.ntmps38
    go_wp2_with fail
    refine (hT.out _ (HF.out _)).mono ?_
    rintro e w1 ⟨rfl, hw1⟩
    unfold tld
    rw [hN.out]
    have hc1 := old_cell hw1
    have hwb := bl1 hw1
    go_wp2
    go_ret2
    exact ⟨by rw [hP.out]; rfl, hwb.alloc hwb.size _⟩
  · have hP := Lib.hid (pv_yes h)
    have hT := Lib.hid (fun wz hf => told_any k a b r wz hf)
    have hN := Lib.hid h
    clear h
    go_enter Tryd.func38, Tryd.ntmps38
    go_wp2_with fail
    refine (hT.out _ (HF.out _)).mono ?_
    rintro e w1 ⟨rfl, hw1⟩
    unfold tld
    rw [hN.out]
    have hc1 := old_cell hw1
    have hwb := bl1 hw1
    go_wp2
    go_ret2
    exact ⟨by rw [hP.out]; rfl, hwb.alloc hwb.size _⟩
end Go.Proofs.YtgpebdoafblacaaDoor
/- The contract of vt's Is: any command. Condition: the table of the kinds with one form as the program lays it. -/
set_option linter.unusedVariables false
namespace Go.Proofs.YtgpebdoafblacaaDoor
open Go.RowKit Gl L Vt
theorem vis_any (k a b r : Int) (w : World) (F : Forms w 0) : Calls Tryd.prog 31 #[.agg #[.int .i64 k, .int .i64 a, .int .i64 b, .int .i32 r]] w fun e w' => e = .returned (.bool (isC k a b r)) ∧ Below w.heap.size w w' := by
  have HF := Lib.hid (fun (x : Obj) => F.below ((Below.refl _ _).alloc (Nat.le_refl _) x))
  have hT := Lib.hid (fun wz hf => told_any k a b r wz hf)
  go_enter Tryd.func31, Tryd.ntmps31
  go_wp2_with fail
  refine (hT.out _ (HF.out _)).mono ?_
  rintro e w1 ⟨rfl, hw1⟩
  unfold tld
  have hc1 := old_cell hw1
  have hwb := bl1 hw1
  go_wp2
  go_ret
  exact ⟨rfl, hwb.alloc hwb.size _⟩
end Go.Proofs.YtgpebdoafblacaaDoor
