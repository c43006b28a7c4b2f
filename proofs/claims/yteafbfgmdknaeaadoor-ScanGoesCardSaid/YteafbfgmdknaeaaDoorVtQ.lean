/- The contract of the reference's Put of commands: any command. -/
import Derived.Test.YteafbfgmdknaeaaDoorVtR
import Derived.Deep.RegionHeld3
set_option linter.unusedVariables false
namespace Go.Proofs.YteafbfgmdknaeaaDoor
open Go.RowKit Gl L Vt
theorem held12 {w w1 w2 : World} {n : Nat} {x y : Value} (hb : Below w1.heap.size w1 w2) (h : w1.cell? ⟨n, 1, none⟩ = some x ∧ w1.cell? ⟨n, 2, none⟩ = some y ∧ Below w.heap.size w w1) :
    w2.cell? ⟨n, 1, none⟩ = some x ∧ w2.cell? ⟨n, 2, none⟩ = some y ∧ Below w.heap.size w w2 := by
  obtain ⟨h0, h1, hw⟩ := h
  exact ⟨by rw [old_cell hb _ _ (World.block_lt_of_cell? w1 _ h0)]; exact h0, by rw [old_cell hb _ _ (World.block_lt_of_cell? w1 _ h1)]; exact h1, hw.trans (hb.mono hw.size)⟩
set_option maxHeartbeats 8000000 in
theorem rput5_go (a b : Int) (hc : isC 2 a b 0 = true) (w : World) : Calls Tryd.prog 25 #[.agg #[.int .i64 2, .int .i64 a, .int .i64 b, .int .i32 0]] w fun e w' => e = .returned (.tuple #[.string (bts 2 a b 0), .int .i64 0]) ∧ Below w.heap.size w w' := by
  have hN := Lib.hid hc
  have hE := Lib.hid ((bts_form hc (by decide)).trans (go_bytes a b).symm)
  obtain ⟨h0, h1, h2, h3, _⟩ : 0 ≤ a ∧ a ≤ 23 ∧ 0 ≤ b ∧ b ≤ 79 ∧ (0 : Int) = 0 := by
    unfold isC at hc; rw [if_neg (by omega), if_pos rfl] at hc; exact of_decide_eq_true hc
  have c0 := Lib.hid (fun wz => ris5_any 2 a b 0 wz)
  have s1 : (dS (a + 1)).size ≤ 2 := by unfold dS; rw [strOfNums_size]; exact (dg_len _).2
  have s2 : (dS (b + 1)).size ≤ 2 := by unfold dS; rw [strOfNums_size]; exact (dg_len _).2
  have c1 := Lib.hid (fun x h0 h1 wz => rdigits_any x h0 h1 wz)
  clear hc
  generalize dS = D at *
  go_enter Tryd.func25, Tryd.ntmps25
  go_wp2_with fail
  refine (c0.out _).mono ?_
  rintro e w1 ⟨rfl, hw1⟩
  rw [hN.out]
  have hc1 := old_cell hw1
  have hf1 := old_frozen hw1
  have hz1 := hw1.size
  have hwb : Below w.heap.size w w1 := ((Below.refl _ _).alloc (Nat.le_refl _) _).trans (hw1.mono (by simp))
  go_wp2
  have hx1 : w1.cell? ⟨w.heap.size, 1, none⟩ = some (.int .i64 a) := by rw [hc1 _ _ (by simp)]; simp
  have hx2 : w1.cell? ⟨w.heap.size, 2, none⟩ = some (.int .i64 b) := by rw [hc1 _ _ (by simp)]; simp
  clear hc1 hf1 hz1 hw1
  have q1 := IntWalk.i64_in (a + 1) (by omega)
  have q2 := IntWalk.i64_in (b + 1) (by omega)
  have t1 : ¬ 9223372036854775807 < 2 + (D (a + 1)).size := by omega
  have t2 : ¬ 9223372036854775807 < 2 + (D (a + 1)).size + 1 := by omega
  have t3 : ¬ 9223372036854775807 < 2 + (D (a + 1)).size + 1 + (D (b + 1)).size := by omega
  have t4 : ¬ 9223372036854775807 < 2 + (D (a + 1)).size + 1 + (D (b + 1)).size + 1 := by omega
  clear s1 s2
  go_region_held3 (fun w' => w'.cell? ⟨w.heap.size, 1, none⟩ = some (.int .i64 a) ∧ w'.cell? ⟨w.heap.size, 2, none⟩ = some (.int .i64 b) ∧ Below w.heap.size w w') (first | exact held12 (by assumption) (by assumption) | (go_keep; done) | exact ⟨by simpa using hx1, by simpa using hx2, hwb.drew⟩)
    (first | (go_at_call 38; refine (c1.out _ (by omega) (by omega) _).mono ?_; rintro e w' ⟨rfl, hb⟩))
  all_goals go_wp2
  all_goals go_ret2
  all_goals exact ⟨by rw [hE.out]; rfl, And.right (And.right (by assumption))⟩
namespace Vt
def pv (k a b r : Int) : Value := .tuple #[.string (bts k a b r), .int .i64 (err k a b r)]
theorem bl1 {w w1 : World} {x : Obj} (hw : Below (w.alloc x).heap.size (w.alloc x) w1) : Below w.heap.size w w1 := ((Below.refl _ _).alloc (Nat.le_refl _) _).trans (hw.mono (by simp))
theorem pv_no {k a b r : Int} (h : isC k a b r = false) : pv k a b r = .tuple #[.string ⟨#[]⟩, .int .i64 1] := by unfold pv err; rw [bts_no h, h]; rfl
theorem pv_yes {k a b r : Int} (h : isC k a b r = true) : pv k a b r = .tuple #[.string (bts k a b r), .int .i64 0] := by unfold pv err; rw [h]; rfl
end Vt
theorem rput5_no (k a b r : Int) (h : isC k a b r = false) (w : World) : Calls Tryd.prog 25 #[.agg #[.int .i64 k, .int .i64 a, .int .i64 b, .int .i32 r]] w fun e w' => e = .returned (pv k a b r) ∧ Below w.heap.size w w' := by
  have hN := Lib.hid h
  have hP := Lib.hid (pv_no h)
  have c0 := Lib.hid (fun wz => ris5_any k a b r wz)
  clear h
  go_enter Tryd.func25, Tryd.ntmps25
  go_wp2_with fail
  refine (c0.out _).mono ?_
  rintro e w1 ⟨rfl, hw1⟩
  rw [hN.out]
  go_wp2
  go_ret2
  exact ⟨by rw [hP.out]; rfl, bl1 hw1⟩
theorem rput5_text (a b r : Int) (h : isC 1 a b r = true) (w : World) : Calls Tryd.prog 25 #[.agg #[.int .i64 1, .int .i64 a, .int .i64 b, .int .i32 r]] w fun e w' => e = .returned (pv 1 a b r) ∧ Below w.heap.size w w' := by
  have hN := Lib.hid h
  have hP := Lib.hid ((pv_yes h).trans (by rw [bts_text h]))
  have hs : Wd.shw r = true := by
    rcases (isC_iff 1 a b r).1 h with h | h | h | h
    · exact h.2.1
    all_goals omega
  have hE := Lib.hid (show putE r = 0 by unfold putE; rw [(shw_vld hs).1]; rfl)
  have c0 := Lib.hid (fun wz => ris5_any 1 a b r wz)
  clear h hs
  go_enter Tryd.func25, Tryd.ntmps25
  go_wp2_with fail
  refine (c0.out _).mono ?_
  rintro e w1 ⟨rfl, hw1⟩
  rw [hN.out]
  have hc1 := old_cell hw1
  have hwb := bl1 hw1
  go_wp2_with fail
  refine (rput_any _ _).mono ?_
  rintro e w2 ⟨rfl, hw2⟩
  go_wp2
  go_ret2
  exact ⟨by rw [hP.out, hE.out]; rfl, hwb.trans (hw2.mono hwb.size)⟩
set_option maxHeartbeats 2000000 in
theorem rput5_move (k a : Int) (hk : 3 ≤ k ∧ k ≤ 6) (h : isC k a 0 0 = true) (w : World) : Calls Tryd.prog 25 #[.agg #[.int .i64 k, .int .i64 a, .int .i64 0, .int .i32 0]] w fun e w' => e = .returned (pv k a 0 0) ∧ Below w.heap.size w w' := by
  obtain ⟨h0, h1, _, _⟩ : 1 ≤ a ∧ a ≤ 80 ∧ (0 : Int) = 0 ∧ (0 : Int) = 0 := by
    unfold isC at h; rw [if_neg (by omega), if_neg (by omega), if_pos (by omega)] at h; exact of_decide_eq_true h
  have hE := bts_form h (by omega)
  have hP := pv_yes h
  have c0 := fun wz => ris5_any k a 0 0 wz
  have s1 : (dS a).size ≤ 2 := by unfold dS; rw [strOfNums_size]; exact (dg_len _).2
  rw [h] at c0
  by_cases g : 1 < a
  · have hM := hP.trans (by rw [hE.trans (move_bytes k a (by omega) (dS a) (by rw [if_pos g]) 0).symm])
    have c1 := Lib.hid (fun wz => rdigits_any a (by omega) (by omega) wz)
    clear h hE hP
    rcases (show k = 3 ∨ k = 4 ∨ k = 5 ∨ k = 6 by omega) with rfl | rfl | rfl | rfl
    all_goals
      have HM := Lib.hid hM
      have C0 := Lib.hid c0
      clear hM hk c0
      go_enter Tryd.func25, Tryd.ntmps25
      go_wp2_with fail
      refine (C0.out _).mono ?_
      rintro e w1 ⟨rfl, hw1⟩
      have hc1 := old_cell hw1
      have hwb := bl1 hw1
      have hz1 := hwb.size
      have hq1 : w.heap.size < w1.heap.size := by have := hw1.size; simp at this; omega
      go_wp2_with fail
      refine (c1.out _).mono ?_
      rintro e w2 ⟨rfl, hw2⟩
      have hc2 := old_cell hw2
      go_wp2
      go_ret2
      exact ⟨by rw [HM.out]; rfl, hwb.trans (hw2.mono hwb.size)⟩
  · have hM := hP.trans (by rw [hE.trans (move_bytes k a (by omega) ⟨#[]⟩ (by rw [if_neg g]) 0).symm])
    clear h hE hP
    rcases (show k = 3 ∨ k = 4 ∨ k = 5 ∨ k = 6 by omega) with rfl | rfl | rfl | rfl
    all_goals
      have HM := Lib.hid hM
      have C0 := Lib.hid c0
      clear hM hk c0
      go_enter Tryd.func25, Tryd.ntmps25
      go_wp2_with fail
      refine (C0.out _).mono ?_
      rintro e w1 ⟨rfl, hw1⟩
      have hc1 := old_cell hw1
      go_wp2
      go_ret2
      exact ⟨by rw [HM.out]; rfl, bl1 hw1⟩
theorem rput5_one (k : Int) (hk : 7 ≤ k ∧ k ≤ 12) (h : isC k 0 0 0 = true) (w : World) : Calls Tryd.prog 25 #[.agg #[.int .i64 k, .int .i64 0, .int .i64 0, .int .i32 0]] w fun e w' => e = .returned (pv k 0 0 0) ∧ Below w.heap.size w w' := by
  have hP := (pv_yes h).trans (by rw [bts_form h (by omega)])
  have c0 := fun wz => ris5_any k 0 0 0 wz
  rw [h] at c0
  clear h
  rcases (show k = 7 ∨ k = 8 ∨ k = 9 ∨ k = 10 ∨ k = 11 ∨ k = 12 by omega) with rfl | rfl | rfl | rfl | rfl | rfl
  all_goals
    have HP := Lib.hid hP
    have C0 := Lib.hid c0
    clear hP hk c0
    go_enter Tryd.func25, Tryd.ntmps25
    go_wp2_with fail
    refine (C0.out _).mono ?_
    rintro e w1 ⟨rfl, hw1⟩
    have hc1 := old_cell hw1
    go_wp2
    go_ret2
    exact ⟨by rw [HP.out]; rfl, bl1 hw1⟩
theorem rput5_any (k a b r : Int) (w : World) : Calls Tryd.prog 25 #[.agg #[.int .i64 k, .int .i64 a, .int .i64 b, .int .i32 r]] w fun e w' => e = .returned (pv k a b r) ∧ Below w.heap.size w w' := by
  cases h : isC k a b r
  · exact rput5_no k a b r h w
  · rcases (isC_iff k a b r).1 h with ⟨rfl, _⟩ | ⟨rfl, _, _, _, _, rfl⟩ | ⟨h1, h2, _, _, rfl, rfl⟩ | ⟨h1, h2, rfl, rfl, rfl⟩
    · exact rput5_text a b r h w
    · rw [pv_yes h]; exact rput5_go a b h w
    · exact rput5_move k a ⟨h1, h2⟩ h w
    · exact rput5_one k ⟨h1, h2⟩ h w
end Go.Proofs.YteafbfgmdknaeaaDoor
