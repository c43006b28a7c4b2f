/- Contracts of vt. -/
import Derived.Test.YtgpebdoafblacaaDoorVtA
import Derived.Test.YtgpebdoafblacaaDoorMGi
import Derived.Test.YtgpebdoafblacaaDoorMWa
import Derived.Test.YtgpebdoafblacaaDoorMLb
import Derived.BigQuiet
import Derived.Deep.RegionWith
/- The contract of vt's text, and the bytes of a place and a move, put together. -/
set_option linter.unusedVariables false
namespace Go.Proofs.YtgpebdoafblacaaDoor
open Go.RowKit Gl L
namespace Vt
theorem bts1_no {a b r : Int} (h : isC 1 a b r = false) : bts 1 a b r = ⟨#[]⟩ := bts_no h
theorem neq_b {a : Int} (h : a ≠ 0) : (a == 0) = false ∧ (a != 0) = true := by
  have : (a == 0) = false := by simpa using h
  exact ⟨this, by rw [bne, this]; rfl⟩
/-- Two new blocks. -/
theorem bl2 (w : World) (x y : Obj) : Below w.heap.size w ((w.alloc x).alloc y) := ((Below.refl _ _).alloc (Nat.le_refl _) _).alloc (by simp) _
end Vt
open Vt
theorem text_any (k a b r : Int) (w : World) : Calls Tryd.prog 47 #[.agg #[.int .i64 k, .int .i64 a, .int .i64 b, .int .i32 r]] w fun e w' => e = .returned (.tuple #[.agg #[.string (bts 1 a b r), .int .i64 0], .bool (isC 1 a b r)]) ∧ Below w.heap.size w w' := by
  by_cases ha : a = 0
  · subst ha
    by_cases hb : b = 0
    · subst hb
      cases hs : Wd.shw r
      · have hn : isC 1 0 0 r = false := by unfold isC; rw [if_pos rfl, hs]; rfl
        have hN := Lib.hid hn
        have hS := Lib.hid hs
        clear hn hs
        go_enter Tryd.func47, Tryd.ntmps47
        go_wp2_with fail
        refine (shown_any _ _).mono ?_
        rintro e w1 ⟨rfl, rfl⟩
        rw [hS.out]
        go_wp2
        exact bodyPost_ret (v := .tuple #[.agg #[.string ⟨#[]⟩, .int .i64 0], .bool false]) (by simp [results, Tryd.results47, go_sem]) rfl ⟨by rw [bts_no hN.out, hN.out], bl2 _ _ _⟩
      · have hn : isC 1 0 0 r = true := by unfold isC; rw [if_pos rfl, hs]; rfl
        have hp : putE r = 0 := by unfold putE; rw [(shw_vld hs).1]; rfl
        have hN := Lib.hid hn
        have hP := Lib.hid hp
        have hS := Lib.hid hs
        clear hn hs hp
        go_enter Tryd.func47, Tryd.ntmps47
        go_wp2_with fail
        refine (shown_any _ _).mono ?_
        rintro e w1 ⟨rfl, rfl⟩
        rw [hS.out]
        go_wp2_with fail
        refine (put_any _ _).mono ?_
        rintro e w1 ⟨rfl, rfl⟩
        go_wp2
        exact bodyPost_ret (v := .tuple #[.agg #[.string (putS r), .int .i64 0], .bool true]) (by simp [results, Tryd.results47, go_sem]) rfl ⟨by rw [bts_text hN.out, hN.out], bl2 _ _ _⟩
    · have hN := Lib.hid (show isC 1 0 b r = false by unfold isC; rw [if_pos rfl, decide_eq_false hb]; simp)
      obtain ⟨b1, b2⟩ := neq_b hb
      clear hb
      go_enter Tryd.func47, Tryd.ntmps47
      go_wp2
      exact bodyPost_ret (v := .tuple #[.agg #[.string ⟨#[]⟩, .int .i64 0], .bool false]) (by simp [results, Tryd.results47, go_sem]) rfl ⟨by rw [bts_no hN.out, hN.out], bl2 _ _ _⟩
  · have hN := Lib.hid (show isC 1 a b r = false by unfold isC; rw [if_pos rfl, decide_eq_false ha]; simp)
    obtain ⟨b1, b2⟩ := neq_b ha
    clear ha
    go_enter Tryd.func47, Tryd.ntmps47
    go_wp2
    exact bodyPost_ret (v := .tuple #[.agg #[.string ⟨#[]⟩, .int .i64 0], .bool false]) (by simp [results, Tryd.results47, go_sem]) rfl ⟨by rw [bts_no hN.out, hN.out], bl2 _ _ _⟩
theorem strs (xs ys : List Int) : strOfNums xs ++ strOfNums ys = strOfNums (xs ++ ys) := by
  unfold strOfNums
  apply ByteArray.ext
  simp [ByteArray.data_append]
theorem go_bytes (a b : Int) : (⟨#[27, 91]⟩ : ByteArray) ++ dS (a + 1) ++ ⟨#[59]⟩ ++ dS (b + 1) ++ ⟨#[72]⟩ = strOfNums (btL 2 a b) := by
  show strOfNums [27, 91] ++ dS (a + 1) ++ strOfNums [59] ++ dS (b + 1) ++ strOfNums [72] = _
  unfold dS
  simp only [strs]
  unfold btL
  rw [if_pos rfl]
  simp
theorem move_bytes (k a : Int) (h : 3 ≤ k ∧ k ≤ 6) (s : ByteArray) (hs : s = if 1 < a then dS a else ⟨#[]⟩) (b : Int) : (⟨#[27, 91]⟩ : ByteArray) ++ s ++ strOfNums [62 + k] = strOfNums (btL k a b) := by
  subst hs
  show strOfNums [27, 91] ++ (if 1 < a then dS a else strOfNums []) ++ strOfNums [62 + k] = _
  unfold dS btL
  rw [if_neg (show k ≠ 2 by omega), if_pos h.2]
  split
  · simp only [strs]; simp
  · simp only [strs]; simp
end Go.Proofs.YtgpebdoafblacaaDoor
/- The contract of vt's place. -/
set_option linter.unusedVariables false
namespace Go.Proofs.YtgpebdoafblacaaDoor
open Go.RowKit Gl L Vt
set_option maxHeartbeats 8000000 in
theorem place_any (k a b r : Int) (w : World) : Calls Tryd.prog 48 #[.agg #[.int .i64 k, .int .i64 a, .int .i64 b, .int .i32 r]] w fun e w' => e = .returned (.tuple #[.agg #[.string (bts 2 a b r), .int .i64 0], .bool (isC 2 a b r)]) ∧ Below w.heap.size w w' := by
  cases hc : isC 2 a b r
  · have hN := Lib.hid hc
    have hE := Lib.hid (bts_no hc)
    have hb : ¬ (0 ≤ a ∧ a ≤ 23 ∧ 0 ≤ b ∧ b ≤ 79 ∧ r = 0) := by
      unfold isC at hc; rw [if_neg (by omega), if_pos rfl] at hc; exact of_decide_eq_false hc
    have hs : (a < 0) ∨ (¬ a < 0 ∧ 24 ≤ a) ∨ (¬ a < 0 ∧ ¬ 24 ≤ a ∧ b < 0) ∨ (¬ a < 0 ∧ ¬ 24 ≤ a ∧ ¬ b < 0 ∧ 80 ≤ b) ∨ (¬ a < 0 ∧ ¬ 24 ≤ a ∧ ¬ b < 0 ∧ ¬ 80 ≤ b ∧ r ≠ 0) := by omega
    clear hc hb
    rcases hs with h1 | ⟨h1, h2⟩ | ⟨h1, h2, h3⟩ | ⟨h1, h2, h3, h4⟩ | ⟨h1, h2, h3, h4, h5⟩
    case inr.inr.inr.inr => 
      obtain ⟨b1, b2⟩ := neq_b h5
      clear h5
      go_enter Tryd.func48, Tryd.ntmps48
      go_wp2
      exact bodyPost_ret (v := .tuple #[.agg #[.string ⟨#[]⟩, .int .i64 0], .bool false]) (by simp [results, Tryd.results48, go_sem]) rfl ⟨by rw [hE.out], bl2 _ _ _⟩
    all_goals
      go_enter Tryd.func48, Tryd.ntmps48
      go_wp2
      exact bodyPost_ret (v := .tuple #[.agg #[.string ⟨#[]⟩, .int .i64 0], .bool false]) (by simp [results, Tryd.results48, go_sem]) rfl ⟨by rw [hE.out], bl2 _ _ _⟩
  · have hN := Lib.hid hc
    have hE := Lib.hid ((bts_form hc (by decide)).trans (go_bytes a b).symm)
    obtain ⟨h0, h1, h2, h3, rfl⟩ : 0 ≤ a ∧ a ≤ 23 ∧ 0 ≤ b ∧ b ≤ 79 ∧ r = 0 := by
      unfold isC at hc; rw [if_neg (by omega), if_pos rfl] at hc; exact of_decide_eq_true hc
    have s1 : (dS (a + 1)).size ≤ 2 := by unfold dS; rw [strOfNums_size]; exact (dg_len _).2
    have s2 : (dS (b + 1)).size ≤ 2 := by unfold dS; rw [strOfNums_size]; exact (dg_len _).2
    have c1 := Lib.hid (fun x h0 h1 wz => itoa_any x h0 h1 wz)
    clear hc
    have g1 : ¬ a < 0 := by omega
    have g2 : ¬ 24 ≤ a := by omega
    have g3 : ¬ b < 0 := by omega
    have g4 : ¬ 80 ≤ b := by omega
    have t1 : ¬ 9223372036854775807 < 2 + (dS (a + 1)).size := by omega
    have t2 : ¬ 9223372036854775807 < 2 + (dS (a + 1)).size + 1 := by omega
    have t3 : ¬ 9223372036854775807 < 2 + (dS (a + 1)).size + 1 + (dS (b + 1)).size := by omega
    have t4 : ¬ 9223372036854775807 < 2 + (dS (a + 1)).size + 1 + (dS (b + 1)).size + 1 := by omega
    clear s1 s2
    generalize dS = D at *
    go_enter Tryd.func48, Tryd.ntmps48
    go_wp2
    have w1 := IntWalk.i64_in (a + 1) (by omega)
    have w2 := IntWalk.i64_in (b + 1) (by omega)
    go_region_with (first | (go_at_call 54; refine (c1.out _ (by omega) (by omega) _).mono ?_; rintro e w1 ⟨rfl, rfl⟩))
    all_goals go_wp2
    all_goals exact bodyPost_ret (v := .tuple #[.agg #[.string (⟨#[27, 91]⟩ ++ D (a + 1) ++ ⟨#[59]⟩ ++ D (b + 1) ++ ⟨#[72]⟩), .int .i64 0], .bool true]) (by simp [results, Tryd.results48, go_sem]) rfl ⟨by rw [hE.out], (bl2 _ _ _).drew⟩
end Go.Proofs.YtgpebdoafblacaaDoor
/- The contract of vt's move. -/
set_option linter.unusedVariables false
namespace Go.Proofs.YtgpebdoafblacaaDoor
open Go.RowKit Gl L Vt
set_option maxHeartbeats 1000000 in
theorem move_any (k a b r : Int) (hk : 3 ≤ k ∧ k ≤ 6) (w : World) : Calls Tryd.prog 49 #[.agg #[.int .i64 k, .int .i64 a, .int .i64 b, .int .i32 r]] w fun e w' => e = .returned (.tuple #[.agg #[.string (bts k a b r), .int .i64 0], .bool (isC k a b r)]) ∧ Below w.heap.size w w' := by
  cases hc : isC k a b r
  · have hN := Lib.hid hc
    have hE := Lib.hid (bts_no hc)
    have hb : ¬ (1 ≤ a ∧ a ≤ 80 ∧ b = 0 ∧ r = 0) := by
      unfold isC at hc; rw [if_neg (by omega), if_neg (by omega), if_pos (by omega)] at hc; exact of_decide_eq_false hc
    have hs : (a < 1) ∨ (¬ a < 1 ∧ 80 < a) ∨ (¬ a < 1 ∧ ¬ 80 < a ∧ b ≠ 0) ∨ (¬ a < 1 ∧ ¬ 80 < a ∧ b = 0 ∧ r ≠ 0) := by omega
    clear hc hb hk
    rcases hs with h1 | ⟨h1, h2⟩ | ⟨h1, h2, h3⟩ | ⟨h1, h2, rfl, h3⟩
    case inr.inr.inl =>
      obtain ⟨b1, b2⟩ := neq_b h3
      clear h3
      go_enter Tryd.func49, Tryd.ntmps49
      go_wp2
      exact bodyPost_ret (v := .tuple #[.agg #[.string ⟨#[]⟩, .int .i64 0], .bool false]) (by simp [results, Tryd.results49, go_sem]) rfl ⟨by rw [hE.out], bl2 _ _ _⟩
    case inr.inr.inr =>
      obtain ⟨b1, b2⟩ := neq_b h3
      clear h3
      go_enter Tryd.func49, Tryd.ntmps49
      go_wp2
      exact bodyPost_ret (v := .tuple #[.agg #[.string ⟨#[]⟩, .int .i64 0], .bool false]) (by simp [results, Tryd.results49, go_sem]) rfl ⟨by rw [hE.out], bl2 _ _ _⟩
    all_goals
      go_enter Tryd.func49, Tryd.ntmps49
      go_wp2
      exact bodyPost_ret (v := .tuple #[.agg #[.string ⟨#[]⟩, .int .i64 0], .bool false]) (by simp [results, Tryd.results49, go_sem]) rfl ⟨by rw [hE.out], bl2 _ _ _⟩
  · have hN := Lib.hid hc
    obtain ⟨h0, h1, rfl, rfl⟩ : 1 ≤ a ∧ a ≤ 80 ∧ b = 0 ∧ r = 0 := by
      unfold isC at hc; rw [if_neg (by omega), if_neg (by omega), if_pos (by omega)] at hc; exact of_decide_eq_true hc
    have hE := bts_form hc (by omega)
    have c1 := Lib.hid (fun wz => itoa_any a (by omega) (by omega) wz)
    have s1 : (dS a).size ≤ 2 := by unfold dS; rw [strOfNums_size]; exact (dg_len _).2
    have g1 : ¬ a < 1 := by omega
    have g2 : ¬ 80 < a := by omega
    by_cases g : 1 < a
    · have hM := hE.trans (move_bytes k a (by omega) (dS a) (by rw [if_pos g]) 0).symm
      clear hc hE
      rcases (show k = 3 ∨ k = 4 ∨ k = 5 ∨ k = 6 by omega) with rfl | rfl | rfl | rfl
      all_goals
        have HM := Lib.hid hM
        clear hM hk
        go_enter Tryd.func49, Tryd.ntmps49
        go_wp2_with fail
        refine (c1.out _).mono ?_
        rintro e w1 ⟨rfl, rfl⟩
        go_wp2
      · exact bodyPost_ret (v := .tuple #[.agg #[.string (⟨#[27, 91]⟩ ++ dS a ++ (((⟨#[65, 66, 67, 68]⟩ : ByteArray).extract 0 4).extract 0 1)), .int .i64 0], .bool true]) (by simp [results, Tryd.results49, go_sem]) rfl ⟨by rw [show (((⟨#[65, 66, 67, 68]⟩ : ByteArray).extract 0 4).extract 0 1) = strOfNums [62 + 3] by decide, HM.out], bl2 _ _ _⟩
      · exact bodyPost_ret (v := .tuple #[.agg #[.string (⟨#[27, 91]⟩ ++ dS a ++ (((⟨#[65, 66, 67, 68]⟩ : ByteArray).extract 1 4).extract 0 1)), .int .i64 0], .bool true]) (by simp [results, Tryd.results49, go_sem]) rfl ⟨by rw [show (((⟨#[65, 66, 67, 68]⟩ : ByteArray).extract 1 4).extract 0 1) = strOfNums [62 + 4] by decide, HM.out], bl2 _ _ _⟩
      · exact bodyPost_ret (v := .tuple #[.agg #[.string (⟨#[27, 91]⟩ ++ dS a ++ (((⟨#[65, 66, 67, 68]⟩ : ByteArray).extract 2 4).extract 0 1)), .int .i64 0], .bool true]) (by simp [results, Tryd.results49, go_sem]) rfl ⟨by rw [show (((⟨#[65, 66, 67, 68]⟩ : ByteArray).extract 2 4).extract 0 1) = strOfNums [62 + 5] by decide, HM.out], bl2 _ _ _⟩
      · exact bodyPost_ret (v := .tuple #[.agg #[.string (⟨#[27, 91]⟩ ++ dS a ++ (((⟨#[65, 66, 67, 68]⟩ : ByteArray).extract 3 4).extract 0 1)), .int .i64 0], .bool true]) (by simp [results, Tryd.results49, go_sem]) rfl ⟨by rw [show (((⟨#[65, 66, 67, 68]⟩ : ByteArray).extract 3 4).extract 0 1) = strOfNums [62 + 6] by decide, HM.out], bl2 _ _ _⟩
    · have hM := hE.trans (move_bytes k a (by omega) ⟨#[]⟩ (by rw [if_neg g]) 0).symm
      clear hc hE
      rcases (show k = 3 ∨ k = 4 ∨ k = 5 ∨ k = 6 by omega) with rfl | rfl | rfl | rfl
      all_goals
        have HM := Lib.hid hM
        clear hM hk
        go_enter Tryd.func49, Tryd.ntmps49
        go_wp2
      · exact bodyPost_ret (v := .tuple #[.agg #[.string (⟨#[27, 91]⟩ ++ ⟨#[]⟩ ++ (((⟨#[65, 66, 67, 68]⟩ : ByteArray).extract 0 4).extract 0 1)), .int .i64 0], .bool true]) (by simp [results, Tryd.results49, go_sem]) rfl ⟨by rw [show (((⟨#[65, 66, 67, 68]⟩ : ByteArray).extract 0 4).extract 0 1) = strOfNums [62 + 3] by decide, HM.out], bl2 _ _ _⟩
      · exact bodyPost_ret (v := .tuple #[.agg #[.string (⟨#[27, 91]⟩ ++ ⟨#[]⟩ ++ (((⟨#[65, 66, 67, 68]⟩ : ByteArray).extract 1 4).extract 0 1)), .int .i64 0], .bool true]) (by simp [results, Tryd.results49, go_sem]) rfl ⟨by rw [show (((⟨#[65, 66, 67, 68]⟩ : ByteArray).extract 1 4).extract 0 1) = strOfNums [62 + 4] by decide, HM.out], bl2 _ _ _⟩
      · exact bodyPost_ret (v := .tuple #[.agg #[.string (⟨#[27, 91]⟩ ++ ⟨#[]⟩ ++ (((⟨#[65, 66, 67, 68]⟩ : ByteArray).extract 2 4).extract 0 1)), .int .i64 0], .bool true]) (by simp [results, Tryd.results49, go_sem]) rfl ⟨by rw [show (((⟨#[65, 66, 67, 68]⟩ : ByteArray).extract 2 4).extract 0 1) = strOfNums [62 + 5] by decide, HM.out], bl2 _ _ _⟩
      · exact bodyPost_ret (v := .tuple #[.agg #[.string (⟨#[27, 91]⟩ ++ ⟨#[]⟩ ++ (((⟨#[65, 66, 67, 68]⟩ : ByteArray).extract 3 4).extract 0 1)), .int .i64 0], .bool true]) (by simp [results, Tryd.results49, go_sem]) rfl ⟨by rw [show (((⟨#[65, 66, 67, 68]⟩ : ByteArray).extract 3 4).extract 0 1) = strOfNums [62 + 6] by decide, HM.out], bl2 _ _ _⟩
end Go.Proofs.YtgpebdoafblacaaDoor
/- The table of the kinds with one form, as the program lays it, and its elements. -/
set_option linter.unusedVariables false
namespace Go.Proofs.YtgpebdoafblacaaDoor
open Go.RowKit Gl L Vt
/-- The table of the kinds with one form, as the program lays it. -/
def Forms (w : World) (g : Nat) : Prop :=
  w.cell? ⟨g, 0, none⟩ = some (.string ⟨#[27, 91, 75]⟩) ∧ w.cell? ⟨g, 1, none⟩ = some (.int .i64 1) ∧ w.cell? ⟨g, 2, none⟩ = some (.string ⟨#[27, 91, 74]⟩) ∧ w.cell? ⟨g, 3, none⟩ = some (.int .i64 2) ∧
  w.cell? ⟨g, 4, none⟩ = some (.string ⟨#[13]⟩) ∧ w.cell? ⟨g, 5, none⟩ = some (.int .i64 0) ∧ w.cell? ⟨g, 6, none⟩ = some (.string ⟨#[10]⟩) ∧ w.cell? ⟨g, 7, none⟩ = some (.int .i64 0) ∧
  w.cell? ⟨g, 8, none⟩ = some (.string ⟨#[8]⟩) ∧ w.cell? ⟨g, 9, none⟩ = some (.int .i64 0) ∧ w.cell? ⟨g, 10, none⟩ = some (.string ⟨#[7]⟩) ∧ w.cell? ⟨g, 11, none⟩ = some (.int .i64 0)
theorem Forms.below {w w' : World} {g : Nat} (h : Forms w g) (hb : Below w.heap.size w w') : Forms w' g := by
  have hk : ∀ o u, w.cell? ⟨g, o, none⟩ = some u → w'.cell? ⟨g, o, none⟩ = some u := fun o u hu => by
    rw [old_cell hb g o (World.block_lt_of_cell? w _ hu)]; exact hu
  obtain ⟨h0, h1, h2, h3, h4, h5, h6, h7, h8, h9, h10, h11⟩ := h
  exact ⟨hk _ _ h0, hk _ _ h1, hk _ _ h2, hk _ _ h3, hk _ _ h4, hk _ _ h5, hk _ _ h6, hk _ _ h7, hk _ _ h8, hk _ _ h9, hk _ _ h10, hk _ _ h11⟩
theorem ba {w w' : World} (h : Below w.heap.size w w') (o : Obj) : Below w.heap.size w (w'.alloc o) := h.alloc h.size _
theorem idx0 (w : World) : (Instr.index 62 (.agg #[.string ⟨#[27, 91, 75]⟩, .int .i64 1, .string ⟨#[27, 91, 74]⟩, .int .i64 2, .string ⟨#[13]⟩, .int .i64 0, .string ⟨#[10]⟩, .int .i64 0, .string ⟨#[8]⟩, .int .i64 0, .string ⟨#[7]⟩, .int .i64 0]) (.int .i64 0)).run Tryd.prog w = .ok (.agg #[.string ⟨#[27, 91, 75]⟩, .int .i64 1]) w := by kernel_rfl
theorem idx1 (w : World) : (Instr.index 62 (.agg #[.string ⟨#[27, 91, 75]⟩, .int .i64 1, .string ⟨#[27, 91, 74]⟩, .int .i64 2, .string ⟨#[13]⟩, .int .i64 0, .string ⟨#[10]⟩, .int .i64 0, .string ⟨#[8]⟩, .int .i64 0, .string ⟨#[7]⟩, .int .i64 0]) (.int .i64 1)).run Tryd.prog w = .ok (.agg #[.string ⟨#[27, 91, 74]⟩, .int .i64 2]) w := by kernel_rfl
theorem idx2 (w : World) : (Instr.index 62 (.agg #[.string ⟨#[27, 91, 75]⟩, .int .i64 1, .string ⟨#[27, 91, 74]⟩, .int .i64 2, .string ⟨#[13]⟩, .int .i64 0, .string ⟨#[10]⟩, .int .i64 0, .string ⟨#[8]⟩, .int .i64 0, .string ⟨#[7]⟩, .int .i64 0]) (.int .i64 2)).run Tryd.prog w = .ok (.agg #[.string ⟨#[13]⟩, .int .i64 0]) w := by kernel_rfl
theorem idx3 (w : World) : (Instr.index 62 (.agg #[.string ⟨#[27, 91, 75]⟩, .int .i64 1, .string ⟨#[27, 91, 74]⟩, .int .i64 2, .string ⟨#[13]⟩, .int .i64 0, .string ⟨#[10]⟩, .int .i64 0, .string ⟨#[8]⟩, .int .i64 0, .string ⟨#[7]⟩, .int .i64 0]) (.int .i64 3)).run Tryd.prog w = .ok (.agg #[.string ⟨#[10]⟩, .int .i64 0]) w := by kernel_rfl
theorem idx4 (w : World) : (Instr.index 62 (.agg #[.string ⟨#[27, 91, 75]⟩, .int .i64 1, .string ⟨#[27, 91, 74]⟩, .int .i64 2, .string ⟨#[13]⟩, .int .i64 0, .string ⟨#[10]⟩, .int .i64 0, .string ⟨#[8]⟩, .int .i64 0, .string ⟨#[7]⟩, .int .i64 0]) (.int .i64 4)).run Tryd.prog w = .ok (.agg #[.string ⟨#[8]⟩, .int .i64 0]) w := by kernel_rfl
theorem idx5 (w : World) : (Instr.index 62 (.agg #[.string ⟨#[27, 91, 75]⟩, .int .i64 1, .string ⟨#[27, 91, 74]⟩, .int .i64 2, .string ⟨#[13]⟩, .int .i64 0, .string ⟨#[10]⟩, .int .i64 0, .string ⟨#[8]⟩, .int .i64 0, .string ⟨#[7]⟩, .int .i64 0]) (.int .i64 5)).run Tryd.prog w = .ok (.agg #[.string ⟨#[7]⟩, .int .i64 0]) w := by kernel_rfl
end Go.Proofs.YtgpebdoafblacaaDoor
