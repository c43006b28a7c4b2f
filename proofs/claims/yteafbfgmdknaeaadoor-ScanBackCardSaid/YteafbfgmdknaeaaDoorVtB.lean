/- The contract of vt's text, and the bytes of a place and a move, put together. -/
import Derived.Test.YteafbfgmdknaeaaDoorVtA
import Derived.Test.YteafbfgmdknaeaaDoorGlA
import Derived.Test.YteafbfgmdknaeaaDoorWdS
import Derived.Test.YteafbfgmdknaeaaDoorLibC
import Derived.BigQuiet
import Derived.Deep.RegionWith
set_option linter.unusedVariables false
namespace Go.Proofs.YteafbfgmdknaeaaDoor
open Go.RowKit Gl L
namespace Vt
theorem bts1_no {a b r : Int} (h : isC 1 a b r = false) : bts 1 a b r = ⟨#[]⟩ := bts_no h
theorem neq_b {a : Int} (h : a ≠ 0) : (a == 0) = false ∧ (a != 0) = true := by
  have : (a == 0) = false := by simpa using h
  exact ⟨this, by rw [bne, this]; rfl⟩
/-- Two new blocks. -/
theorem bl2 (w : World) (x y : Obj) : Below w.heap.size w ((w.alloc x).alloc y) := ((Below.refl _ _).alloc (Nat.le_refl _) _).alloc (by simp) _
end Vt
open Vt
theorem text_any (k a b r : Int) (w : World) : Calls Tryd.prog 27 #[.agg #[.int .i64 k, .int .i64 a, .int .i64 b, .int .i32 r]] w fun e w' => e = .returned (.tuple #[.agg #[.string (bts 1 a b r), .int .i64 0], .bool (isC 1 a b r)]) ∧ Below w.heap.size w w' := by
  by_cases ha : a = 0
  · subst ha
    by_cases hb : b = 0
    · subst hb
      cases hs : Wd.shw r
      · have hn : isC 1 0 0 r = false := by unfold isC; rw [if_pos rfl, hs]; rfl
        have hN := Lib.hid hn
        have hS := Lib.hid hs
        clear hn hs
        go_enter Tryd.func27, Tryd.ntmps27
        go_wp2_with fail
        refine (shown_any _ _).mono ?_
        rintro e w1 ⟨rfl, rfl⟩
        rw [hS.out]
        go_wp2
        exact bodyPost_ret (v := .tuple #[.agg #[.string ⟨#[]⟩, .int .i64 0], .bool false]) (by simp [results, Tryd.results27, go_sem]) rfl ⟨by rw [bts_no hN.out, hN.out], bl2 _ _ _⟩
      · have hn : isC 1 0 0 r = true := by unfold isC; rw [if_pos rfl, hs]; rfl
        have hp : putE r = 0 := by unfold putE; rw [(shw_vld hs).1]; rfl
        have hN := Lib.hid hn
        have hP := Lib.hid hp
        have hS := Lib.hid hs
        clear hn hs hp
        go_enter Tryd.func27, Tryd.ntmps27
        go_wp2_with fail
        refine (shown_any _ _).mono ?_
        rintro e w1 ⟨rfl, rfl⟩
        rw [hS.out]
        go_wp2_with fail
        refine (put_any _ _).mono ?_
        rintro e w1 ⟨rfl, rfl⟩
        go_wp2
        exact bodyPost_ret (v := .tuple #[.agg #[.string (putS r), .int .i64 0], .bool true]) (by simp [results, Tryd.results27, go_sem]) rfl ⟨by rw [bts_text hN.out, hN.out], bl2 _ _ _⟩
    · have hN := Lib.hid (show isC 1 0 b r = false by unfold isC; rw [if_pos rfl, decide_eq_false hb]; simp)
      obtain ⟨b1, b2⟩ := neq_b hb
      clear hb
      go_enter Tryd.func27, Tryd.ntmps27
      go_wp2
      exact bodyPost_ret (v := .tuple #[.agg #[.string ⟨#[]⟩, .int .i64 0], .bool false]) (by simp [results, Tryd.results27, go_sem]) rfl ⟨by rw [bts_no hN.out, hN.out], bl2 _ _ _⟩
  · have hN := Lib.hid (show isC 1 a b r = false by unfold isC; rw [if_pos rfl, decide_eq_false ha]; simp)
    obtain ⟨b1, b2⟩ := neq_b ha
    clear ha
    go_enter Tryd.func27, Tryd.ntmps27
    go_wp2
    exact bodyPost_ret (v := .tuple #[.agg #[.string ⟨#[]⟩, .int .i64 0], .bool false]) (by simp [results, Tryd.results27, go_sem]) rfl ⟨by rw [bts_no hN.out, hN.out], bl2 _ _ _⟩
theorem strs (xs ys : List Int) : strOfNums xs ++ strOfNums ys = strOfNums (xs ++ ys) := by
  unfold strOfNums
  apply ByteArray.ext
  simp [ByteArray.data_append]
theorem go_bytes (a b : Int) : (⟨#[27, 91]⟩ : ByteArray) ++ dS (a + 1) ++ ⟨#[59]⟩ ++ dS (b + 1) ++ ⟨#[72]⟩ = strOfNums (btL 2 a b) := by
  show strOfNums [27, 91] ++ dS (a + 1) ++ strOfNums [59] ++ dS (b + 1) ++ strOfNums [72] = _
  unfold dS
  simp only [strs]
  unfold btL
  rw [if_pos rfl]
  simp
theorem move_bytes (k a : Int) (h : 3 ≤ k ∧ k ≤ 6) (s : ByteArray) (hs : s = if 1 < a then dS a else ⟨#[]⟩) (b : Int) : (⟨#[27, 91]⟩ : ByteArray) ++ s ++ strOfNums [62 + k] = strOfNums (btL k a b) := by
  subst hs
  show strOfNums [27, 91] ++ (if 1 < a then dS a else strOfNums []) ++ strOfNums [62 + k] = _
  unfold dS btL
  rw [if_neg (show k ≠ 2 by omega), if_pos h.2]
  split
  · simp only [strs]; simp
  · simp only [strs]; simp
end Go.Proofs.YteafbfgmdknaeaaDoor
