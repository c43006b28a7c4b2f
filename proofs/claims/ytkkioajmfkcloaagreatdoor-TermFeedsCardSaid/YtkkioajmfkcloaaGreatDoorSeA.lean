/- The contract of the reference's number. -/
import Derived.Test.YtkkioajmfkcloaaGreatDoorMSp
import Derived.Test.YtkkioajmfkcloaaGreatDoorMVr
import Derived.Test.YtkkioajmfkcloaaGreatDoorMGn
set_option linter.unusedVariables false
namespace Go.Proofs.YtkkioajmfkcloaaGreatDoor
open Go.RowKit Go.PlainAid Gl L Vt
namespace Vt
theorem dig_no {x : Int} (h : x < 48 ∨ 57 < x) : dig x = false := by unfold dig; simp; omega
theorem dig_yes {x : Int} (h : 48 ≤ x ∧ x ≤ 57) : dig x = true := by unfold dig; simp; omega
theorem numB_1 (s : ByteArray) (h : s.size = 1) (h0 : 48 ≤ bt s 0 ∧ bt s 0 ≤ 57) : numB s = bt s 0 - 48 := by unfold numB; rw [if_pos ⟨h, dig_yes h0⟩]
theorem numB_2 (s : ByteArray) (h : s.size = 2) (h0 : 48 ≤ bt s 0 ∧ bt s 0 ≤ 57) (h1 : 48 ≤ bt s 1 ∧ bt s 1 ≤ 57) : numB s = (bt s 0 - 48) * 10 + (bt s 1 - 48) := by
  unfold numB; rw [if_neg (by omega), if_pos ⟨h, dig_yes h0, dig_yes h1⟩]
theorem numB_0 (s : ByteArray) (h : s.size = 0 ∨ 2 < s.size) : numB s = -1 := by
  unfold numB; rw [if_neg (by omega), if_neg (by omega)]
theorem numB_a (s : ByteArray) (h0 : bt s 0 < 48 ∨ 57 < bt s 0) : numB s = -1 := by
  unfold numB; rw [if_neg (by rw [dig_no h0]; simp), if_neg (by rw [dig_no h0]; simp)]
theorem numB_b (s : ByteArray) (h : s.size = 2) (h0 : bt s 1 < 48 ∨ 57 < bt s 1) : numB s = -1 := by
  unfold numB; rw [if_neg (by omega), if_neg (by rw [dig_no h0]; simp)]
end Vt
set_option maxHeartbeats 2000000 in
theorem rnumber_any (s : ByteArray) (w : World) (hs : s.size ≤ 100000) : Calls Tryz.prog 98 #[.string s] w fun e w' => e = .returned (.int .i64 (numB s)) ∧ w = w' := by
  have hb := get_bt s
  have b0 := bt_nonneg s 0
  have b1 := bt_le s 0
  have b2 := bt_nonneg s 1
  have b3 := bt_le s 1
  rcases (show s.size = 0 ∨ 2 < s.size ∨ s.size = 1 ∨ s.size = 2 by omega) with h | h | h | h
  · have e := Lib.hid (numB_0 s (.inl h))
    have h1 : ¬ 1 ≤ s.size := by omega
    have h2 : s.size < 1 := by omega
    clear h
    go_enter Tryz.func98, Tryz.ntmps98
    go_wp2
    go_ret
    exact ⟨by rw [e.out]; rfl, rfl⟩
  · have e := Lib.hid (numB_0 s (.inr h))
    go_enter Tryz.func98, Tryz.ntmps98
    go_wp2
    go_ret
    exact ⟨by rw [e.out]; rfl, rfl⟩
  · by_cases h0 : 48 ≤ bt s 0 ∧ bt s 0 ≤ 57
    · have e := Lib.hid (numB_1 s h h0)
      obtain ⟨h1, h2⟩ := h0
      have g1 : ¬ bt s 0 < 48 := by omega
      have g2 : ¬ 57 < bt s 0 := by omega
      go_enter Tryz.func98, Tryz.ntmps98
      go_wp2
      go_rounds 3
      go_ret
      exact ⟨by rw [e.out]; rfl, rfl⟩
    · have e := Lib.hid (numB_a s (by omega))
      rcases (show bt s 0 < 48 ∨ 57 < bt s 0 by omega) with h1 | h1
      · clear h0
        go_enter Tryz.func98, Tryz.ntmps98
        go_wp2
        go_rounds 1
        go_ret
        exact ⟨by rw [e.out]; rfl, rfl⟩
      · have g1 : ¬ bt s 0 < 48 := by omega
        clear h0
        go_enter Tryz.func98, Tryz.ntmps98
        go_wp2
        go_rounds 1
        go_ret
        exact ⟨by rw [e.out]; rfl, rfl⟩
  · by_cases h0 : 48 ≤ bt s 0 ∧ bt s 0 ≤ 57
    · obtain ⟨h1, h2⟩ := h0
      have g1 : ¬ bt s 0 < 48 := by omega
      have g2 : ¬ 57 < bt s 0 := by omega
      by_cases h0 : 48 ≤ bt s 1 ∧ bt s 1 ≤ 57
      · have e := Lib.hid (numB_2 s h ⟨h1, h2⟩ h0)
        obtain ⟨h3, h4⟩ := h0
        have g3 : ¬ bt s 1 < 48 := by omega
        have g4 : ¬ 57 < bt s 1 := by omega
        go_enter Tryz.func98, Tryz.ntmps98
        go_wp2
        go_rounds 3
        go_ret
        refine ⟨?_, rfl⟩
        rw [e.out]
        exact ret_int (by omega)
      · have e := Lib.hid (numB_b s h (by omega))
        rcases (show bt s 1 < 48 ∨ 57 < bt s 1 by omega) with h3 | h3
        · clear h0
          go_enter Tryz.func98, Tryz.ntmps98
          go_wp2
          go_rounds 2
          go_ret
          exact ⟨by rw [e.out]; rfl, rfl⟩
        · have g3 : ¬ bt s 1 < 48 := by omega
          clear h0
          go_enter Tryz.func98, Tryz.ntmps98
          go_wp2
          go_rounds 2
          go_ret
          exact ⟨by rw [e.out]; rfl, rfl⟩
    · have e := Lib.hid (numB_a s (by omega))
      rcases (show bt s 0 < 48 ∨ 57 < bt s 0 by omega) with h1 | h1
      · clear h0
        go_enter Tryz.func98, Tryz.ntmps98
        go_wp2
        go_rounds 1
        go_ret
        exact ⟨by rw [e.out]; rfl, rfl⟩
      · have g1 : ¬ bt s 0 < 48 := by omega
        clear h0
        go_enter Tryz.func98, Tryz.ntmps98
        go_wp2
        go_rounds 1
        go_ret
        exact ⟨by rw [e.out]; rfl, rfl⟩
end Go.Proofs.YtkkioajmfkcloaaGreatDoor
