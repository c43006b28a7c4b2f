/- The contract of utf8.FullRuneInString: any string, the two tables of the library laid. -/
import Derived.Test.YtkkioajmfkcloaaDoorMGi
import Derived.Test.YtkkioajmfkcloaaDoorMGp
import Derived.BigQuiet
namespace Go.Proofs.YtkkioajmfkcloaaDoor
open Go.RowKit Go.PlainAid Gl L

set_option maxRecDepth 100000 in
theorem full_at (s : ByteArray) (w : World) (hs : s.size ≤ maxLen) (h1 : 1 ≤ s.size) (X : Int) (hx : w.cell? ⟨3, (bt s 0).toNat, none⟩ = some (.int .u8 X)) (hX : X = 240 ∨ X = 241) :
   Calls Tryd.prog 84 #[.string s] w fun e w' => e = .returned (.bool true) ∧ Below w.heap.size w w' := by
  unfold maxLen at hs
  have hb := get_bt s
  have b0 := bt_nonneg s 0
  have b0' := bt_le s 0
  rcases hX with rfl | rfl
  all_goals
    go_enter Tryd.func84, Tryd.ntmps84
    go_wp2
    all_goals go_ret
    all_goals exact ⟨rfl, Below.refl _ _⟩

set_option maxRecDepth 100000 in
set_option maxHeartbeats 4000000 in
theorem full_go (s : ByteArray) (w : World) (hs : s.size ≤ maxLen) (h1 : 1 ≤ s.size) (X k lo hi : Int) (hx : w.cell? ⟨3, (bt s 0).toNat, none⟩ = some (.int .u8 X))
   (hA : bits BinOp.and IntKind.u8 X 7 = k) (hk : 2 ≤ k ∧ k ≤ 4) (hX : 0 ≤ X / 16 ∧ X / 16 < 16) (hl : w.cell? ⟨4, (X / 16).toNat * 2, none⟩ = some (.int .u8 lo)) (hh : w.cell? ⟨4, (X / 16).toNat * 2 + 1, none⟩ = some (.int .u8 hi)) :
   Calls Tryd.prog 84 #[.string s] w fun e w' => e = .returned (.bool (decide (1 ≤ s.size) && !decide (1 ≤ s.size ∧ (s.size : Int) < k ∧ (2 ≤ s.size → lo ≤ bt s 1 ∧ bt s 1 ≤ hi) ∧ (3 ≤ s.size → 128 ≤ bt s 2 ∧ bt s 2 ≤ 191)))) ∧ Below w.heap.size w w' := by
  unfold maxLen at hs
  have hb := get_bt s
  have b0 := bt_nonneg s 0
  have b0' := bt_le s 0
  obtain ⟨hX0, hX1⟩ := hX
  obtain ⟨hk0, hk1⟩ := hk
  have hc : k ≤ (s.size : Int) ∨ ((s.size : Int) < k ∧ s.size = 1) ∨
     ((s.size : Int) < k ∧ s.size = 2 ∧ bt s 1 < lo) ∨ ((s.size : Int) < k ∧ s.size = 2 ∧ lo ≤ bt s 1 ∧ hi < bt s 1) ∨ ((s.size : Int) < k ∧ s.size = 2 ∧ lo ≤ bt s 1 ∧ bt s 1 ≤ hi) ∨
     ((s.size : Int) < k ∧ s.size = 3 ∧ bt s 1 < lo) ∨ ((s.size : Int) < k ∧ s.size = 3 ∧ lo ≤ bt s 1 ∧ hi < bt s 1) ∨ ((s.size : Int) < k ∧ s.size = 3 ∧ lo ≤ bt s 1 ∧ bt s 1 ≤ hi ∧ bt s 2 < 128) ∨
     ((s.size : Int) < k ∧ s.size = 3 ∧ lo ≤ bt s 1 ∧ bt s 1 ≤ hi ∧ 128 ≤ bt s 2 ∧ 191 < bt s 2) ∨ ((s.size : Int) < k ∧ s.size = 3 ∧ lo ≤ bt s 1 ∧ bt s 1 ≤ hi ∧ 128 ≤ bt s 2 ∧ bt s 2 ≤ 191) := by
    omega
  rcases hc with c | ⟨c, hn⟩ | ⟨c, hn, d1⟩ | ⟨c, hn, d1, d2⟩ | ⟨c, hn, d1, d2⟩ | ⟨c, hn, d1⟩ | ⟨c, hn, d1, d2⟩ | ⟨c, hn, d1, d2, d3⟩ | ⟨c, hn, d1, d2, d3, d4⟩ | ⟨c, hn, d1, d2, d3, d4⟩
  all_goals
    go_enter Tryd.func84, Tryd.ntmps84
    go_wp2
    all_goals try (go_quiet (fail); go_wp2)
    all_goals try (go_quiet (fail); go_wp2)
    all_goals go_ret
    all_goals refine ⟨ret_bool ?_, ?_⟩
    all_goals first | exact finT _ _ _ _ _ _ h1 (by omega) | exact finF _ _ _ _ _ _ (by omega) | skip
    all_goals repeat (first | exact Below.refl _ _ | refine below_drewN ?_ _ | refine Below.drew ?_ | refine Below.alloc ?_ (Nat.le_refl _) _)

theorem full_nil (w : World) : Calls Tryd.prog 84 #[.string ⟨#[]⟩] w fun e w' => e = .returned (.bool false) ∧ Below w.heap.size w w' := by
  go_enter Tryd.func84, Tryd.ntmps84
  go_wp2
  go_ret
  exact ⟨rfl, Below.refl _ _⟩
theorem full_any (s : ByteArray) (w : World) (hs : s.size ≤ maxLen) (T : Tabs w 3 4) :
   Calls Tryd.prog 84 #[.string s] w fun e w' => e = .returned (.bool (fullB s)) ∧ Below w.heap.size w w' := by
  by_cases h1 : 1 ≤ s.size
  · have b0 := bt_nonneg s 0
    have b1 := bt_le s 0
    have hx := T.x (bt s 0) b0 b1
    rcases classes (bt s 0) b0 b1 with ⟨e, k⟩ | ⟨e, k⟩ | ⟨e, k, l, h⟩ | ⟨e, k, l, h⟩ | ⟨e, k, l, h⟩ | ⟨e, k, l, h⟩ | ⟨e, k, l, h⟩ | ⟨e, k, l, h⟩ | ⟨e, k, l, h⟩
    · rw [show fullB s = true from (full_is s _ _ _ k rfl rfl true (finT _ _ _ _ _ _ h1 (by omega))).symm]
      exact full_at s w hs h1 _ hx (by omega)
    · rw [show fullB s = true from (full_is s _ _ _ k rfl rfl true (finT _ _ _ _ _ _ h1 (by omega))).symm]
      exact full_at s w hs h1 _ hx (by omega)
    · rw [e] at hx; rw [← full_is s _ _ _ k l h _ rfl]; exact full_go s w hs h1 _ _ _ _ hx (by decide) (by decide) (by decide) T.a0 T.a1
    · rw [e] at hx; rw [← full_is s _ _ _ k l h _ rfl]; exact full_go s w hs h1 _ _ _ _ hx (by decide) (by decide) (by decide) T.a2 T.a3
    · rw [e] at hx; rw [← full_is s _ _ _ k l h _ rfl]; exact full_go s w hs h1 _ _ _ _ hx (by decide) (by decide) (by decide) T.a4 T.a5
    · rw [e] at hx; rw [← full_is s _ _ _ k l h _ rfl]; exact full_go s w hs h1 _ _ _ _ hx (by decide) (by decide) (by decide) T.a0 T.a1
    · rw [e] at hx; rw [← full_is s _ _ _ k l h _ rfl]; exact full_go s w hs h1 _ _ _ _ hx (by decide) (by decide) (by decide) T.a6 T.a7
    · rw [e] at hx; rw [← full_is s _ _ _ k l h _ rfl]; exact full_go s w hs h1 _ _ _ _ hx (by decide) (by decide) (by decide) T.a0 T.a1
    · rw [e] at hx; rw [← full_is s _ _ _ k l h _ rfl]; exact full_go s w hs h1 _ _ _ _ hx (by decide) (by decide) (by decide) T.a8 T.a9
  · obtain ⟨⟨l⟩⟩ := s
    obtain rfl : l = [] := by
      cases l with
      | nil => rfl
      | cons => exact absurd (by simp [ByteArray.size]) h1
    exact full_nil w
end Go.Proofs.YtkkioajmfkcloaaDoor
