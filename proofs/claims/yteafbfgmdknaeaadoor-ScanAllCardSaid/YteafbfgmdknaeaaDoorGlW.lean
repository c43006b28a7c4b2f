/- Glyphs in plain mathematics: a decoding's outcome, and the reference's Next. -/
import Derived.Test.YteafbfgmdknaeaaDoorGlU
namespace Go.Proofs.YteafbfgmdknaeaaDoor
open Go.RowKit Go.PlainAid
namespace Gl
/-- The first n bytes of s. -/
def pre (s : ByteArray) (n : Nat) : ByteArray := s.extract 0 n
theorem pre_size (s : ByteArray) (n : Nat) (h : n ≤ s.size) : (pre s n).size = n := by
  unfold pre; simp [ByteArray.size_extract]; omega
theorem bt_pre (s : ByteArray) (n k : Nat) (hn : n ≤ s.size) (h : k < n) : bt (pre s n) k = bt s k := by
  unfold bt
  rw [dif_pos (by rw [pre_size s n hn]; exact h), dif_pos (by omega)]
  unfold pre
  simp [ByteArray.getElem_extract]
theorem ok_pre (s : ByteArray) (n : Nat) (h1 : 1 ≤ n) (hn : n ≤ s.size) (h4 : n ≤ 4) : whB (pre s n) = true ↔ okAt s 0 n := by
  rw [whB_iff, pre_size s n hn]
  unfold okAt
  rw [pre_size s n hn]
  simp only [Nat.zero_add]
  rw [bt_pre s n 0 hn (by omega)]
  rcases (show n = 1 ∨ n = 2 ∨ n = 3 ∨ n = 4 by omega) with rfl | rfl | rfl | rfl
  · omega
  · rw [bt_pre s 2 1 hn (by omega)]; omega
  · rw [bt_pre s 3 1 hn (by omega), bt_pre s 3 2 hn (by omega)]; omega
  · rw [bt_pre s 4 1 hn (by omega), bt_pre s 4 2 hn (by omega), bt_pre s 4 3 hn (by omega)]; omega
theorem ok_one (s : ByteArray) (i n m : Nat) (h : okAt s i n) (h' : okAt s i m) : n = m := by
  have := lo1_hi1 (bt s i)
  rcases h with h | h | h | h <;> rcases h' with h' | h' | h' | h' <;> first | omega
theorem val_pre (s : ByteArray) (n : Nat) (h1 : 1 ≤ n) (hn : n ≤ s.size) (h4 : n ≤ 4) : valAt (pre s n) 0 n = valAt s 0 n := by
  unfold valAt
  simp only [Nat.zero_add]
  rw [bt_pre s n 0 hn (by omega)]
  rcases (show n = 1 ∨ n = 2 ∨ n = 3 ∨ n = 4 by omega) with rfl | rfl | rfl | rfl
  · rfl
  · rw [bt_pre s 2 1 hn (by omega)]; rfl
  · rw [bt_pre s 3 1 hn (by omega), bt_pre s 3 2 hn (by omega)]; rfl
  · rw [bt_pre s 4 1 hn (by omega), bt_pre s 4 2 hn (by omega), bt_pre s 4 3 hn (by omega)]
/-- A decoding's outcome: a whole sign's, or Bad. -/
theorem dec_ok (s : ByteArray) (i n : Nat) (h : okAt s i n) : decR s i = valAt s i n ∧ decN s i = n := by
  have hi : i < s.size := by rcases h with h | h | h | h <;> omega
  have hl := lo1_hi1 (bt s i)
  have z0 := get_bt' s i hi
  unfold decR decN
  rw [Lib.decode_at]
  unfold Lib.decodeN
  rcases h with ⟨rfl, h⟩ | ⟨rfl, h⟩ | ⟨rfl, h⟩ | ⟨rfl, h⟩
  · rw [if_pos (by omega)]
    exact ⟨by unfold valAt; rw [if_pos rfl]; exact z0, rfl⟩
  · have z1 := get_bt' s (i + 1) (by omega)
    rw [if_neg (by omega), if_pos (by omega), if_pos (by omega)]
    exact ⟨by unfold valAt; rw [if_neg (by omega), if_pos rfl]; show (_ : Int) = _; omega, rfl⟩
  · have z1 := get_bt' s (i + 1) (by omega)
    have z2 := get_bt' s (i + 2) (by omega)
    rw [if_neg (by omega), if_neg (by omega), if_pos (by omega), if_pos (by omega)]
    exact ⟨by unfold valAt; rw [if_neg (by omega), if_neg (by omega), if_pos rfl]; show (_ : Int) = _; omega, rfl⟩
  · have z1 := get_bt' s (i + 1) (by omega)
    have z2 := get_bt' s (i + 2) (by omega)
    have z3 := get_bt' s (i + 3) (by omega)
    rw [if_neg (by omega), if_neg (by omega), if_neg (by omega), if_pos (by omega), if_pos (by omega)]
    exact ⟨by unfold valAt; rw [if_neg (by omega), if_neg (by omega), if_neg (by omega)]; show (_ : Int) = _; omega, rfl⟩
set_option maxHeartbeats 2000000 in
theorem dec_bad (s : ByteArray) (i : Nat) (hi : i < s.size) (h : ∀ n, ¬ okAt s i n) : decR s i = 65533 ∧ decN s i = 1 := by
  have hl := lo1_hi1 (bt s i)
  have z0 := get_bt' s i hi
  have h1 := h 1
  have h2 := h 2
  have h3 := h 3
  have h4 := h 4
  unfold okAt at h1 h2 h3 h4
  have z1 : i + 1 < s.size → ((s.get! (i + 1)).toNat : Int) = bt s (i + 1) := get_bt' s (i + 1)
  have z2 : i + 2 < s.size → ((s.get! (i + 2)).toNat : Int) = bt s (i + 2) := get_bt' s (i + 2)
  have z3 : i + 3 < s.size → ((s.get! (i + 3)).toNat : Int) = bt s (i + 3) := get_bt' s (i + 3)
  unfold decR decN
  rw [Lib.decode_at]
  generalize (s.get! i).toNat = c0 at z0 ⊢
  generalize (s.get! (i + 1)).toNat = c1 at z1 ⊢
  generalize (s.get! (i + 2)).toNat = c2 at z2 ⊢
  generalize (s.get! (i + 3)).toNat = c3 at z3 ⊢
  unfold Lib.decodeN
  rw [if_neg (by clear h2 h3 h4; omega)]
  split
  · rename_i c
    rw [if_neg (by clear h1 h3 h4 hl; omega)]; exact ⟨rfl, rfl⟩
  clear h2
  split
  · rename_i c
    have y1 := z1 (by omega)
    have y2 := z2 (by omega)
    rw [if_neg (by clear h1 h4; omega)]; exact ⟨rfl, rfl⟩
  clear h3
  split
  · rename_i c
    have y1 := z1 (by omega)
    have y2 := z2 (by omega)
    have y3 := z3 (by omega)
    rw [if_neg (by clear h1; omega)]; exact ⟨rfl, rfl⟩
  · exact ⟨rfl, rfl⟩
theorem more_not_ok (s : ByteArray) (h : moreB s = true) (n : Nat) : ¬ okAt s 0 n := by
  unfold moreB at h
  rw [decide_eq_true_iff] at h
  obtain ⟨h1, h2, _⟩ := h
  intro ho
  unfold need at h2
  rcases ho with ho | ho | ho | ho
  all_goals (repeat' split at h2)
  all_goals omega
end Gl
end Go.Proofs.YteafbfgmdknaeaaDoor
