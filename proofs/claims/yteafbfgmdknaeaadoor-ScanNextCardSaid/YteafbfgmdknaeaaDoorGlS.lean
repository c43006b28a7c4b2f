/- Glyphs in plain mathematics: whole signs' bytes and the numbers that they make, as the reference finds them; a decoding's outcome. -/
import Derived.Test.YteafbfgmdknaeaaDoorGlR
namespace Go.Proofs.YteafbfgmdknaeaaDoor
open Go.RowKit Go.PlainAid
namespace Gl
/-- A byte that is more of a sign's. -/
def badC (b : Int) : Bool := decide (b < 128 ∨ 191 < b)
theorem badC_iff (b : Int) : badC b = true ↔ b < 128 ∨ 191 < b := by simp [badC]
def valI (s : ByteArray) : Int :=
  if s.size = 1 then bt s 0
  else if (s.size = 2 ∧ (bt s 0 < 192 ∨ badC (bt s 1))) ∨ (s.size = 3 ∧ (bt s 0 < 224 ∨ badC (bt s 1) ∨ badC (bt s 2))) ∨ (s.size = 4 ∧ (bt s 0 < 240 ∨ badC (bt s 1) ∨ badC (bt s 2) ∨ badC (bt s 3))) then -1
  else valAt s 0 s.size
theorem valI_1 (s : ByteArray) (h : s.size = 1) : bt s 0 = valI s := by unfold valI; rw [if_pos h]
theorem valI_2 (s : ByteArray) (h : s.size = 2) (h0 : 192 ≤ bt s 0) (h1 : 128 ≤ bt s 1 ∧ bt s 1 ≤ 191) : (bt s 0 - 192) * 64 + bt s 1 - 128 = valI s := by
  unfold valI
  rw [if_neg (by omega), if_neg (by simp only [badC_iff]; omega)]
  unfold valAt
  rw [if_neg (by omega), if_pos h]
  simp only [Nat.zero_add]
  omega
theorem valI_3 (s : ByteArray) (h : s.size = 3) (h0 : 224 ≤ bt s 0) (h1 : 128 ≤ bt s 1 ∧ bt s 1 ≤ 191) (h2 : 128 ≤ bt s 2 ∧ bt s 2 ≤ 191) : ((bt s 0 - 224) * 64 + bt s 1 - 128) * 64 + bt s 2 - 128 = valI s := by
  unfold valI
  rw [if_neg (by omega), if_neg (by simp only [badC_iff]; omega)]
  unfold valAt
  rw [if_neg (by omega), if_neg (by omega), if_pos h]
  simp only [Nat.zero_add]
  omega
theorem valI_4 (s : ByteArray) (h : s.size = 4) (h0 : 240 ≤ bt s 0) (h1 : 128 ≤ bt s 1 ∧ bt s 1 ≤ 191) (h2 : 128 ≤ bt s 2 ∧ bt s 2 ≤ 191) (h3 : 128 ≤ bt s 3 ∧ bt s 3 ≤ 191) : (((bt s 0 - 240) * 64 + bt s 1 - 128) * 64 + bt s 2 - 128) * 64 + bt s 3 - 128 = valI s := by
  unfold valI
  rw [if_neg (by omega), if_neg (by simp only [badC_iff]; omega)]
  unfold valAt
  rw [if_neg (by omega), if_neg (by omega), if_neg (by omega)]
  simp only [Nat.zero_add]
  omega
theorem valI_neg (s : ByteArray) (h : (s.size = 2 ∧ (bt s 0 < 192 ∨ bt s 1 < 128 ∨ 191 < bt s 1)) ∨ (s.size = 3 ∧ (bt s 0 < 224 ∨ bt s 1 < 128 ∨ 191 < bt s 1 ∨ bt s 2 < 128 ∨ 191 < bt s 2)) ∨
    (s.size = 4 ∧ (bt s 0 < 240 ∨ bt s 1 < 128 ∨ 191 < bt s 1 ∨ bt s 2 < 128 ∨ 191 < bt s 2 ∨ bt s 3 < 128 ∨ 191 < bt s 3))) : -1 = valI s := by
  unfold valI
  rw [if_neg (by omega), if_pos (by simp only [badC_iff]; omega)]

/-- The bytes of a sign, by its size. -/
theorem put_form (r : Int) (hv : vld r = true) : (r ≤ 127 ∧ putS r = strOfNums [r]) ∨ (128 ≤ r ∧ r ≤ 2047 ∧ putS r = strOfNums [192 + r / 64, 128 + r % 64]) ∨
    (2048 ≤ r ∧ r ≤ 65535 ∧ putS r = strOfNums [224 + r / 4096, 128 + r / 64 % 64, 128 + r % 64]) ∨ (65536 ≤ r ∧ putS r = strOfNums [240 + r / 262144, 128 + r / 4096 % 64, 128 + r / 64 % 64, 128 + r % 64]) := by
  obtain ⟨h0, h1, _⟩ := (vld_iff r).1 hv
  have hs : r ≤ 127 ∨ (128 ≤ r ∧ r ≤ 2047) ∨ (2048 ≤ r ∧ r ≤ 65535) ∨ (65536 ≤ r) := by omega
  rcases hs with c | ⟨c, c2⟩ | ⟨c, c2⟩ | c
  · exact .inl ⟨c, (put1 r h0 c hv).symm⟩
  · exact .inr (.inl ⟨c, c2, (put2 r h0 c c2 hv).symm⟩)
  · exact .inr (.inr (.inl ⟨c, c2, (put3 r h0 c c2 hv).symm⟩))
  · exact .inr (.inr (.inr ⟨c, (put4 r h0 c hv).symm⟩))
theorem put_size (r : Int) (hv : vld r = true) : 1 ≤ (putS r).size ∧ (putS r).size ≤ 4 := by
  rcases put_form r hv with ⟨_, e⟩ | ⟨_, _, e⟩ | ⟨_, _, e⟩ | ⟨_, e⟩ <;> rw [e, strOfNums_size] <;> simp
theorem lo1_hi1 (b : Int) : (b = 224 ∧ lo1 b = 160 ∧ hi1 b = 191) ∨ (b = 240 ∧ lo1 b = 144 ∧ hi1 b = 191) ∨ (b = 237 ∧ lo1 b = 128 ∧ hi1 b = 159) ∨ (b = 244 ∧ lo1 b = 128 ∧ hi1 b = 143) ∨
    (b ≠ 224 ∧ b ≠ 240 ∧ b ≠ 237 ∧ b ≠ 244 ∧ lo1 b = 128 ∧ hi1 b = 191) := by
  unfold lo1 hi1
  by_cases h1 : b = 224
  · subst h1; simp
  by_cases h2 : b = 240
  · subst h2; simp
  by_cases h3 : b = 237
  · subst h3; simp
  by_cases h4 : b = 244
  · subst h4; simp
  simp [h1, h2, h3, h4]
/-- A sign's bytes, wherever they stand, are told by 'okAt', and make that sign. -/
theorem ok_of_put (s : ByteArray) (i : Nat) (r : Int) (hv : vld r = true) (hi : i + (putS r).size ≤ s.size) (hb : ∀ k, k < (putS r).size → bt s (i + k) = bt (putS r) k) :
    okAt s i (putS r).size ∧ valAt s i (putS r).size = r := by
  obtain ⟨h0, h1, h2⟩ := (vld_iff r).1 hv
  rcases put_form r hv with ⟨c, e⟩ | ⟨c, c2, e⟩ | ⟨c, c2, e⟩ | ⟨c, e⟩
  all_goals rw [e, strOfNums_size] at hi hb ⊢; simp only [List.length_cons, List.length_nil, Nat.zero_add, Nat.reduceAdd] at hi hb ⊢
  · have b0 := hb 0 (by omega)
    rw [bt_strOf _ 0 r rfl (by omega)] at b0
    simp only [Nat.add_zero] at b0
    exact ⟨.inl ⟨rfl, hi, by omega⟩, by unfold valAt; rw [if_pos rfl]; exact b0⟩
  · have b0 := hb 0 (by omega)
    have b1 := hb 1 (by omega)
    rw [bt_strOf _ 0 _ rfl (by omega)] at b0
    rw [bt_strOf _ 1 _ rfl (by omega)] at b1
    simp only [Nat.add_zero] at b0
    exact ⟨.inr (.inl ⟨rfl, hi, by omega, by omega, by omega, by omega⟩), by unfold valAt; rw [if_neg (by omega), if_pos rfl]; omega⟩
  · have b0 := hb 0 (by omega)
    have b1 := hb 1 (by omega)
    have b2 := hb 2 (by omega)
    rw [bt_strOf _ 0 _ rfl (by omega)] at b0
    rw [bt_strOf _ 1 _ rfl (by omega)] at b1
    rw [bt_strOf _ 2 _ rfl (by omega)] at b2
    simp only [Nat.add_zero] at b0
    have hl := lo1_hi1 (bt s i)
    exact ⟨.inr (.inr (.inl ⟨rfl, hi, by omega, by omega, by omega, by omega, by omega, by omega⟩)), by unfold valAt; rw [if_neg (by omega), if_neg (by omega), if_pos rfl]; omega⟩
  · have b0 := hb 0 (by omega)
    have b1 := hb 1 (by omega)
    have b2 := hb 2 (by omega)
    have b3 := hb 3 (by omega)
    rw [bt_strOf _ 0 _ rfl (by omega)] at b0
    rw [bt_strOf _ 1 _ rfl (by omega)] at b1
    rw [bt_strOf _ 2 _ rfl (by omega)] at b2
    rw [bt_strOf _ 3 _ rfl (by omega)] at b3
    simp only [Nat.add_zero] at b0
    have hl := lo1_hi1 (bt s i)
    exact ⟨.inr (.inr (.inr ⟨rfl, hi, by omega, by omega, by omega, by omega, by omega, by omega, by omega, by omega⟩)), by unfold valAt; rw [if_neg (by omega), if_neg (by omega), if_neg (by omega)]; omega⟩
/-- And what 'okAt' tells are a sign's bytes. -/
theorem put_of_ok (s : ByteArray) (i n : Nat) (h : okAt s i n) : vld (valAt s i n) = true ∧ (putS (valAt s i n)).size = n ∧ ∀ k, k < n → bt (putS (valAt s i n)) k = bt s (i + k) := by
  have hl := lo1_hi1 (bt s i)
  have z0 := bt_nonneg s i
  have hv : vld (valAt s i n) = true ∧ ((n = 1 ∧ valAt s i n = bt s i ∧ valAt s i n ≤ 127) ∨ (n = 2 ∧ valAt s i n = (bt s i - 192) * 64 + (bt s (i + 1) - 128) ∧ 128 ≤ valAt s i n ∧ valAt s i n ≤ 2047 ∧ 128 ≤ bt s (i + 1) ∧ bt s (i + 1) ≤ 191) ∨
      (n = 3 ∧ valAt s i n = ((bt s i - 224) * 64 + (bt s (i + 1) - 128)) * 64 + (bt s (i + 2) - 128) ∧ 2048 ≤ valAt s i n ∧ valAt s i n ≤ 65535 ∧ 128 ≤ bt s (i + 1) ∧ bt s (i + 1) ≤ 191 ∧ 128 ≤ bt s (i + 2) ∧ bt s (i + 2) ≤ 191) ∨
      (n = 4 ∧ valAt s i n = (((bt s i - 240) * 64 + (bt s (i + 1) - 128)) * 64 + (bt s (i + 2) - 128)) * 64 + (bt s (i + 3) - 128) ∧ 65536 ≤ valAt s i n ∧ 128 ≤ bt s (i + 1) ∧ bt s (i + 1) ≤ 191 ∧ 128 ≤ bt s (i + 2) ∧ bt s (i + 2) ≤ 191 ∧ 128 ≤ bt s (i + 3) ∧ bt s (i + 3) ≤ 191)) := by
    rw [vld_iff]
    rcases h with ⟨rfl, h⟩ | ⟨rfl, h⟩ | ⟨rfl, h⟩ | ⟨rfl, h⟩
    · have e : valAt s i 1 = bt s i := by unfold valAt; rw [if_pos rfl]
      rw [e]; exact ⟨by omega, .inl ⟨rfl, rfl, by omega⟩⟩
    · have e : valAt s i 2 = (bt s i - 192) * 64 + (bt s (i + 1) - 128) := by unfold valAt; rw [if_neg (by omega), if_pos rfl]
      rw [e]; exact ⟨by omega, .inr (.inl ⟨rfl, rfl, by omega, by omega, by omega, by omega⟩)⟩
    · have e : valAt s i 3 = ((bt s i - 224) * 64 + (bt s (i + 1) - 128)) * 64 + (bt s (i + 2) - 128) := by unfold valAt; rw [if_neg (by omega), if_neg (by omega), if_pos rfl]
      rw [e]; exact ⟨by omega, .inr (.inr (.inl ⟨rfl, rfl, by omega, by omega, by omega, by omega, by omega, by omega⟩))⟩
    · have e : valAt s i 4 = (((bt s i - 240) * 64 + (bt s (i + 1) - 128)) * 64 + (bt s (i + 2) - 128)) * 64 + (bt s (i + 3) - 128) := by unfold valAt; rw [if_neg (by omega), if_neg (by omega), if_neg (by omega)]
      rw [e]; exact ⟨by omega, .inr (.inr (.inr ⟨rfl, rfl, by omega, by omega, by omega, by omega, by omega, by omega, by omega⟩))⟩
  obtain ⟨hv, hc⟩ := hv
  generalize valAt s i n = v at hv hc ⊢
  refine ⟨hv, ?_⟩
  rcases hc with ⟨rfl, e, hc⟩ | ⟨rfl, e, hc⟩ | ⟨rfl, e, hc⟩ | ⟨rfl, e, hc⟩
  all_goals rcases put_form v hv with ⟨c, e'⟩ | ⟨c, c2, e'⟩ | ⟨c, c2, e'⟩ | ⟨c, e'⟩
  all_goals first | (exfalso; omega) | skip
  all_goals rw [e', strOfNums_size]
  all_goals refine ⟨rfl, fun k hk => ?_⟩
  · obtain rfl : k = 0 := by omega
    rw [bt_strOf _ 0 _ rfl (by omega)]; simp only [Nat.add_zero]; omega
  · rcases (show k = 0 ∨ k = 1 by omega) with rfl | rfl
    · rw [bt_strOf _ 0 _ rfl (by omega)]; simp only [Nat.add_zero]; omega
    · rw [bt_strOf _ 1 _ rfl (by omega)]; omega
  · rcases (show k = 0 ∨ k = 1 ∨ k = 2 by omega) with rfl | rfl | rfl
    · rw [bt_strOf _ 0 _ rfl (by omega)]; simp only [Nat.add_zero]; omega
    · rw [bt_strOf _ 1 _ rfl (by omega)]; omega
    · rw [bt_strOf _ 2 _ rfl (by omega)]; omega
  · have h1 := (vld_iff v).1 hv
    rcases (show k = 0 ∨ k = 1 ∨ k = 2 ∨ k = 3 by omega) with rfl | rfl | rfl | rfl
    · rw [bt_strOf _ 0 _ rfl (by omega)]; simp only [Nat.add_zero]; omega
    · rw [bt_strOf _ 1 _ rfl (by omega)]; omega
    · rw [bt_strOf _ 2 _ rfl (by omega)]; omega
    · rw [bt_strOf _ 3 _ rfl (by omega)]; omega
end Gl
end Go.Proofs.YteafbfgmdknaeaaDoor
