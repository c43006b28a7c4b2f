/- Glyphs in plain mathematics: the reference's whole and more. -/
import Derived.Test.YteafbfgmdknaeaaDoorGlS
namespace Go.Proofs.YteafbfgmdknaeaaDoor
open Go.RowKit Go.PlainAid
namespace Gl
def whB (s : ByteArray) : Bool := decide (0 ≤ valI s) && (vld (valI s) && (putS (valI s)).toList == s.toList)
def whR (s : ByteArray) : Int := if valI s < 0 then 0 else valI s
theorem valI_bd (s : ByteArray) (z1 : 1 ≤ s.size) (z4 : s.size ≤ 4) : -1 ≤ valI s ∧ valI s ≤ 100000000 := by
  have b0 := bt_nonneg s 0
  have b0' := bt_le s 0
  have b1 := bt_nonneg s 1
  have b1' := bt_le s 1
  have b2 := bt_nonneg s 2
  have b2' := bt_le s 2
  have b3 := bt_nonneg s 3
  have b3' := bt_le s 3
  unfold valI
  by_cases h1 : s.size = 1
  · rw [if_pos h1]; omega
  rw [if_neg h1]
  split
  · omega
  · rename_i hc
    simp only [badC_iff] at hc
    unfold valAt
    rw [if_neg h1]
    simp only [Nat.zero_add]
    repeat' split
    all_goals omega
/-- The reference's whole tells just whole signs' bytes. -/
theorem whB_iff (s : ByteArray) : whB s = true ↔ okAt s 0 s.size := by
  unfold whB
  rw [Bool.and_eq_true, Bool.and_eq_true, str_eq_of_toList, decide_eq_true_iff, decide_eq_true_iff]
  constructor
  · rintro ⟨h0, hv, he⟩
    have := ok_of_put s 0 (valI s) hv (by rw [he]; omega) (fun k _ => by rw [he, Nat.zero_add])
    rw [he] at this
    exact this.1
  · intro h
    have e : valI s = valAt s 0 s.size := by
      have hl := lo1_hi1 (bt s 0)
      unfold valI
      split
      · rename_i h1; unfold valAt; rw [if_pos h1]
      · rename_i h1
        rw [if_neg]
        simp only [badC_iff]
        unfold okAt at h
        simp only [Nat.zero_add] at h
        omega
    obtain ⟨hv, hs, hb⟩ := put_of_ok s 0 s.size h
    rw [← e] at hv hs hb
    exact ⟨((vld_iff _).1 hv).1, hv, ext_bt _ _ hs (fun k hk => by rw [hb k (by omega), Nat.zero_add])⟩
theorem whR_ok (s : ByteArray) (h : okAt s 0 s.size) : whR s = valAt s 0 s.size := by
  have e : valI s = valAt s 0 s.size := by
    have hl := lo1_hi1 (bt s 0)
    unfold valI
    split
    · rename_i h1; unfold valAt; rw [if_pos h1]
    · rename_i h1
      rw [if_neg]
      simp only [badC_iff]
      unfold okAt at h
      simp only [Nat.zero_add] at h
      omega
  obtain ⟨hv, _, _⟩ := put_of_ok s 0 s.size h
  rw [← e] at hv ⊢
  unfold whR
  rw [if_neg (by have := ((vld_iff _).1 hv).1; omega)]
/-- s with j bytes c behind it. -/
def pad (s : ByteArray) (c : UInt8) (j : Nat) : ByteArray := ⟨(s.data.toList ++ List.replicate j c).toArray⟩
theorem pad_zero (s : ByteArray) (c : UInt8) : pad s c 0 = s := by
  obtain ⟨⟨l⟩⟩ := s
  simp [pad]
theorem pad_size (s : ByteArray) (c : UInt8) (j : Nat) : (pad s c j).size = s.size + j := by
  rw [← size_list, ← size_list]; simp [pad]
theorem pad_succ (s : ByteArray) (c : UInt8) (j : Nat) : pad s c j ++ ⟨#[c]⟩ = pad s c (j + 1) := by
  have : (pad s c j ++ ⟨#[c]⟩).data.toList = (pad s c (j + 1)).data.toList := by
    rw [ByteArray.data_append]
    simp [pad, List.replicate_succ']
  generalize hx : pad s c j ++ ⟨#[c]⟩ = x at this
  generalize hy : pad s c (j + 1) = y at this
  obtain ⟨⟨l⟩⟩ := x; obtain ⟨⟨m⟩⟩ := y
  simp at this
  rw [this]
theorem bt_list (s : ByteArray) (k : Nat) : bt s k = ((s.data.toList.getD k 0).toNat : Int) := by
  unfold bt
  split
  · rename_i h
    have : s.data.toList.getD k 0 = s[k] := by
      rw [List.getD, List.getElem?_eq_getElem (by rw [size_list]; exact h)]
      rfl
    rw [this]
  · rename_i h
    rw [List.getD, List.getElem?_eq_none (by rw [size_list]; omega)]
    rfl
theorem bt_pad (s : ByteArray) (c : UInt8) (j k : Nat) : bt (pad s c j) k = if k < s.size then bt s k else if k < s.size + j then (c.toNat : Int) else 0 := by
  rw [bt_list, bt_list]
  have hl := size_list s
  by_cases h : k < s.size
  · rw [if_pos h]
    simp only [pad]
    rw [List.getD_eq_getElem?_getD, List.getD_eq_getElem?_getD, List.getElem?_append_left (by omega)]
  · rw [if_neg h]
    simp only [pad]
    rw [List.getD_eq_getElem?_getD, List.getElem?_append_right (by omega)]
    by_cases h2 : k < s.size + j
    · rw [if_pos h2, List.getElem?_replicate, if_pos (by omega)]; rfl
    · rw [if_neg h2, List.getElem?_replicate, if_neg (by omega)]; rfl
/-- Either filling of s up to n bytes is a sign's. -/
def tryB (s : ByteArray) (n : Nat) : Bool := whB (pad s 128 (n - s.size)) || whB (pad s 191 (n - s.size))
theorem tryB_iff (s : ByteArray) (n : Nat) (h1 : 1 ≤ s.size) (hn : s.size < n) (h4 : n ≤ 4) : tryB s n = true ↔
    (n = 2 ∧ 194 ≤ bt s 0 ∧ bt s 0 < 224) ∨ (n = 3 ∧ 224 ≤ bt s 0 ∧ bt s 0 < 240 ∧ (2 ≤ s.size → lo1 (bt s 0) ≤ bt s 1 ∧ bt s 1 ≤ hi1 (bt s 0))) ∨
    (n = 4 ∧ 240 ≤ bt s 0 ∧ bt s 0 < 245 ∧ (2 ≤ s.size → lo1 (bt s 0) ≤ bt s 1 ∧ bt s 1 ≤ hi1 (bt s 0)) ∧ (3 ≤ s.size → 128 ≤ bt s 2 ∧ bt s 2 ≤ 191)) := by
  have e : ∀ c, (pad s c (n - s.size)).size = n := fun c => by rw [pad_size]; omega
  unfold tryB
  rw [Bool.or_eq_true, whB_iff, whB_iff, e, e]
  unfold okAt
  simp only [e, bt_pad, Nat.zero_add, if_pos (show 0 < s.size by omega)]
  rw [show ((128 : UInt8).toNat : Int) = 128 from rfl, show ((191 : UInt8).toNat : Int) = 191 from rfl]
  have hl := lo1_hi1 (bt s 0)
  have hn' : s.size + (n - s.size) = n := by omega
  rw [hn']
  rcases (show s.size = 1 ∨ s.size = 2 ∨ s.size = 3 by omega) with z | z | z
  all_goals rw [z] at hn ⊢
  all_goals rcases (show n = 2 ∨ n = 3 ∨ n = 4 by omega) with rfl | rfl | rfl
  all_goals first | (exfalso; omega) | skip
  all_goals simp
  all_goals omega
theorem moreB_try (s : ByteArray) (h1 : 1 ≤ s.size) : moreB s = true ↔ ∃ n, s.size < n ∧ n ≤ 4 ∧ tryB s n = true := by
  have hb0 := bt_nonneg s 0
  have hb1 := bt_le s 0
  unfold moreB
  rw [decide_eq_true_iff]
  have hk : (bt s 0 < 194 ∧ need (bt s 0) = 1) ∨ (194 ≤ bt s 0 ∧ bt s 0 < 224 ∧ need (bt s 0) = 2) ∨ (224 ≤ bt s 0 ∧ bt s 0 < 240 ∧ need (bt s 0) = 3) ∨ (240 ≤ bt s 0 ∧ bt s 0 < 245 ∧ need (bt s 0) = 4) ∨ (245 ≤ bt s 0 ∧ need (bt s 0) = 1) := by
    unfold need
    repeat' split
    all_goals omega
  constructor
  · rintro ⟨_, h2, h3, h5⟩
    refine ⟨(need (bt s 0)).toNat, by omega, by omega, ?_⟩
    rw [tryB_iff s _ h1 (by omega) (by omega)]
    rcases hk with h | h | h | h | h
    · omega
    · exact .inl ⟨by omega, h.1, h.2.1⟩
    · exact .inr (.inl ⟨by omega, h.1, h.2.1, h3⟩)
    · exact .inr (.inr ⟨by omega, h.1, h.2.1, h3, h5⟩)
    · omega
  · rintro ⟨n, hn, h4, ht⟩
    rw [tryB_iff s n h1 hn h4] at ht
    rcases ht with ⟨rfl, a, b⟩ | ⟨rfl, a, b, c⟩ | ⟨rfl, a, b, c, d⟩
    · exact ⟨h1, by omega, fun h => by omega, fun h => by omega⟩
    · exact ⟨h1, by omega, c, fun h => by omega⟩
    · exact ⟨h1, by omega, c, d⟩
end Gl
end Go.Proofs.YteafbfgmdknaeaaDoor
