/- The reference's scanning in plain mathematics: the command of which bytes may be, whether they are it. -/
import Derived.Test.YteafbfgmdknaeaaDoorScP
set_option linter.unusedVariables false
namespace Go.Proofs.YteafbfgmdknaeaaDoor
open Go.RowKit Go.PlainAid Gl
namespace Vt
theorem ex_data (s : ByteArray) (i j : Nat) : (s.extract i j).data.toList = (s.data.toList.take j).drop i := by
  rw [ByteArray.data_extract]
  simp [Array.toList_extract, List.extract_eq_take_drop, List.drop_take]
theorem strOf_extract (xs : List Int) (i j : Nat) : (strOfNums xs).extract i j = strOfNums ((xs.take j).drop i) := by
  apply ext_list
  rw [ex_data]
  unfold strOfNums
  simp [List.map_drop, List.map_take]
theorem strOf_app (xs ys : List Int) : strOfNums xs ++ strOfNums ys = strOfNums (xs ++ ys) := by
  apply ext_list
  rw [ByteArray.data_append]
  unfold strOfNums
  simp
theorem strOf_inj (xs ys : List Int) (hx : ∀ x ∈ xs, 0 ≤ x ∧ x ≤ 255) (hy : ∀ x ∈ ys, 0 ≤ x ∧ x ≤ 255) (h : strOfNums xs = strOfNums ys) : xs = ys := by
  have hs : xs.length = ys.length := by rw [← strOfNums_size, ← strOfNums_size, h]
  refine List.ext_getElem hs fun j h1 h2 => ?_
  have e1 := bt_list' xs hx j h1
  have e2 := bt_list' ys hy j h2
  rw [h] at e1
  have e := e1.symm.trans e2
  simpa [List.getD, h1, h2] using e
def dig (x : Int) : Bool := decide (48 ≤ x ∧ x ≤ 57)
/-- The number of one or two digits; -1, if it is none. -/
def numB (s : ByteArray) : Int :=
  if s.size = 1 ∧ dig (bt s 0) = true then bt s 0 - 48
  else if s.size = 2 ∧ dig (bt s 0) = true ∧ dig (bt s 1) = true then (bt s 0 - 48) * 10 + (bt s 1 - 48) else -1
theorem numB_dg (n : Int) (h : 0 ≤ n ∧ n ≤ 99) : numB (strOfNums (dg n)) = n := by
  unfold dg
  split
  · have h0 : bt (strOfNums [48 + n]) 0 = 48 + n := bt_strOf _ 0 _ rfl (by omega)
    unfold numB dig
    rw [strOfNums_size, if_pos ⟨rfl, by rw [h0]; simp; omega⟩, h0]
    omega
  · have h0 : bt (strOfNums [48 + n / 10, 48 + n % 10]) 0 = 48 + n / 10 := bt_strOf _ 0 _ rfl (by omega)
    have h1 : bt (strOfNums [48 + n / 10, 48 + n % 10]) 1 = 48 + n % 10 := bt_strOf _ 1 _ rfl (by omega)
    unfold numB dig
    rw [strOfNums_size, if_neg (fun h => by simp at h), if_pos ⟨rfl, by rw [h0]; simp; omega, by rw [h1]; simp; omega⟩, h0, h1]
    omega
/-- The first byte 59. -/
def semi (s : ByteArray) : Option Nat := (List.range s.size).find? fun i => bt s i == 59
theorem semi_at (s : ByteArray) (i : Nat) (hi : i < s.size) (h : bt s i = 59) (hn : ∀ j, j < i → bt s j ≠ 59) : semi s = some i := by
  unfold semi
  rw [List.find?_eq_some_iff_append]
  refine ⟨by simpa using h, List.range i, (List.range' (i + 1) (s.size - i - 1)), ?_, fun j hj => by simpa using hn j (by simpa using hj)⟩
  have e : (i :: List.range' (i + 1) (s.size - i - 1)) = List.range' (0 + i) (s.size - i - 1 + 1) := by rw [Nat.zero_add]; rfl
  rw [List.range_eq_range', List.range_eq_range', e, List.range'_append_1]
  congr 1
  omega
/-- The command of which these may be the bytes. -/
def mbR (s : ByteArray) : Cmd :=
  if s = ⟨#[13]⟩ then (9, 0, 0, 0) else if s = ⟨#[10]⟩ then (10, 0, 0, 0) else if s = ⟨#[8]⟩ then (11, 0, 0, 0) else if s = ⟨#[7]⟩ then (12, 0, 0, 0)
  else if s.size < 3 ∨ bt s 0 ≠ 27 then (1, 0, 0, nextR s)
  else if bt s (s.size - 1) = 75 then (7, 0, 0, 0) else if bt s (s.size - 1) = 74 then (8, 0, 0, 0)
  else if bt s (s.size - 1) = 72 then
    (match semi (s.extract 2 (s.size - 1)) with
    | some i => (2, numB ((s.extract 2 (s.size - 1)).extract 0 i) - 1, numB ((s.extract 2 (s.size - 1)).extract (i + 1) (s.extract 2 (s.size - 1)).size) - 1, 0)
    | none => d0)
  else (bt s (s.size - 1) - 62, if (s.extract 2 (s.size - 1)).size = 0 then 1 else numB (s.extract 2 (s.size - 1)), 0, 0)
def wholeB (s : ByteArray) : Bool := isR (mbR s) && decide (btC (mbR s) = s)
theorem ne_of_first (s : ByteArray) (b : UInt8) (h : bt s 0 ≠ (b.toNat : Int)) : s ≠ ⟨#[b]⟩ := by
  rintro rfl
  exact h (by unfold bt; rfl)
theorem mb_text (a b r : Int) (h : isC 1 a b r = true) : mbR (bts 1 a b r) = (1, 0, 0, r) := by
  rcases (isC_iff 1 a b r).1 h with c | c | c | c
  · have hf := text_first r c.2.1
    have hv := (shw_vld c.2.1).1
    rw [bts_text h]
    unfold mbR
    have e : ∀ b : UInt8, (b.toNat : Int) < 32 → putS r ≠ ⟨#[b]⟩ := fun b hb => ne_of_first _ b (by omega)
    rw [if_neg (e 13 (by decide)), if_neg (e 10 (by decide)), if_neg (e 8 (by decide)), if_neg (e 7 (by decide)), if_pos (.inr (by omega))]
    have := (next_put r hv ⟨#[]⟩).1
    rw [app_nil] at this
    rw [this]
  all_goals omega
theorem strOf_ne (xs : List Int) (b : UInt8) (h : 2 ≤ xs.length) : strOfNums xs ≠ ⟨#[b]⟩ := by
  intro e
  have := congrArg ByteArray.size e
  rw [strOfNums_size] at this
  have h0 : (⟨#[b]⟩ : ByteArray).size = 1 := rfl
  omega
theorem mb_esc (m : List Int) (z : Int) (hm : ∀ x ∈ m, 0 ≤ x ∧ x ≤ 255) (hz : 0 ≤ z ∧ z ≤ 255) : mbR (strOfNums (27 :: 91 :: (m ++ [z]))) =
    if z = 75 then (7, 0, 0, 0) else if z = 74 then (8, 0, 0, 0) else if z = 72 then
      (match semi (strOfNums m) with
      | some i => (2, numB ((strOfNums m).extract 0 i) - 1, numB ((strOfNums m).extract (i + 1) (strOfNums m).size) - 1, 0)
      | none => d0)
    else (z - 62, if m.length = 0 then 1 else numB (strOfNums m), 0, 0) := by
  have hl : (27 :: 91 :: (m ++ [z])).length = m.length + 3 := by simp
  have hb : ∀ x ∈ (27 :: 91 :: (m ++ [z])), (0 : Int) ≤ x ∧ x ≤ 255 := by
    intro x hx
    simp at hx
    rcases hx with rfl | rfl | hx | rfl
    · omega
    · omega
    · exact hm x hx
    · exact hz
  have h0 : bt (strOfNums (27 :: 91 :: (m ++ [z]))) 0 = 27 := bt_strOf _ 0 _ rfl (by omega)
  have hs : (strOfNums (27 :: 91 :: (m ++ [z]))).size = m.length + 3 := by rw [strOfNums_size, hl]
  have hz1 : bt (strOfNums (27 :: 91 :: (m ++ [z]))) (m.length + 3 - 1) = z := by
    rw [bt_list' _ hb _ (by rw [hl]; omega)]
    show (27 :: 91 :: (m ++ [z])).getD (m.length + 2) 0 = z
    simp [List.getD]
  have he : (strOfNums (27 :: 91 :: (m ++ [z]))).extract 2 (m.length + 3 - 1) = strOfNums m := by
    rw [strOf_extract]
    congr 1
    show List.drop 2 (List.take (m.length + 2) (27 :: 91 :: (m ++ [z]))) = m
    simp
  unfold mbR
  rw [if_neg (strOf_ne _ 13 (by omega)), if_neg (strOf_ne _ 10 (by omega)), if_neg (strOf_ne _ 8 (by omega)), if_neg (strOf_ne _ 7 (by omega)), if_neg (by rw [hs, h0]; omega), hs, hz1, he, strOfNums_size]
theorem mb_put (c : Cmd) (h : isR c = true) : mbR (btC c) = c := by
  obtain ⟨k, a, b, r⟩ := c
  have h' : isC k a b r = true := h
  by_cases hk : k = 1
  · subst hk
    have e := mb_text a b r h'
    rcases (isC_iff 1 a b r).1 h' with c | c | c | c
    · obtain ⟨_, _, rfl, rfl⟩ := c
      exact e
    all_goals omega
  · show mbR (bts k a b r) = _
    rw [bts_form h' hk]
    rcases (isC_iff k a b r).1 h' with c | ⟨rfl, c⟩ | c | c
    · omega
    · obtain ⟨c1, c2, c3, c4, rfl⟩ := c
      have da := dg_bd (a + 1) (by omega)
      have db := dg_bd (b + 1) (by omega)
      have e : btL 2 a b = 27 :: 91 :: ((dg (a + 1) ++ 59 :: dg (b + 1)) ++ [72]) := by rw [btL_go]; simp
      have hm : ∀ x ∈ dg (a + 1) ++ 59 :: dg (b + 1), 0 ≤ x ∧ x ≤ 255 := by
        intro x hx
        simp at hx
        rcases hx with hx | rfl | hx
        · have := da x hx; omega
        · omega
        · have := db x hx; omega
      rw [e, mb_esc _ 72 hm (by omega), if_neg (by omega), if_neg (by omega), if_pos rfl]
      have hs : semi (strOfNums (dg (a + 1) ++ 59 :: dg (b + 1))) = some (dg (a + 1)).length := by
        refine semi_at _ _ (by rw [strOfNums_size]; simp) ?_ fun j hj => ?_
        · rw [bt_list' _ hm _ (by simp)]; simp [List.getD]
        · rw [bt_list' _ hm _ (by simp; omega)]
          have : (dg (a + 1) ++ 59 :: dg (b + 1)).getD j 0 = (dg (a + 1))[j] := by simp [List.getD, hj, List.getElem?_append_left hj]
          rw [this]
          have := da _ (List.getElem_mem hj)
          omega
      rw [hs]
      have e1 : (strOfNums (dg (a + 1) ++ 59 :: dg (b + 1))).extract 0 (dg (a + 1)).length = strOfNums (dg (a + 1)) := by rw [strOf_extract]; simp
      have e2 : (strOfNums (dg (a + 1) ++ 59 :: dg (b + 1))).extract ((dg (a + 1)).length + 1) (strOfNums (dg (a + 1) ++ 59 :: dg (b + 1))).size = strOfNums (dg (b + 1)) := by
        rw [strOf_extract, strOfNums_size, List.take_length]
        congr 1
        rw [List.drop_append]
        simp
      simp only [e1, e2, numB_dg (a + 1) (by omega), numB_dg (b + 1) (by omega)]
      rw [show a + 1 - 1 = a by omega, show b + 1 - 1 = b by omega]
    · obtain ⟨c1, c2, c3, c4, rfl, rfl⟩ := c
      have da := dgo_bd a (by omega)
      rw [btL_move k a 0 ⟨c1, c2⟩, mb_esc (dgo a) (62 + k) (fun x hx => by have := da x hx; omega) (by omega), if_neg (by omega), if_neg (by omega), if_neg (by omega), show 62 + k - 62 = k by omega]
      unfold dgo
      by_cases h1 : 1 < a
      · rw [if_pos h1, if_neg (by have := dg_len a; omega), numB_dg a (by omega)]
      · rw [if_neg h1]
        obtain rfl : a = 1 := by omega
        rfl
    · obtain ⟨c1, c2, rfl, rfl, rfl⟩ := c
      rcases btL_one k 0 0 ⟨c1, c2⟩ with ⟨rfl, e⟩ | ⟨rfl, e⟩ | ⟨rfl, e⟩ | ⟨rfl, e⟩ | ⟨rfl, e⟩ | ⟨rfl, e⟩
      · rw [e, show ([27, 91, 75] : List Int) = 27 :: 91 :: ([] ++ [75]) from rfl, mb_esc [] 75 (by simp) (by omega)]; rfl
      · rw [e, show ([27, 91, 74] : List Int) = 27 :: 91 :: ([] ++ [74]) from rfl, mb_esc [] 74 (by simp) (by omega)]; rfl
      all_goals (rw [e]; rfl)
theorem whole_iff (s : ByteArray) : wholeB s = true ↔ ∃ c, isR c = true ∧ btC c = s := by
  unfold wholeB
  rw [Bool.and_eq_true, decide_eq_true_iff]
  constructor
  · exact fun h => ⟨_, h⟩
  · rintro ⟨c, hc, rfl⟩
    rw [mb_put c hc]
    exact ⟨hc, rfl⟩
end Vt
end Go.Proofs.YteafbfgmdknaeaaDoor
