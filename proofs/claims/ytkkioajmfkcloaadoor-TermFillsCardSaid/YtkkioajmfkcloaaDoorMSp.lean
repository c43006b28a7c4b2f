/- Scanning in plain mathematics. -/
import Derived.Test.YtkkioajmfkcloaaDoorMVq
/- The reference's scanning in plain mathematics: the command of which bytes may be, whether they are it. -/
set_option linter.unusedVariables false
namespace Go.Proofs.YtkkioajmfkcloaaDoor
open Go.RowKit Go.PlainAid Gl
namespace Vt
theorem ex_data (s : ByteArray) (i j : Nat) : (s.extract i j).data.toList = (s.data.toList.take j).drop i := by
  rw [ByteArray.data_extract]
  simp [Array.toList_extract, List.extract_eq_take_drop, List.drop_take]
theorem strOf_extract (xs : List Int) (i j : Nat) : (strOfNums xs).extract i j = strOfNums ((xs.take j).drop i) := by
  apply ext_list
  rw [ex_data]
  unfold strOfNums
  simp [List.map_drop, List.map_take]
theorem strOf_app (xs ys : List Int) : strOfNums xs ++ strOfNums ys = strOfNums (xs ++ ys) := by
  apply ext_list
  rw [ByteArray.data_append]
  unfold strOfNums
  simp
theorem strOf_inj (xs ys : List Int) (hx : ∀ x ∈ xs, 0 ≤ x ∧ x ≤ 255) (hy : ∀ x ∈ ys, 0 ≤ x ∧ x ≤ 255) (h : strOfNums xs = strOfNums ys) : xs = ys := by
  have hs : xs.length = ys.length := by rw [← strOfNums_size, ← strOfNums_size, h]
  refine List.ext_getElem hs fun j h1 h2 => ?_
  have e1 := bt_list' xs hx j h1
  have e2 := bt_list' ys hy j h2
  rw [h] at e1
  have e := e1.symm.trans e2
  simpa [List.getD, h1, h2] using e
def dig (x : Int) : Bool := decide (48 ≤ x ∧ x ≤ 57)
/-- The number of one or two digits; -1, if it is none. -/
def numB (s : ByteArray) : Int :=
  if s.size = 1 ∧ dig (bt s 0) = true then bt s 0 - 48
  else if s.size = 2 ∧ dig (bt s 0) = true ∧ dig (bt s 1) = true then (bt s 0 - 48) * 10 + (bt s 1 - 48) else -1
theorem numB_dg (n : Int) (h : 0 ≤ n ∧ n ≤ 99) : numB (strOfNums (dg n)) = n := by
  unfold dg
  split
  · have h0 : bt (strOfNums [48 + n]) 0 = 48 + n := bt_strOf _ 0 _ rfl (by omega)
    unfold numB dig
    rw [strOfNums_size, if_pos ⟨rfl, by rw [h0]; simp; omega⟩, h0]
    omega
  · have h0 : bt (strOfNums [48 + n / 10, 48 + n % 10]) 0 = 48 + n / 10 := bt_strOf _ 0 _ rfl (by omega)
    have h1 : bt (strOfNums [48 + n / 10, 48 + n % 10]) 1 = 48 + n % 10 := bt_strOf _ 1 _ rfl (by omega)
    unfold numB dig
    rw [strOfNums_size, if_neg (fun h => by simp at h), if_pos ⟨rfl, by rw [h0]; simp; omega, by rw [h1]; simp; omega⟩, h0, h1]
    omega
/-- The first byte 59. -/
def semi (s : ByteArray) : Option Nat := (List.range s.size).find? fun i => bt s i == 59
theorem semi_at (s : ByteArray) (i : Nat) (hi : i < s.size) (h : bt s i = 59) (hn : ∀ j, j < i → bt s j ≠ 59) : semi s = some i := by
  unfold semi
  rw [List.find?_eq_some_iff_append]
  refine ⟨by simpa using h, List.range i, (List.range' (i + 1) (s.size - i - 1)), ?_, fun j hj => by simpa using hn j (by simpa using hj)⟩
  have e : (i :: List.range' (i + 1) (s.size - i - 1)) = List.range' (0 + i) (s.size - i - 1 + 1) := by rw [Nat.zero_add]; rfl
  rw [List.range_eq_range', List.range_eq_range', e, List.range'_append_1]
  congr 1
  omega
/-- The command of which these may be the bytes. -/
def mbR (s : ByteArray) : Cmd :=
  if s = ⟨#[13]⟩ then (9, 0, 0, 0) else if s = ⟨#[10]⟩ then (10, 0, 0, 0) else if s = ⟨#[8]⟩ then (11, 0, 0, 0) else if s = ⟨#[7]⟩ then (12, 0, 0, 0)
  else if s.size < 3 ∨ bt s 0 ≠ 27 then (1, 0, 0, nextR s)
  else if bt s (s.size - 1) = 75 then (7, 0, 0, 0) else if bt s (s.size - 1) = 74 then (8, 0, 0, 0)
  else if bt s (s.size - 1) = 72 then
    (match semi (s.extract 2 (s.size - 1)) with
    | some i => (2, numB ((s.extract 2 (s.size - 1)).extract 0 i) - 1, numB ((s.extract 2 (s.size - 1)).extract (i + 1) (s.extract 2 (s.size - 1)).size) - 1, 0)
    | none => d0)
  else (bt s (s.size - 1) - 62, if (s.extract 2 (s.size - 1)).size = 0 then 1 else numB (s.extract 2 (s.size - 1)), 0, 0)
def wholeB (s : ByteArray) : Bool := isR (mbR s) && decide (btC (mbR s) = s)
theorem ne_of_first (s : ByteArray) (b : UInt8) (h : bt s 0 ≠ (b.toNat : Int)) : s ≠ ⟨#[b]⟩ := by
  rintro rfl
  exact h (by unfold bt; rfl)
theorem mb_text (a b r : Int) (h : isC 1 a b r = true) : mbR (bts 1 a b r) = (1, 0, 0, r) := by
  rcases (isC_iff 1 a b r).1 h with c | c | c | c
  · have hf := text_first r c.2.1
    have hv := (shw_vld c.2.1).1
    rw [bts_text h]
    unfold mbR
    have e : ∀ b : UInt8, (b.toNat : Int) < 32 → putS r ≠ ⟨#[b]⟩ := fun b hb => ne_of_first _ b (by omega)
    rw [if_neg (e 13 (by decide)), if_neg (e 10 (by decide)), if_neg (e 8 (by decide)), if_neg (e 7 (by decide)), if_pos (.inr (by omega))]
    have := (next_put r hv ⟨#[]⟩).1
    rw [app_nil] at this
    rw [this]
  all_goals omega
theorem strOf_ne (xs : List Int) (b : UInt8) (h : 2 ≤ xs.length) : strOfNums xs ≠ ⟨#[b]⟩ := by
  intro e
  have := congrArg ByteArray.size e
  rw [strOfNums_size] at this
  have h0 : (⟨#[b]⟩ : ByteArray).size = 1 := rfl
  omega
theorem mb_esc (m : List Int) (z : Int) (hm : ∀ x ∈ m, 0 ≤ x ∧ x ≤ 255) (hz : 0 ≤ z ∧ z ≤ 255) : mbR (strOfNums (27 :: 91 :: (m ++ [z]))) =
    if z = 75 then (7, 0, 0, 0) else if z = 74 then (8, 0, 0, 0) else if z = 72 then
      (match semi (strOfNums m) with
      | some i => (2, numB ((strOfNums m).extract 0 i) - 1, numB ((strOfNums m).extract (i + 1) (strOfNums m).size) - 1, 0)
      | none => d0)
    else (z - 62, if m.length = 0 then 1 else numB (strOfNums m), 0, 0) := by
  have hl : (27 :: 91 :: (m ++ [z])).length = m.length + 3 := by simp
  have hb : ∀ x ∈ (27 :: 91 :: (m ++ [z])), (0 : Int) ≤ x ∧ x ≤ 255 := by
    intro x hx
    simp at hx
    rcases hx with rfl | rfl | hx | rfl
    · omega
    · omega
    · exact hm x hx
    · exact hz
  have h0 : bt (strOfNums (27 :: 91 :: (m ++ [z]))) 0 = 27 := bt_strOf _ 0 _ rfl (by omega)
  have hs : (strOfNums (27 :: 91 :: (m ++ [z]))).size = m.length + 3 := by rw [strOfNums_size, hl]
  have hz1 : bt (strOfNums (27 :: 91 :: (m ++ [z]))) (m.length + 3 - 1) = z := by
    rw [bt_list' _ hb _ (by rw [hl]; omega)]
    show (27 :: 91 :: (m ++ [z])).getD (m.length + 2) 0 = z
    simp [List.getD]
  have he : (strOfNums (27 :: 91 :: (m ++ [z]))).extract 2 (m.length + 3 - 1) = strOfNums m := by
    rw [strOf_extract]
    congr 1
    show List.drop 2 (List.take (m.length + 2) (27 :: 91 :: (m ++ [z]))) = m
    simp
  unfold mbR
  rw [if_neg (strOf_ne _ 13 (by omega)), if_neg (strOf_ne _ 10 (by omega)), if_neg (strOf_ne _ 8 (by omega)), if_neg (strOf_ne _ 7 (by omega)), if_neg (by rw [hs, h0]; omega), hs, hz1, he, strOfNums_size]
theorem mb_put (c : Cmd) (h : isR c = true) : mbR (btC c) = c := by
  obtain ⟨k, a, b, r⟩ := c
  have h' : isC k a b r = true := h
  by_cases hk : k = 1
  · subst hk
    have e := mb_text a b r h'
    rcases (isC_iff 1 a b r).1 h' with c | c | c | c
    · obtain ⟨_, _, rfl, rfl⟩ := c
      exact e
    all_goals omega
  · show mbR (bts k a b r) = _
    rw [bts_form h' hk]
    rcases (isC_iff k a b r).1 h' with c | ⟨rfl, c⟩ | c | c
    · omega
    · obtain ⟨c1, c2, c3, c4, rfl⟩ := c
      have da := dg_bd (a + 1) (by omega)
      have db := dg_bd (b + 1) (by omega)
      have e : btL 2 a b = 27 :: 91 :: ((dg (a + 1) ++ 59 :: dg (b + 1)) ++ [72]) := by rw [btL_go]; simp
      have hm : ∀ x ∈ dg (a + 1) ++ 59 :: dg (b + 1), 0 ≤ x ∧ x ≤ 255 := by
        intro x hx
        simp at hx
        rcases hx with hx | rfl | hx
        · have := da x hx; omega
        · omega
        · have := db x hx; omega
      rw [e, mb_esc _ 72 hm (by omega), if_neg (by omega), if_neg (by omega), if_pos rfl]
      have hs : semi (strOfNums (dg (a + 1) ++ 59 :: dg (b + 1))) = some (dg (a + 1)).length := by
        refine semi_at _ _ (by rw [strOfNums_size]; simp) ?_ fun j hj => ?_
        · rw [bt_list' _ hm _ (by simp)]; simp [List.getD]
        · rw [bt_list' _ hm _ (by simp; omega)]
          have : (dg (a + 1) ++ 59 :: dg (b + 1)).getD j 0 = (dg (a + 1))[j] := by simp [List.getD, hj, List.getElem?_append_left hj]
          rw [this]
          have := da _ (List.getElem_mem hj)
          omega
      rw [hs]
      have e1 : (strOfNums (dg (a + 1) ++ 59 :: dg (b + 1))).extract 0 (dg (a + 1)).length = strOfNums (dg (a + 1)) := by rw [strOf_extract]; simp
      have e2 : (strOfNums (dg (a + 1) ++ 59 :: dg (b + 1))).extract ((dg (a + 1)).length + 1) (strOfNums (dg (a + 1) ++ 59 :: dg (b + 1))).size = strOfNums (dg (b + 1)) := by
        rw [strOf_extract, strOfNums_size, List.take_length]
        congr 1
        rw [List.drop_append]
        simp
      simp only [e1, e2, numB_dg (a + 1) (by omega), numB_dg (b + 1) (by omega)]
      rw [show a + 1 - 1 = a by omega, show b + 1 - 1 = b by omega]
    · obtain ⟨c1, c2, c3, c4, rfl, rfl⟩ := c
      have da := dgo_bd a (by omega)
      rw [btL_move k a 0 ⟨c1, c2⟩, mb_esc (dgo a) (62 + k) (fun x hx => by have := da x hx; omega) (by omega), if_neg (by omega), if_neg (by omega), if_neg (by omega), show 62 + k - 62 = k by omega]
      unfold dgo
      by_cases h1 : 1 < a
      · rw [if_pos h1, if_neg (by have := dg_len a; omega), numB_dg a (by omega)]
      · rw [if_neg h1]
        obtain rfl : a = 1 := by omega
        rfl
    · obtain ⟨c1, c2, rfl, rfl, rfl⟩ := c
      rcases btL_one k 0 0 ⟨c1, c2⟩ with ⟨rfl, e⟩ | ⟨rfl, e⟩ | ⟨rfl, e⟩ | ⟨rfl, e⟩ | ⟨rfl, e⟩ | ⟨rfl, e⟩
      · rw [e, show ([27, 91, 75] : List Int) = 27 :: 91 :: ([] ++ [75]) from rfl, mb_esc [] 75 (by simp) (by omega)]; rfl
      · rw [e, show ([27, 91, 74] : List Int) = 27 :: 91 :: ([] ++ [74]) from rfl, mb_esc [] 74 (by simp) (by omega)]; rfl
      all_goals (rw [e]; rfl)
theorem whole_iff (s : ByteArray) : wholeB s = true ↔ ∃ c, isR c = true ∧ btC c = s := by
  unfold wholeB
  rw [Bool.and_eq_true, decide_eq_true_iff]
  constructor
  · exact fun h => ⟨_, h⟩
  · rintro ⟨c, hc, rfl⟩
    rw [mb_put c hc]
    exact ⟨hc, rfl⟩
end Vt
end Go.Proofs.YtkkioajmfkcloaaDoor
/- What wants more, by the reference: five ends. -/
set_option linter.unusedVariables false
namespace Go.Proofs.YtkkioajmfkcloaaDoor
open Go.RowKit Go.PlainAid Gl
namespace Vt
/-- The five ends that the reference tries. -/
def tails : List ByteArray := [⟨#[91, 65]⟩, ⟨#[65]⟩, ⟨#[59, 49, 72]⟩, ⟨#[49, 72]⟩, ⟨#[72]⟩]
def moreS (s : ByteArray) : Bool := decide (nextE s = 3) || (decide (bt s 0 = 27) && tails.any fun x => wholeB (s ++ x))
theorem ext_pad (s t : ByteArray) (h : s.size ≤ t.size) (hb : ∀ k, k < s.size → bt t k = bt s k) : pre t s.size = s :=
  ext_bt _ _ (pre_size t _ h) fun k hk => by
    rw [pre_size t _ h] at hk
    rw [bt_pre t _ k h hk, hb k hk]
/-- Bytes that want more are a beginning of a sign that is shown. -/
theorem more_shown (s : ByteArray) (h1 : 1 ≤ s.size) (hm : moreB s = true) : ∃ r t, Wd.shw r = true ∧ t.size ≠ 0 ∧ putS r = s ++ t := by
  obtain ⟨n, hn, h4, ht⟩ := (moreB_try s h1).1 hm
  have hi := (tryB_iff s n h1 hn h4).1 ht
  have gen : ∀ c : UInt8, okAt (pad s c (n - s.size)) 0 n → 160 ≤ valAt (pad s c (n - s.size)) 0 n → ∃ r t, Wd.shw r = true ∧ t.size ≠ 0 ∧ putS r = s ++ t := fun c ho hv => by
    obtain ⟨v1, v2, v3⟩ := put_of_ok _ 0 n ho
    have hz : (pad s c (n - s.size)).size = n := by rw [pad_size]; omega
    have e : putS (valAt (pad s c (n - s.size)) 0 n) = pad s c (n - s.size) := ext_bt _ _ (by rw [v2, hz]) fun k hk => by
      rw [v3 k (by omega), Nat.zero_add]
    have hp := pre_app (pad s c (n - s.size)) s.size (by omega)
    rw [ext_pad s _ (by omega) (fun k hk => by rw [bt_pad, if_pos hk])] at hp
    refine ⟨_, suf (pad s c (n - s.size)) s.size, ?_, by rw [suf_size]; omega, e.trans hp⟩
    unfold Wd.shw
    rw [v1]
    simp
    omega
  have hl := lo1_hi1 (bt s 0)
  rcases hi with ⟨rfl, a, b⟩ | ⟨rfl, a, b, c⟩ | ⟨rfl, a, b, c, d⟩
  · have z : s.size = 1 := by omega
    have ho : okAt (pad s 191 (2 - s.size)) 0 2 := by
      have e0 : bt (pad s 191 (2 - s.size)) 0 = bt s 0 := by rw [bt_pad, if_pos (by omega)]
      have e1 : bt (pad s 191 (2 - s.size)) 1 = 191 := by rw [bt_pad, if_neg (by omega), if_pos (by omega)]; rfl
      refine .inr (.inl ⟨rfl, by rw [pad_size]; omega, by rw [e0]; exact a, by rw [e0]; exact b, by rw [Nat.zero_add, e1]; omega, by rw [Nat.zero_add, e1]; omega⟩)
    refine gen 191 ho ?_
    have e0 : bt (pad s 191 (2 - s.size)) 0 = bt s 0 := by rw [bt_pad, if_pos (by omega)]
    have e1 : bt (pad s 191 (2 - s.size)) 1 = 191 := by rw [bt_pad, if_neg (by omega), if_pos (by omega)]; rfl
    unfold valAt
    rw [if_neg (by omega), if_pos rfl, Nat.zero_add, e0, e1]
    omega
  · have hv : ∀ t : ByteArray, okAt t 0 3 → 160 ≤ valAt t 0 3 := fun t ho => by
      have := lo1_hi1 (bt t 0)
      unfold valAt
      rw [if_neg (by omega), if_neg (by omega), if_pos rfl]
      rcases ho with ho | ho | ho | ho
      · omega
      · omega
      · simp only [Nat.zero_add] at ho ⊢; omega
      · omega
    unfold tryB at ht
    have hz : ∀ c, (pad s c (3 - s.size)).size = 3 := fun c => by rw [pad_size]; omega
    rw [Bool.or_eq_true, whB_iff, whB_iff, hz, hz] at ht
    rcases ht with ht | ht
    · exact gen 128 ht (hv _ ht)
    · exact gen 191 ht (hv _ ht)
  · have hv : ∀ t : ByteArray, okAt t 0 4 → 160 ≤ valAt t 0 4 := fun t ho => by
      have := lo1_hi1 (bt t 0)
      unfold valAt
      rw [if_neg (by omega), if_neg (by omega), if_neg (by omega)]
      rcases ho with ho | ho | ho | ho
      · omega
      · omega
      · omega
      · simp only [Nat.zero_add] at ho ⊢; omega
    unfold tryB at ht
    have hz : ∀ c, (pad s c (4 - s.size)).size = 4 := fun c => by rw [pad_size]; omega
    rw [Bool.or_eq_true, whB_iff, whB_iff, hz, hz] at ht
    rcases ht with ht | ht
    · exact gen 128 ht (hv _ ht)
    · exact gen 191 ht (hv _ ht)
theorem moreS_more (s : ByteArray) (h1 : 1 ≤ s.size) (h : moreS s = true) : More s := by
  unfold moreS at h
  rw [Bool.or_eq_true, Bool.and_eq_true, decide_eq_true_iff, decide_eq_true_iff, List.any_eq_true] at h
  rcases h with h | ⟨_, x, hx, hw⟩
  · have hm : moreB s = true := by
      unfold nextE at h
      rw [if_neg (by omega)] at h
      cases hq : moreB s
      · rw [hq] at h; simp at h
      · rfl
    obtain ⟨r, t, hs, ht, e⟩ := more_shown s h1 hm
    have hc : isC 1 0 0 r = true := by unfold isC; rw [if_pos rfl, hs]; rfl
    exact ⟨by omega, (1, 0, 0, r), t, hc, ht, (bts_text hc).trans e⟩
  · obtain ⟨c, hc, e⟩ := (whole_iff _).1 hw
    refine ⟨by omega, c, x, hc, ?_, e⟩
    simp [tails] at hx
    rcases hx with rfl | rfl | rfl | rfl | rfl
    all_goals decide
/-- A whole command behind one of the five ends. -/
theorem tail_yes (p : List Int) (x : List Int) (c : Cmd) (hx : strOfNums x ∈ tails) (hc : isR c = true) (hk : c.1 ≠ 1) (h : btL c.1 c.2.1 c.2.2.1 = 27 :: (p ++ x)) : moreS (strOfNums (27 :: p)) = true := by
  unfold moreS
  rw [Bool.or_eq_true, Bool.and_eq_true, decide_eq_true_iff, decide_eq_true_iff, List.any_eq_true]
  refine .inr ⟨bt_strOf _ 0 _ rfl (by omega), _, hx, (whole_iff _).2 ⟨c, hc, ?_⟩⟩
  rw [strOf_app]
  exact (bts_form hc hk).trans (by rw [h]; rfl)
theorem t1 : strOfNums [91, 65] ∈ tails := by unfold tails; simp [strOfNums]
theorem t2 : strOfNums [65] ∈ tails := by unfold tails; simp [strOfNums]
theorem t3 : strOfNums [59, 49, 72] ∈ tails := by unfold tails; simp [strOfNums]
theorem t4 : strOfNums [49, 72] ∈ tails := by unfold tails; simp [strOfNums]
theorem t5 : strOfNums [72] ∈ tails := by unfold tails; simp [strOfNums]
end Vt
end Go.Proofs.YtkkioajmfkcloaaDoor
/- What the reference's Next tells, and that it is what the chapter says; all bytes are scanned. -/
set_option linter.unusedVariables false
namespace Go.Proofs.YtkkioajmfkcloaaDoor
open Go.RowKit Go.PlainAid Gl
namespace Vt
theorem isC_mv (a : Int) (h : 1 ≤ a ∧ a ≤ 80) : isR (3, a, 0, 0) = true := (isC_iff 3 a 0 0).2 (.inr (.inr (.inl ⟨by omega, by omega, h.1, h.2, rfl, rfl⟩)))
theorem isC_go (a b : Int) (h : 0 ≤ a ∧ a ≤ 23) (h' : 0 ≤ b ∧ b ≤ 79) : isR (2, a, b, 0) = true := (isC_iff 2 a b 0).2 (.inr (.inl ⟨rfl, h.1, h.2, h'.1, h'.2, rfl⟩))
theorem dg1 (n : Int) (h : n < 10) : dg n = [48 + n] := by unfold dg; rw [if_pos h]
theorem dg2 (n : Int) (h : ¬ n < 10) : dg n = [48 + n / 10, 48 + n % 10] := by unfold dg; rw [if_neg h]
theorem m1 : moreS (strOfNums [27]) = true := tail_yes [] [91, 65] (3, 1, 0, 0) t1 (isC_mv 1 (by omega)) (by decide) (by rw [btL_move 3 1 0 (by omega)]; rfl)
theorem m2 : moreS (strOfNums [27, 91]) = true := tail_yes [91] [65] (3, 1, 0, 0) t2 (isC_mv 1 (by omega)) (by decide) (by rw [btL_move 3 1 0 (by omega)]; rfl)
theorem btL_mv (a : Int) (h : 1 < a) : btL 3 a 0 = 27 :: 91 :: (dg a ++ [65]) := by
  rw [btL_move 3 a 0 (by omega)]
  unfold dgo
  rw [if_pos h]
  rfl
theorem m3 (q : Int) (h : 1 ≤ q ∧ q ≤ 9) : moreS (strOfNums [27, 91, 48 + q]) = true := by
  by_cases h1 : q = 1
  · subst h1
    exact tail_yes [91, 49] [59, 49, 72] (2, 0, 0, 0) t3 (isC_go 0 0 (by omega) (by omega)) (by decide) rfl
  · exact tail_yes [91, 48 + q] [65] (3, q, 0, 0) t2 (isC_mv q (by omega)) (show (3 : Int) ≠ 1 by decide) (by rw [btL_mv q (by omega), dg1 q (by omega)]; rfl)
theorem m4 (q : Int) (h : 10 ≤ q ∧ q ≤ 80) : moreS (strOfNums [27, 91, 48 + q / 10, 48 + q % 10]) = true :=
  tail_yes [91, 48 + q / 10, 48 + q % 10] [65] (3, q, 0, 0) t2 (isC_mv q (by omega)) (show (3 : Int) ≠ 1 by decide) (by rw [btL_mv q (by omega), dg2 q (by omega)]; rfl)
theorem g1 (a : Int) (h : 0 ≤ a ∧ a ≤ 23) : moreS (strOfNums (27 :: 91 :: (dg (a + 1) ++ [59]))) = true :=
  tail_yes (91 :: (dg (a + 1) ++ [59])) [49, 72] (2, a, 0, 0) t4 (isC_go a 0 h (by omega)) (show (2 : Int) ≠ 1 by decide) (by rw [btL_go, show dg (0 + 1) = [49] from rfl]; simp)
theorem g2 (a b : Int) (h : 0 ≤ a ∧ a ≤ 23) (h' : 0 ≤ b ∧ b ≤ 79) : moreS (strOfNums (27 :: 91 :: (dg (a + 1) ++ 59 :: dg (b + 1)))) = true :=
  tail_yes (91 :: (dg (a + 1) ++ 59 :: dg (b + 1))) [72] (2, a, b, 0) t5 (isC_go a b h h') (show (2 : Int) ≠ 1 by decide) (by rw [btL_go]; simp)
/-- The numbers of a command that is no text, cut behind so many. -/
theorem more_cut (k a b r : Int) (h : isC k a b r = true) (hk : k ≠ 1) (n : Nat) (h1 : 1 ≤ n) (hn : n < (btL k a b).length) : moreS (strOfNums ((btL k a b).take n)) = true := by
  rcases (isC_iff k a b r).1 h with c | ⟨rfl, c1, c2, c3, c4, rfl⟩ | ⟨c1, c2, c3, c4, rfl, rfl⟩ | c
  · omega
  · rw [btL_go] at hn ⊢
    by_cases ha : a + 1 < 10
    · have G1 := g1 a ⟨c1, c2⟩
      rw [dg1 _ ha] at hn G1 ⊢
      by_cases hb : b + 1 < 10
      · have G2 := g2 a b ⟨c1, c2⟩ ⟨c3, c4⟩
        rw [dg1 _ ha, dg1 _ hb] at G2
        rw [dg1 _ hb] at hn ⊢
        simp at hn
        rcases (show n = 1 ∨ n = 2 ∨ n = 3 ∨ n = 4 ∨ n = 5 by omega) with rfl | rfl | rfl | rfl | rfl
        · exact m1
        · exact m2
        · exact m3 (a + 1) (by omega)
        · exact G1
        · exact G2
      · have G2 := g2 a b ⟨c1, c2⟩ ⟨c3, c4⟩
        have G3 := g2 a ((b + 1) / 10 - 1) ⟨c1, c2⟩ (by omega)
        rw [dg1 _ ha, dg2 _ hb] at G2
        rw [dg1 _ ha, show (b + 1) / 10 - 1 + 1 = (b + 1) / 10 by omega, dg1 _ (show (b + 1) / 10 < 10 by omega)] at G3
        rw [dg2 _ hb] at hn ⊢
        simp at hn
        rcases (show n = 1 ∨ n = 2 ∨ n = 3 ∨ n = 4 ∨ n = 5 ∨ n = 6 by omega) with rfl | rfl | rfl | rfl | rfl | rfl
        · exact m1
        · exact m2
        · exact m3 (a + 1) (by omega)
        · exact G1
        · exact G3
        · exact G2
    · have G1 := g1 a ⟨c1, c2⟩
      rw [dg2 _ ha] at hn G1 ⊢
      by_cases hb : b + 1 < 10
      · have G2 := g2 a b ⟨c1, c2⟩ ⟨c3, c4⟩
        rw [dg2 _ ha, dg1 _ hb] at G2
        rw [dg1 _ hb] at hn ⊢
        simp at hn
        rcases (show n = 1 ∨ n = 2 ∨ n = 3 ∨ n = 4 ∨ n = 5 ∨ n = 6 by omega) with rfl | rfl | rfl | rfl | rfl | rfl
        · exact m1
        · exact m2
        · exact m3 ((a + 1) / 10) (by omega)
        · exact m4 (a + 1) (by omega)
        · exact G1
        · exact G2
      · have G2 := g2 a b ⟨c1, c2⟩ ⟨c3, c4⟩
        have G3 := g2 a ((b + 1) / 10 - 1) ⟨c1, c2⟩ (by omega)
        rw [dg2 _ ha, dg2 _ hb] at G2
        rw [dg2 _ ha, show (b + 1) / 10 - 1 + 1 = (b + 1) / 10 by omega, dg1 _ (show (b + 1) / 10 < 10 by omega)] at G3
        rw [dg2 _ hb] at hn ⊢
        simp at hn
        rcases (show n = 1 ∨ n = 2 ∨ n = 3 ∨ n = 4 ∨ n = 5 ∨ n = 6 ∨ n = 7 by omega) with rfl | rfl | rfl | rfl | rfl | rfl | rfl
        · exact m1
        · exact m2
        · exact m3 ((a + 1) / 10) (by omega)
        · exact m4 (a + 1) (by omega)
        · exact G1
        · exact G3
        · exact G2
  · rw [btL_move k a 0 ⟨c1, c2⟩] at hn ⊢
    by_cases h1' : 1 < a
    · rw [show dgo a = dg a by unfold dgo; rw [if_pos h1']] at hn ⊢
      by_cases ha : a < 10
      · rw [dg1 _ ha] at hn ⊢
        simp at hn
        rcases (show n = 1 ∨ n = 2 ∨ n = 3 by omega) with rfl | rfl | rfl
        · exact m1
        · exact m2
        · exact m3 a (by omega)
      · rw [dg2 _ ha] at hn ⊢
        simp at hn
        rcases (show n = 1 ∨ n = 2 ∨ n = 3 ∨ n = 4 by omega) with rfl | rfl | rfl | rfl
        · exact m1
        · exact m2
        · exact m3 (a / 10) (by omega)
        · exact m4 a (by omega)
    · rw [show dgo a = [] by unfold dgo; rw [if_neg h1']] at hn ⊢
      simp at hn
      rcases (show n = 1 ∨ n = 2 by omega) with rfl | rfl
      · exact m1
      · exact m2
  · rcases btL_one k a b ⟨c.1, c.2.1⟩ with ⟨_, e⟩ | ⟨_, e⟩ | ⟨_, e⟩ | ⟨_, e⟩ | ⟨_, e⟩ | ⟨_, e⟩
    all_goals (rw [e] at hn ⊢; simp at hn)
    · rcases (show n = 1 ∨ n = 2 by omega) with rfl | rfl
      · exact m1
      · exact m2
    · rcases (show n = 1 ∨ n = 2 by omega) with rfl | rfl
      · exact m1
      · exact m2
    all_goals omega
theorem more_moreS (s : ByteArray) (h : More s) : moreS s = true := by
  obtain ⟨h0, ⟨k, a, b, r⟩, t, hd, ht, he⟩ := h
  have hz := congrArg ByteArray.size he
  rw [size_app] at hz
  have hs : s = pre (btC (k, a, b, r)) s.size := by
    obtain ⟨e, _⟩ := app_inj _ _ _ _ (he.symm.trans (pre_app (btC (k, a, b, r)) s.size (by omega))) (by rw [pre_size _ _ (by omega)])
    exact e
  have hd' : isC k a b r = true := hd
  by_cases hk : k = 1
  · subst hk
    rcases (isC_iff 1 a b r).1 hd' with c | c | c | c
    · have e : btC (1, a, b, r) = putS r := bts_text hd'
      rw [e] at hs hz
      unfold moreS
      rw [Bool.or_eq_true, decide_eq_true_iff]
      left
      rw [hs]
      exact put_more r (shw_vld c.2.1).1 s.size (by omega) (by omega)
    all_goals omega
  · have e : btC (k, a, b, r) = strOfNums (btL k a b) := bts_form hd' hk
    rw [e] at hs hz
    have hp : pre (strOfNums (btL k a b)) s.size = strOfNums ((btL k a b).take s.size) := by
      unfold pre; rw [strOf_extract]; simp
    rw [hp] at hs
    rw [hs]
    rw [strOfNums_size] at hz
    exact more_cut k a b r hd' hk s.size (by omega) (by omega)
/-- What the reference's Next tells. -/
def nxS (s : ByteArray) : Cmd × ByteArray × Int :=
  if s.size = 0 then (d0, ⟨#[]⟩, 6) else
    match (List.range' 1 (min 8 s.size)).find? (fun n => wholeB (pre s n)) with
    | some n => (mbR (pre s n), suf s n, 0)
    | none => if moreS s then (d0, ⟨#[]⟩, 3) else (d0, ⟨#[]⟩, 2)
theorem nxS_is (s : ByteArray) : NxR s (nxS s).1 (nxS s).2.1 (nxS s).2.2 := by
  unfold nxS
  split
  · rename_i h0
    exact .inr ⟨rfl, rfl, .inl ⟨rfl, of_size_zero s h0⟩⟩
  · rename_i h0
    split
    · rename_i n hf
      have hw := List.find?_some hf
      have hm := List.mem_of_find?_eq_some hf
      rw [List.mem_range'_1] at hm
      simp only [wholeB, Bool.and_eq_true, decide_eq_true_iff] at hw
      refine .inl ⟨rfl, hw.1, ?_⟩
      rw [hw.2]
      exact pre_app s n (by omega)
    · rename_i hf
      have hn : ∀ d t, isR d = true → s ≠ btC d ++ t := by
        rintro d t hd rfl
        have h1 := btC_one d hd
        have h8 := btC_size d
        rw [List.find?_eq_none] at hf
        have hx := hf (btC d).size (by rw [List.mem_range'_1, size_app]; omega)
        refine hx ((whole_iff _).2 ⟨d, hd, ?_⟩)
        obtain ⟨e, _⟩ := app_inj _ _ _ _ (pre_app (btC d ++ t) (btC d).size (by rw [size_app]; omega)) (by rw [pre_size _ _ (by rw [size_app]; omega)])
        exact e
      split
      · rename_i hq
        exact .inr ⟨rfl, rfl, .inr (.inl ⟨rfl, moreS_more s (by omega) hq⟩)⟩
      · rename_i hq
        refine .inr ⟨rfl, rfl, .inr (.inr ⟨rfl, h0, hn, fun d t hd he => ?_⟩)⟩
        by_cases ht : t.size = 0
        · refine hn d ⟨#[]⟩ hd ?_
          rw [of_size_zero t ht, app_nil] at he
          rw [app_nil, he]
        · exact hq (more_moreS s ⟨h0, d, t, hd, ht, he⟩)
theorem nx_one {s : ByteArray} {c : Cmd} {x : ByteArray} {e : Int} (h : NxR s c x e) : (nxS s) = (c, x, e) := by
  obtain ⟨h1, h2, h3⟩ := (nxS_is s).one h
  rw [← h1, ← h2, ← h3]
/-- Each row of bytes is whole commands and a stop, or ends badly. -/
theorem all_some : ∀ (n : Nat) (s : ByteArray), s.size ≤ n → (∃ l x, AllR s l x) ∨ AllBad s
  | n, s, hn => by
    rcases nxS_is s with ⟨_, hc, hs⟩ | ⟨_, _, h⟩
    · have h1 := btC_one _ hc
      have hz : s.size = (btC (nxS s).1).size + (nxS s).2.1.size := (congrArg ByteArray.size hs).trans (size_app _ _)
      match n with
      | 0 => omega
      | n + 1 =>
        have hr : ∀ c ∈ [(nxS s).1], isR c = true := fun c hc' => by simp at hc'; rw [hc']; exact hc
        have e : btsL [(nxS s).1] ++ (nxS s).2.1 = s := by rw [show btsL [(nxS s).1] = btC (nxS s).1 from app_nil _]; exact hs.symm
        rcases all_some n (nxS s).2.1 (by omega) with ⟨l, x, h⟩ | h
        · have h' := h.ahead hr
          rw [e] at h'
          exact .inl ⟨_, _, h'⟩
        · have h' := h.ahead hr
          rw [e] at h'
          exact .inr h'
    · rcases h with ⟨_, h⟩ | ⟨_, h⟩ | ⟨_, h⟩
      · exact .inl ⟨[], s, fun _ h => (List.not_mem_nil h).elim, (nil_app s).symm, .inl (by rw [h]; rfl)⟩
      · exact .inl ⟨[], s, fun _ h => (List.not_mem_nil h).elim, (nil_app s).symm, .inr h⟩
      · exact .inr ⟨[], s, fun _ h => (List.not_mem_nil h).elim, (nil_app s).symm, h⟩
end Vt
end Go.Proofs.YtkkioajmfkcloaaDoor
/- How the program reads a command, in plain mathematics: what it tells is what the chapter says. -/
set_option linter.unusedVariables false
namespace Go.Proofs.YtkkioajmfkcloaaDoor
open Go.RowKit Go.PlainAid Gl
namespace Vt
/-- What a reader tells: a value and what is left, or why it gives up. -/
abbrev PR (α : Type) : Type := ByteArray → Except Int (α × ByteArray)
def yes {α : Type} (v : α) : PR α := fun t => .ok (v, t)
def no {α : Type} (e : Int) : PR α := fun _ => .error e
def bnd {α β : Type} (f : PR α) (g : α → PR β) : PR β := fun s => match f s with | .ok (v, t) => g v t | .error e => .error e
def tkP : PR Int := fun s => if s.size = 0 then .error 3 else .ok (bt s 0, suf s 1)
def lp : Nat → Int → PR (Int × Int)
  | 0, _ => no 2
  | k + 1, n => bnd tkP fun b => if b < 48 ∨ 57 < b then yes (n, b) else if 80 < 10 * n + (b - 48) then no 2 else lp k (10 * n + (b - 48))
def numP (f : Int) : PR (Int × Int) := if f < 49 ∨ 57 < f then no 2 else lp 2 (f - 48)
def plP (row : Int) : PR Cmd := if 24 < row then no 2 else bnd tkP fun b => bnd (numP b) fun q => if q.2 = 72 then yes (2, row - 1, q.1 - 1, 0) else no 2
def mvC (b n : Int) : Cmd := (3 + (b - 65), n, 0, 0)
def nbP (b : Int) : PR Cmd := bnd (numP b) fun q => if 65 ≤ q.2 ∧ q.2 ≤ 68 then (if q.1 = 1 then no 2 else yes (mvC q.2 q.1)) else if q.2 = 59 then plP q.1 else no 2
def sqP : PR Cmd := bnd tkP fun a => if a = 91 then bnd tkP (fun b => if b = 75 then yes (7, 0, 0, 0) else if b = 74 then yes (8, 0, 0, 0) else if 65 ≤ b ∧ b ≤ 68 then yes (mvC b 1) else nbP b) else no 2
def txP : PR Cmd := fun s => if nextE s ≠ 0 then .error (nextE s) else if (nextR s = 65533 ∧ nextN s = 1) ∨ Wd.shw (nextR s) = false then .error 2 else .ok ((1, 0, 0, nextR s), suf s (nextN s))
def ctP : PR Cmd := bnd tkP fun b => if b = 27 then sqP else if b = 13 then yes (9, 0, 0, 0) else if b = 10 then yes (10, 0, 0, 0) else if b = 8 then yes (11, 0, 0, 0) else if b = 7 then yes (12, 0, 0, 0) else no 2
def cmP : PR Cmd := fun s => if 32 ≤ bt s 0 then txP s else ctP s
/-! Where bytes are cut. -/
def Cut {α : Type} (f : PR α) : Prop := ∀ x y v r, f (x ++ y) = .ok (v, r) → (∃ z, f x = .ok (v, z) ∧ r = z ++ y) ∨ f x = .error 3
def Ext {α : Type} (f : PR α) : Prop := ∀ x y v z, f x = .ok (v, z) → f (x ++ y) = .ok (v, z ++ y)
theorem suf_app (x y : ByteArray) (n : Nat) (h : n ≤ x.size) : suf (x ++ y) n = suf x n ++ y := by
  apply ext_list
  rw [suf_data, ByteArray.data_append, ByteArray.data_append, Array.toList_append, Array.toList_append, suf_data, List.drop_append_of_le_length (by rw [size_list]; exact h)]
theorem tk_app (x y : ByteArray) (h : x.size ≠ 0) : tkP (x ++ y) = .ok (bt x 0, suf x 1 ++ y) := by
  unfold tkP
  rw [if_neg (by rw [size_app]; omega), bt_append, if_pos (by omega), suf_app x y 1 (by omega)]
theorem tk_ne (x : ByteArray) (h : x.size ≠ 0) : tkP x = .ok (bt x 0, suf x 1) := by unfold tkP; rw [if_neg h]
theorem tk_nil (x : ByteArray) (h : x.size = 0) : tkP x = .error 3 := by unfold tkP; rw [if_pos h]
theorem cut_tk : Cut tkP := by
  intro x y v r h
  by_cases h0 : x.size = 0
  · exact .inr (tk_nil x h0)
  · rw [tk_app x y h0] at h
    injection h with h; injection h with h1 h2
    subst h1 h2
    exact .inl ⟨_, tk_ne x h0, rfl⟩
theorem cut_yes {α : Type} (v : α) : Cut (yes v) := by
  intro x y u r h
  injection h with h; injection h with h1 h2
  subst h1 h2
  exact .inl ⟨_, rfl, rfl⟩
theorem cut_no {α : Type} (e : Int) : Cut (no e : PR α) := fun x y u r h => by cases h
theorem cut_bnd {α β : Type} {f : PR α} {g : α → PR β} (hf : Cut f) (hg : ∀ v, Cut (g v)) : Cut (bnd f g) := by
  intro x y u r h
  unfold bnd at h ⊢
  cases hx : f (x ++ y) with
  | error e => rw [hx] at h; cases h
  | ok p =>
    obtain ⟨v, t⟩ := p
    rw [hx] at h
    rcases hf x y v t hx with ⟨z, e, rfl⟩ | e
    · rw [e]; exact hg v z y u r h
    · rw [e]; exact .inr rfl
theorem cut_ite {α : Type} {p : Prop} [Decidable p] {f g : PR α} (hf : Cut f) (hg : Cut g) : Cut (if p then f else g) := by split <;> assumption
theorem cut_lp : ∀ k n, Cut (lp k n)
  | 0, _ => cut_no _
  | k + 1, n => cut_bnd cut_tk fun b => cut_ite (cut_yes _) (cut_ite (cut_no _) (cut_lp k _))
theorem cut_num (f : Int) : Cut (numP f) := cut_ite (cut_no _) (cut_lp 2 _)
theorem cut_pl (f : Int) : Cut (plP f) := cut_ite (cut_no _) (cut_bnd cut_tk fun b => cut_bnd (cut_num b) fun q => cut_ite (cut_yes _) (cut_no _))
theorem cut_nb (f : Int) : Cut (nbP f) := cut_bnd (cut_num f) fun q => cut_ite (cut_ite (cut_no _) (cut_yes _)) (cut_ite (cut_pl _) (cut_no _))
theorem cut_sq : Cut sqP := cut_bnd cut_tk fun b => cut_ite (cut_bnd cut_tk fun c => cut_ite (cut_yes _) (cut_ite (cut_yes _) (cut_ite (cut_yes _) (cut_nb _)))) (cut_no _)
theorem cut_ct : Cut ctP := cut_bnd cut_tk fun b => cut_ite cut_sq (cut_ite (cut_yes _) (cut_ite (cut_yes _) (cut_ite (cut_yes _) (cut_ite (cut_yes _) (cut_no _)))))
/-! What is put is read. -/
theorem strOf_cons (x : Int) (l : List Int) : strOfNums (x :: l) = strOfNums [x] ++ strOfNums l := (strOf_app [x] l).symm
theorem strOf_nil : strOfNums [] = ⟨#[]⟩ := rfl
theorem tk_one (x : Int) (t : ByteArray) (h : 0 ≤ x ∧ x ≤ 255) : tkP (strOfNums [x] ++ t) = .ok (x, t) := by
  have h0 : bt (strOfNums [x]) 0 = x := bt_strOf _ 0 _ rfl h
  have h1 : (strOfNums [x]).size = 1 := strOfNums_size [x]
  rw [tk_app _ _ (by omega), h0]
  have : suf (strOfNums [x]) 1 = ⟨#[]⟩ := of_size_zero _ (by rw [suf_size]; omega)
  rw [this, nil_app]
theorem bnd_one {β : Type} (g : Int → PR β) (x : Int) (l : List Int) (t : ByteArray) (h : 0 ≤ x ∧ x ≤ 255) : bnd tkP g (strOfNums (x :: l) ++ t) = g x (strOfNums l ++ t) := by
  unfold bnd
  rw [strOf_cons, app_assoc, tk_one x _ h]
theorem dg_cut (n : Int) (h : 1 ≤ n ∧ n ≤ 80) : (n < 10 ∧ dg n = [48 + n]) ∨ (10 ≤ n ∧ dg n = [48 + n / 10, 48 + n % 10]) := by
  by_cases h1 : n < 10
  · exact .inl ⟨h1, dg1 n h1⟩
  · exact .inr ⟨by omega, dg2 n h1⟩
theorem num_dg (n b : Int) (h : 1 ≤ n ∧ n ≤ 80) (hb : 0 ≤ b ∧ b ≤ 255) (hn : b < 48 ∨ 57 < b) : ∃ f r, dg n = f :: r ∧ 49 ≤ f ∧ f ≤ 57 ∧ ∀ l t, numP f (strOfNums (r ++ b :: l) ++ t) = .ok ((n, b), strOfNums l ++ t) := by
  rcases dg_cut n h with ⟨h1, e⟩ | ⟨h1, e⟩
  · refine ⟨_, _, e, by omega, by omega, fun l t => ?_⟩
    unfold numP
    rw [if_neg (by omega), List.nil_append]
    show bnd tkP _ _ = _
    rw [bnd_one _ _ _ _ hb, if_pos hn, show 48 + n - 48 = n by omega]
    rfl
  · refine ⟨_, _, e, by omega, by omega, fun l t => ?_⟩
    unfold numP
    rw [if_neg (by omega)]
    show bnd tkP _ (strOfNums ((48 + n % 10) :: b :: l) ++ t) = _
    rw [bnd_one _ _ _ _ (by omega), if_neg (by omega), if_neg (by omega)]
    show bnd tkP _ _ = _
    rw [bnd_one _ _ _ _ hb, if_pos hn, show 10 * (48 + n / 10 - 48) + (48 + n % 10 - 48) = n by omega]
    rfl
theorem bnd_ok {α β : Type} {f : PR α} {g : α → PR β} {s t : ByteArray} {v : α} (h : f s = .ok (v, t)) : bnd f g s = g v t := by unfold bnd; rw [h]
theorem ct_put (k a b r : Int) (h : isC k a b r = true) (hk : k ≠ 1) (t : ByteArray) : ctP (strOfNums (btL k a b) ++ t) = .ok ((k, a, b, r), t) := by
  unfold ctP
  rcases (isC_iff k a b r).1 h with c | ⟨rfl, c1, c2, c3, c4, rfl⟩ | ⟨c1, c2, c3, c4, rfl, rfl⟩ | ⟨c1, c2, rfl, rfl, rfl⟩
  · omega
  · obtain ⟨f, p, e, f1, f2, hp⟩ := num_dg (a + 1) 59 (by omega) (by omega) (by omega)
    obtain ⟨g, q, e', g1, g2, hq⟩ := num_dg (b + 1) 72 (by omega) (by omega) (by omega)
    rw [btL_go, e, e', bnd_one _ _ _ _ (by omega), if_pos rfl]
    unfold sqP
    rw [bnd_one _ _ _ _ (by omega), if_pos rfl, show (f :: p) ++ 59 :: (g :: q ++ [72]) = f :: (p ++ 59 :: (g :: q ++ [72])) from rfl, bnd_one _ _ _ _ (by omega), if_neg (by omega), if_neg (by omega), if_neg (by omega)]
    unfold nbP
    rw [bnd_ok (hp _ _)]
    dsimp only
    rw [if_neg (by omega), if_pos rfl]
    unfold plP
    rw [if_neg (by omega), show g :: q ++ [72] = g :: (q ++ [72]) from rfl, bnd_one _ _ _ _ (by omega), bnd_ok (hq _ _)]
    dsimp only
    rw [if_pos rfl, strOf_nil, nil_app, show a + 1 - 1 = a by omega, show b + 1 - 1 = b by omega]
    rfl
  · rw [btL_move k a 0 (by omega), bnd_one _ _ _ _ (by omega), if_pos rfl]
    unfold sqP
    rw [bnd_one _ _ _ _ (by omega), if_pos rfl]
    unfold dgo
    by_cases h1 : 1 < a
    · obtain ⟨f, p, e, f1, f2, hp⟩ := num_dg a (62 + k) (by omega) (by omega) (by omega)
      rw [if_pos h1, e, show (f :: p) ++ [62 + k] = f :: (p ++ [62 + k]) from rfl, bnd_one _ _ _ _ (by omega), if_neg (by omega), if_neg (by omega), if_neg (by omega)]
      unfold nbP
      rw [bnd_ok (hp _ _)]
      simp only
      rw [if_pos (by omega), if_neg (by omega), strOf_nil, nil_app]
      unfold mvC yes
      rw [show 3 + (62 + k - 65) = k by omega]
    · obtain rfl : a = 1 := by omega
      rw [if_neg h1, List.nil_append, bnd_one _ _ _ _ (by omega), if_neg (by omega), if_neg (by omega), if_pos (by omega), strOf_nil, nil_app]
      unfold mvC yes
      rw [show 3 + (62 + k - 65) = k by omega]
  · rcases btL_one k 0 0 ⟨c1, c2⟩ with ⟨rfl, e⟩ | ⟨rfl, e⟩ | ⟨rfl, e⟩ | ⟨rfl, e⟩ | ⟨rfl, e⟩ | ⟨rfl, e⟩
    · rw [e, bnd_one _ _ _ _ (by omega), if_pos rfl]
      unfold sqP
      rw [bnd_one _ _ _ _ (by omega), if_pos rfl, bnd_one _ _ _ _ (by omega), if_pos rfl, strOf_nil, nil_app]; rfl
    · rw [e, bnd_one _ _ _ _ (by omega), if_pos rfl]
      unfold sqP
      rw [bnd_one _ _ _ _ (by omega), if_pos rfl, bnd_one _ _ _ _ (by omega), if_neg (by omega), if_pos rfl, strOf_nil, nil_app]; rfl
    all_goals (rw [e, bnd_one _ _ _ _ (by omega)]; rw [strOf_nil, nil_app]; rfl)
theorem bnd_no {α β : Type} {f : PR α} {g : α → PR β} {s : ByteArray} {e : Int} (h : f s = .error e) : bnd f g s = .error e := by unfold bnd; rw [h]
theorem bnd_inv {α β : Type} {f : PR α} {g : α → PR β} {s t : ByteArray} {u : β} (h : bnd f g s = .ok (u, t)) : ∃ v x, f s = .ok (v, x) ∧ g v x = .ok (u, t) := by
  unfold bnd at h
  cases e : f s with
  | error e' => rw [e] at h; cases h
  | ok p => obtain ⟨v, x⟩ := p; rw [e] at h; exact ⟨v, x, rfl, h⟩
theorem bnd_err {α β : Type} {f : PR α} {g : α → PR β} {s : ByteArray} {k : Int} (h : bnd f g s = .error k) : f s = .error k ∨ ∃ v x, f s = .ok (v, x) ∧ g v x = .error k := by
  unfold bnd at h
  cases e : f s with
  | error e' => rw [e] at h; injection h with h; subst h; exact .inl rfl
  | ok p => obtain ⟨v, x⟩ := p; rw [e] at h; exact .inr ⟨v, x, rfl, h⟩
theorem tk_inv {s t : ByteArray} {b : Int} (h : tkP s = .ok (b, t)) : s = strOfNums [b] ++ t ∧ 0 ≤ b ∧ b ≤ 255 := by
  unfold tkP at h
  split at h
  · cases h
  · injection h with h; injection h with h1 h2
    subst h1 h2
    refine ⟨?_, bt_nonneg s 0, bt_le s 0⟩
    have e : pre s 1 = strOfNums [bt s 0] := by
      refine ext_bt _ _ (by rw [pre_size s 1 (by omega), strOfNums_size]; rfl) fun k hk => ?_
      rw [pre_size s 1 (by omega)] at hk
      obtain rfl : k = 0 := by omega
      rw [bt_pre s 1 0 (by omega) (by omega), bt_strOf _ 0 _ rfl ⟨bt_nonneg s 0, bt_le s 0⟩]
    rw [← e]
    exact pre_app s 1 (by omega)
theorem tk_err {s : ByteArray} {k : Int} (h : tkP s = .error k) : k = 3 ∧ s = ⟨#[]⟩ := by
  unfold tkP at h
  split at h
  · rename_i h0
    injection h with h
    exact ⟨h.symm, of_size_zero s h0⟩
  · cases h
/-- What a number is read from: its digits, and the byte behind it. -/
def NumR (d : List Int) (s : ByteArray) (R : Except Int ((Int × Int) × ByteArray)) : Prop :=
  (∃ n b ds t, R = .ok ((n, b), t) ∧ d ++ ds = dg n ∧ s = strOfNums ds ++ (strOfNums [b] ++ t) ∧ 1 ≤ n ∧ n ≤ 80 ∧ 0 ≤ b ∧ b ≤ 255 ∧ (b < 48 ∨ 57 < b)) ∨ (R = .error 3 ∧ ∃ n ds, d ++ ds = dg n ∧ s = strOfNums ds ∧ 1 ≤ n ∧ n ≤ 80) ∨ R = .error 2
theorem lp_at (k : Nat) (n : Int) (s : ByteArray) : lp (k + 1) n s = bnd tkP (fun b => if b < 48 ∨ 57 < b then yes (n, b) else if 80 < 10 * n + (b - 48) then no 2 else lp k (10 * n + (b - 48))) s := rfl
theorem lp_inv (k : Nat) (n : Int) (s : ByteArray) (h1 : 1 ≤ n ∧ n ≤ 80) (hk : 2 ≤ k ∨ 1 ≤ k ∧ 10 ≤ n) : NumR (dg n) s (lp k n s) := by
  have one : ∀ k n s, 1 ≤ n ∧ n ≤ 80 → (∀ b t, 48 ≤ b → b ≤ 57 → 10 * n + (b - 48) ≤ 80 → s = strOfNums [b] ++ t → NumR (dg n ++ [b]) t (lp k (10 * n + (b - 48)) t)) → NumR (dg n) s (lp (k + 1) n s) := by
    intro k n s h1 hr
    rw [lp_at]
    cases e : tkP s with
    | error k =>
      obtain ⟨rfl, rfl⟩ := tk_err e
      rw [bnd_no e]
      exact .inr (.inl ⟨rfl, n, [], by simp, rfl, h1⟩)
    | ok p =>
      obtain ⟨b, t⟩ := p
      obtain ⟨hs, b0, b1⟩ := tk_inv e
      rw [bnd_ok e]
      by_cases hb : b < 48 ∨ 57 < b
      · rw [if_pos hb]
        exact .inl ⟨n, b, [], t, rfl, by simp, by rw [strOf_nil, nil_app]; exact hs, h1.1, h1.2, b0, b1, hb⟩
      · rw [if_neg hb]
        by_cases h8 : 80 < 10 * n + (b - 48)
        · rw [if_pos h8]; exact .inr (.inr rfl)
        · rw [if_neg h8]
          rcases hr b t (by omega) (by omega) (by omega) hs with ⟨m, c, ds, u, e1, e2, e3, e4⟩ | ⟨e1, m, ds, e2, e3, e4⟩ | e1
          · exact .inl ⟨m, c, b :: ds, u, e1, by rw [← e2]; simp, by rw [hs, e3, strOf_cons b ds, app_assoc], e4⟩
          · exact .inr (.inl ⟨e1, m, b :: ds, by rw [← e2]; simp, by rw [hs, e3, strOf_cons b ds], e4⟩)
          · exact .inr (.inr e1)
  rcases hk with hk | ⟨hk, hn⟩
  · obtain ⟨k, rfl⟩ : ∃ j, k = j + 1 := ⟨k - 1, by omega⟩
    refine one k n s h1 fun b t hb hb' h8 hs => ?_
    obtain ⟨k, rfl⟩ : ∃ j, k = j + 1 := ⟨k - 1, by omega⟩
    have e : dg n ++ [b] = dg (10 * n + (b - 48)) := by
      rw [dg1 n (by omega), dg2 _ (by omega), show (10 * n + (b - 48)) / 10 = n by omega, show 48 + (10 * n + (b - 48)) % 10 = b by omega]
      rfl
    rw [e]
    refine one k _ t (by omega) fun c u hc hc' h9 _ => ?_
    omega
  · obtain ⟨k, rfl⟩ : ∃ j, k = j + 1 := ⟨k - 1, by omega⟩
    refine one k n s h1 fun c u hc hc' h9 _ => ?_
    omega
theorem num_inv (f : Int) (s : ByteArray) (R : Except Int ((Int × Int) × ByteArray)) (h : numP f s = R) : NumR [f] s R := by
  subst h
  unfold numP
  by_cases hf : f < 49 ∨ 57 < f
  · rw [if_pos hf]; exact .inr (.inr rfl)
  · rw [if_neg hf]
    have := lp_inv 2 (f - 48) s (by omega) (.inl (by omega))
    rw [dg1 _ (by omega), show 48 + (f - 48) = f by omega] at this
    exact this
/-- What a reader tells is so: a right command's bytes stand ahead of what is left; or they are a beginning. -/
def Told (p : List Int) (s : ByteArray) (R : Except Int (Cmd × ByteArray)) : Prop :=
  (∃ c t, R = .ok (c, t) ∧ isR c = true ∧ strOfNums p ++ s = btC c ++ t) ∨ (R = .error 3 ∧ moreS (strOfNums p ++ s) = true) ∨ R = .error 2
theorem Told.ok {p : List Int} {s t : ByteArray} (c : Cmd) (hc : isR c = true) (h : strOfNums p ++ s = btC c ++ t) : Told p s (.ok (c, t)) := .inl ⟨c, t, rfl, hc, h⟩
theorem Told.no {p : List Int} {s : ByteArray} : Told p s (no 2 s) := .inr (.inr rfl)
theorem form_bt (k a b r : Int) (h : isR (k, a, b, r) = true) (hk : k ≠ 1) : btC (k, a, b, r) = strOfNums (btL k a b) := bts_form h hk
theorem isR_one (k : Int) (h : 7 ≤ k ∧ k ≤ 12) : isR (k, 0, 0, 0) = true := (isC_iff k 0 0 0).2 (.inr (.inr (.inr ⟨h.1, h.2, rfl, rfl, rfl⟩)))
theorem isR_mv (k a : Int) (hk : 3 ≤ k ∧ k ≤ 6) (h : 1 ≤ a ∧ a ≤ 80) : isR (k, a, 0, 0) = true := (isC_iff k a 0 0).2 (.inr (.inr (.inl ⟨hk.1, hk.2, h.1, h.2, rfl, rfl⟩)))
theorem mv_told (n b : Int) (ds : List Int) (t : ByteArray) (hn : 1 ≤ n ∧ n ≤ 80) (hb : 65 ≤ b ∧ b ≤ 68) (hd : ds = dgo n) : Told (27 :: 91 :: (ds ++ [b])) t (yes (mvC b n) t) := by
  refine Told.ok _ (isR_mv _ n (by omega) hn) ?_
  unfold mvC
  rw [form_bt _ _ _ _ (isR_mv _ n (by omega) hn) (by omega), btL_move _ n 0 (by omega), hd, show 62 + (3 + (b - 65)) = b by omega]
theorem pl_told (row : Int) (h : 1 ≤ row ∧ row ≤ 80) (s : ByteArray) : Told (27 :: 91 :: (dg row ++ [59])) s (plP row s) := by
  unfold plP
  by_cases hr : 24 < row
  · rw [if_pos hr]; exact Told.no
  rw [if_neg hr]
  cases e : tkP s with
  | error k =>
    obtain ⟨rfl, rfl⟩ := tk_err e
    rw [bnd_no e]
    refine .inr (.inl ⟨rfl, ?_⟩)
    rw [app_nil]
    have := g1 (row - 1) (by omega)
    rw [show row - 1 + 1 = row by omega] at this
    exact this
  | ok p =>
    obtain ⟨b, t⟩ := p
    obtain ⟨hs, b0, b1⟩ := tk_inv e
    rw [bnd_ok e]
    rcases num_inv b t _ rfl with ⟨n, c, ds, u, e1, e2, e3, n1, n2, c0, c1, c2⟩ | ⟨e1, n, ds, e2, e3, n1, n2⟩ | e1
    · rw [bnd_ok e1]
      dsimp only
      by_cases hc : c = 72
      · rw [if_pos hc]
        subst hc
        have hq := isC_go (row - 1) (n - 1) (by omega) (by omega)
        refine Told.ok _ hq ?_
        rw [form_bt _ _ _ _ hq (by decide), btL_go, show row - 1 + 1 = row by omega, show n - 1 + 1 = n by omega, ← e2, hs, e3]
        rw [← app_assoc, ← app_assoc, ← app_assoc, strOf_app, strOf_app, strOf_app]
        simp
      · rw [if_neg hc]; exact Told.no
    · rw [bnd_no e1]
      refine .inr (.inl ⟨rfl, ?_⟩)
      rw [hs, e3, ← app_assoc, strOf_app, strOf_app]
      have := g2 (row - 1) (n - 1) (by omega) (by omega)
      rw [show row - 1 + 1 = row by omega, show n - 1 + 1 = n by omega, ← e2] at this
      simpa using this
    · rw [bnd_no e1]; exact .inr (.inr rfl)
theorem m34 (n : Int) (h : 1 ≤ n ∧ n ≤ 80) : moreS (strOfNums (27 :: 91 :: dg n)) = true := by
  rcases dg_cut n h with ⟨h1, e⟩ | ⟨h1, e⟩
  · rw [e]; exact m3 n (by omega)
  · rw [e]; exact m4 n (by omega)
theorem nb_told (f : Int) (s : ByteArray) : Told (27 :: 91 :: [f]) s (nbP f s) := by
  unfold nbP
  rcases num_inv f s _ rfl with ⟨n, c, ds, u, e1, e2, e3, n1, n2, c0, c1, c2⟩ | ⟨e1, n, ds, e2, e3, n1, n2⟩ | e1
  · rw [bnd_ok e1]
    dsimp only
    have hcut : ∀ R, Told (27 :: 91 :: (dg n ++ [c])) u R → Told (27 :: 91 :: [f]) s R := fun R hR => by
      have e : strOfNums (27 :: 91 :: [f]) ++ s = strOfNums (27 :: 91 :: (dg n ++ [c])) ++ u := by
        rw [e3, ← e2, ← app_assoc, ← app_assoc, strOf_app, strOf_app]; simp
      unfold Told at hR ⊢
      rw [e]; exact hR
    refine hcut _ ?_
    by_cases hc : 65 ≤ c ∧ c ≤ 68
    · rw [if_pos hc]
      by_cases h1 : n = 1
      · rw [if_pos h1]; exact Told.no
      · rw [if_neg h1]
        exact mv_told n c _ u ⟨n1, n2⟩ hc (by unfold dgo; rw [if_pos (by omega)])
    · rw [if_neg hc]
      by_cases h5 : c = 59
      · subst h5
        rw [if_pos rfl]
        exact pl_told n ⟨n1, n2⟩ u
      · rw [if_neg h5]; exact Told.no
  · rw [bnd_no e1]
    refine .inr (.inl ⟨rfl, ?_⟩)
    rw [e3, strOf_app]
    have := m34 n ⟨n1, n2⟩
    rw [← e2] at this
    simpa using this
  · rw [bnd_no e1]; exact .inr (.inr rfl)
theorem sq_told (s : ByteArray) : Told [27] s (sqP s) := by
  unfold sqP
  cases e : tkP s with
  | error k =>
    obtain ⟨rfl, rfl⟩ := tk_err e
    rw [bnd_no e]
    exact .inr (.inl ⟨rfl, by rw [app_nil]; exact m1⟩)
  | ok p =>
    obtain ⟨a, t⟩ := p
    obtain ⟨hs, -, -⟩ := tk_inv e
    rw [bnd_ok e]
    by_cases ha : a = 91
    · subst ha
      rw [if_pos rfl]
      cases e' : tkP t with
      | error k =>
        obtain ⟨rfl, rfl⟩ := tk_err e'
        rw [bnd_no e']
        refine .inr (.inl ⟨rfl, ?_⟩)
        rw [hs, app_nil, strOf_app]
        exact m2
      | ok p =>
        obtain ⟨b, u⟩ := p
        obtain ⟨ht, b0, b1⟩ := tk_inv e'
        rw [bnd_ok e']
        have hcut : ∀ R, Told [27, 91, b] u R → Told [27] s R := fun R hR => by
          have e : strOfNums [27] ++ s = strOfNums [27, 91, b] ++ u := by rw [hs, ht, ← app_assoc, ← app_assoc, strOf_app, strOf_app]; simp
          unfold Told at hR ⊢
          rw [e]; exact hR
        refine hcut _ ?_
        by_cases h1 : b = 75
        · subst h1; rw [if_pos rfl]; exact Told.ok (7, 0, 0, 0) (isR_one 7 (by omega)) (by rw [form_bt _ _ _ _ (isR_one 7 (by omega)) (by decide)]; rfl)
        rw [if_neg h1]
        by_cases h2 : b = 74
        · subst h2; rw [if_pos rfl]; exact Told.ok (8, 0, 0, 0) (isR_one 8 (by omega)) (by rw [form_bt _ _ _ _ (isR_one 8 (by omega)) (by decide)]; rfl)
        rw [if_neg h2]
        by_cases h3 : 65 ≤ b ∧ b ≤ 68
        · rw [if_pos h3]; exact mv_told 1 b [] u (by omega) h3 rfl
        · rw [if_neg h3]; exact nb_told b u
    · rw [if_neg ha]; exact Told.no
theorem nil_pre (s : ByteArray) : strOfNums [] ++ s = s := nil_app s
theorem ct_told (s : ByteArray) (h : s.size ≠ 0) : Told [] s (ctP s) := by
  unfold ctP
  rw [bnd_ok (tk_ne s h)]
  obtain ⟨hs, -, -⟩ := tk_inv (tk_ne s h)
  generalize bt s 0 = b at *
  generalize suf s 1 = t at *
  have hcut : ∀ R, Told [b] t R → Told [] s R := fun R hR => by
    unfold Told at hR ⊢
    rw [nil_pre, hs]; exact hR
  refine hcut _ ?_
  by_cases h0 : b = 27
  · subst h0; rw [if_pos rfl]; exact sq_told t
  rw [if_neg h0]
  by_cases h1 : b = 13
  · subst h1; rw [if_pos rfl]; exact Told.ok (9, 0, 0, 0) (isR_one 9 (by omega)) (by rw [form_bt _ _ _ _ (isR_one 9 (by omega)) (by decide)]; rfl)
  rw [if_neg h1]
  by_cases h1 : b = 10
  · subst h1; rw [if_pos rfl]; exact Told.ok (10, 0, 0, 0) (isR_one 10 (by omega)) (by rw [form_bt _ _ _ _ (isR_one 10 (by omega)) (by decide)]; rfl)
  rw [if_neg h1]
  by_cases h1 : b = 8
  · subst h1; rw [if_pos rfl]; exact Told.ok (11, 0, 0, 0) (isR_one 11 (by omega)) (by rw [form_bt _ _ _ _ (isR_one 11 (by omega)) (by decide)]; rfl)
  rw [if_neg h1]
  by_cases h1 : b = 7
  · subst h1; rw [if_pos rfl]; exact Told.ok (12, 0, 0, 0) (isR_one 12 (by omega)) (by rw [form_bt _ _ _ _ (isR_one 12 (by omega)) (by decide)]; rfl)
  rw [if_neg h1]
  exact Told.no
/-! Text; the whole. -/
theorem tx_told (s : ByteArray) (h : s.size ≠ 0) : Told [] s (txP s) := by
  unfold txP
  by_cases he : nextE s = 0
  · rw [if_neg (by omega)]
    by_cases hb : (nextR s = 65533 ∧ nextN s = 1) ∨ Wd.shw (nextR s) = false
    · rw [if_pos hb]; exact .inr (.inr rfl)
    · rw [if_neg hb]
      have hm : moreB s = false := by
        unfold nextE at he
        rw [if_neg h] at he
        cases e : moreB s
        · rfl
        · rw [e] at he; simp at he
      obtain ⟨n1, n2, -⟩ := next_ok s (by omega) hm
      by_cases hn : ∃ n, okAt s 0 n
      · obtain ⟨n, hn⟩ := hn
        obtain ⟨d1, d2⟩ := dec_ok s 0 n hn
        obtain ⟨p1, p2, p3⟩ := put_of_ok s 0 n hn
        have hle : n ≤ s.size := by unfold okAt at hn; omega
        rw [n1, n2, d1, d2] at hb ⊢
        have hs : Wd.shw (valAt s 0 n) = true := by
          cases e : Wd.shw (valAt s 0 n)
          · exact absurd (.inr e) hb
          · rfl
        have hc : isC 1 0 0 (valAt s 0 n) = true := (isC_iff 1 0 0 _).2 (.inl ⟨rfl, hs, rfl, rfl⟩)
        refine Told.ok (1, 0, 0, valAt s 0 n) hc ?_
        rw [nil_pre, show btC (1, 0, 0, valAt s 0 n) = putS (valAt s 0 n) from bts_text hc]
        have e : putS (valAt s 0 n) = pre s n := by
          refine ext_bt _ _ (by rw [p2, pre_size s n hle]) fun k hk => ?_
          rw [p2] at hk
          rw [bt_pre s n k hle hk, p3 k hk, Nat.zero_add]
        rw [e]
        exact pre_app s n hle
      · obtain ⟨d1, d2⟩ := dec_bad s 0 (by omega) (fun n hh => hn ⟨n, hh⟩)
        exact absurd (.inl ⟨n1.trans d1, n2.trans d2⟩) hb
  · rw [if_pos he]
    unfold nextE at he ⊢
    rw [if_neg h] at he ⊢
    cases e : moreB s
    · rw [e] at he; simp at he
    · refine .inr (.inl ⟨rfl, ?_⟩)
      rw [nil_pre]
      unfold moreS nextE
      rw [if_neg h, e]
      rfl
theorem cm_told (s : ByteArray) (h : s.size ≠ 0) : Told [] s (cmP s) := by
  unfold cmP
  split
  · exact tx_told s h
  · exact ct_told s h
theorem bt_app0 (x y : ByteArray) (h : x.size ≠ 0) : bt (x ++ y) 0 = bt x 0 := by rw [bt_append, if_pos (by omega)]
theorem cm_put (c : Cmd) (hc : isR c = true) (t : ByteArray) : cmP (btC c ++ t) = .ok (c, t) := by
  obtain ⟨k, a, b, r⟩ := c
  have h1 := btC_one _ hc
  have h' : isC k a b r = true := hc
  unfold cmP
  rw [bt_app0 _ _ (by omega)]
  by_cases hk : k = 1
  · subst hk
    rcases (isC_iff 1 a b r).1 h' with ⟨-, hs, rfl, rfl⟩ | c | c | c
    · have e : btC (1, 0, 0, r) = putS r := bts_text h'
      have hf := text_first r hs
      have hv := (shw_vld hs).1
      obtain ⟨n1, n2, n3⟩ := next_put r hv t
      rw [e, if_pos hf]
      unfold txP
      rw [n1, n2, n3, if_neg (by omega), if_neg, suf_append]
      rintro (⟨rfl, h⟩ | h)
      · exact absurd h (by decide +kernel)
      · rw [hs] at h; cases h
    all_goals omega
  · have e := form_bt k a b r hc hk
    have hf := bts_first k a b r h' hk
    rw [show bts k a b r = btC (k, a, b, r) from rfl] at hf
    rw [if_neg (by omega), e]
    exact ct_put k a b r h' hk t
theorem cm_more (c : Cmd) (hc : isR c = true) (x y : ByteArray) (hx : x.size ≠ 0) (hy : y.size ≠ 0) (h : btC c = x ++ y) : cmP x = .error 3 := by
  have hp := cm_put c hc ⟨#[]⟩
  rw [app_nil, h] at hp
  have hf := bt_app0 x y hx
  rw [← h] at hf
  obtain ⟨k, a, b, r⟩ := c
  have h' : isC k a b r = true := hc
  unfold cmP at hp ⊢
  by_cases hk : k = 1
  · subst hk
    rcases (isC_iff 1 a b r).1 h' with ⟨-, hs, rfl, rfl⟩ | c | c | c
    · have e : btC (1, 0, 0, r) = putS r := bts_text h'
      have hv := (shw_vld hs).1
      have h0 := text_first r hs
      rw [e] at h hf
      have hz := congrArg ByteArray.size h
      rw [size_app] at hz
      have hxp : x = pre (putS r) x.size := by
        obtain ⟨q, _⟩ := app_inj _ _ _ _ (h.symm.trans (pre_app (putS r) x.size (by omega))) (by rw [pre_size _ _ (by omega)])
        exact q
      have hm := put_more r hv x.size (by omega) (by omega)
      rw [← hxp] at hm
      rw [if_pos (by omega)]
      unfold txP
      rw [hm, if_pos (by omega)]
    all_goals omega
  · have h0 := bts_first k a b r h' hk
    rw [show bts k a b r = btC (k, a, b, r) from rfl] at h0
    rw [if_neg (by rw [bt_app0 x y hx]; omega)] at hp
    rw [if_neg (by omega)]
    rcases cut_ct x y _ _ hp with ⟨z, _, e⟩ | e
    · have := congrArg ByteArray.size e
      rw [size_app] at this
      have h0 : (⟨#[]⟩ : ByteArray).size = 0 := rfl
      omega
    · exact e
/-- What the program's Next tells. -/
def nxP (s : ByteArray) : Cmd × ByteArray × Int := if s.size = 0 then (d0, ⟨#[]⟩, 6) else match cmP s with
  | .ok (c, t) => (c, t, 0)
  | .error e => (d0, ⟨#[]⟩, e)
theorem nxP_is (s : ByteArray) : NxR s (nxP s).1 (nxP s).2.1 (nxP s).2.2 := by
  unfold nxP
  by_cases h : s.size = 0
  · rw [if_pos h]
    exact .inr ⟨rfl, rfl, .inl ⟨rfl, of_size_zero s h⟩⟩
  rw [if_neg h]
  rcases cm_told s h with ⟨c, t, e, hc, hs⟩ | ⟨e, hm⟩ | e
  · rw [nil_pre] at hs
    rw [e]
    exact .inl ⟨rfl, hc, hs⟩
  · rw [nil_pre] at hm
    rw [e]
    exact .inr ⟨rfl, rfl, .inr (.inl ⟨rfl, moreS_more s (by omega) hm⟩)⟩
  · rw [e]
    refine .inr ⟨rfl, rfl, .inr (.inr ⟨rfl, h, ?_, ?_⟩)⟩
    · rintro d t hd rfl
      rw [cm_put d hd t] at e
      cases e
    · intro d t hd hq
      by_cases ht : t.size = 0
      · rw [of_size_zero t ht, app_nil] at hq
        have := cm_put d hd ⟨#[]⟩
        rw [app_nil, hq, e] at this
        cases this
      · rw [cm_more d hd s t h ht hq] at e
        injection e with e; omega
theorem nxP_nxS (s : ByteArray) : nxP s = nxS s := (nx_one (nxP_is s)).symm
end Vt
end Go.Proofs.YtkkioajmfkcloaaDoor
