/- Glyphs in plain mathematics: what is put is told again; signs that were encoded are decoded again; what wants more. -/
import Derived.Test.YteafbfgmdknaeaaDoorGlX
import Derived.Laws.Cover4
set_option linter.unusedVariables false
namespace Go.Proofs.YteafbfgmdknaeaaDoor
open Go.RowKit Go.PlainAid
namespace Gl
theorem next_ok (s : ByteArray) (h : 1 ≤ s.size) (hm : moreB s = false) : nextR s = decR s 0 ∧ nextN s = decN s 0 ∧ nextE s = 0 := by
  have hc : ¬ (s.size = 0 ∨ moreB s = true) := by rintro (h' | h'); omega; rw [hm] at h'; cases h'
  unfold nextR nextN nextE
  rw [if_neg hc, if_neg hc, if_neg (by omega), hm]
  exact ⟨rfl, rfl, rfl⟩
theorem next_more (s : ByteArray) (h : 1 ≤ s.size) (hm : moreB s = true) : nextR s = 0 ∧ nextN s = 0 ∧ nextE s = 3 := by
  have hc : s.size = 0 ∨ moreB s = true := .inr hm
  unfold nextR nextN nextE
  rw [if_pos hc, if_pos hc, if_neg (by omega), if_pos hm]
  exact ⟨rfl, rfl, rfl⟩
theorem bt_append (a b : ByteArray) (k : Nat) : bt (a ++ b) k = if k < a.size then bt a k else bt b (k - a.size) := by
  rw [bt_list, bt_list, bt_list]
  have hl := size_list a
  have e : (a ++ b).data.toList = a.data.toList ++ b.data.toList := by rw [ByteArray.data_append]; simp
  rw [e, List.getD_eq_getElem?_getD, List.getD_eq_getElem?_getD, List.getD_eq_getElem?_getD]
  by_cases h : k < a.size
  · rw [if_pos h, List.getElem?_append_left (by omega)]
  · rw [if_neg h, List.getElem?_append_right (by omega), hl]
theorem ok_put (r : Int) (hv : vld r = true) (s : ByteArray) : okAt (putS r ++ s) 0 (putS r).size ∧ valAt (putS r ++ s) 0 (putS r).size = r :=
  ok_of_put (putS r ++ s) 0 r hv (by rw [ByteArray.size_append]; omega) (fun k hk => by rw [Nat.zero_add, bt_append, if_pos hk])
theorem next_put (r : Int) (hv : vld r = true) (s : ByteArray) : nextR (putS r ++ s) = r ∧ nextN (putS r ++ s) = (putS r).size ∧ nextE (putS r ++ s) = 0 := by
  obtain ⟨h1, h2⟩ := ok_put r hv s
  obtain ⟨d1, d2⟩ := dec_ok _ _ _ h1
  have hm : moreB (putS r ++ s) = false := by
    rw [Bool.eq_false_iff]; exact fun h => more_not_ok _ h _ h1
  have hz := put_size r hv
  obtain ⟨n1, n2, n3⟩ := next_ok (putS r ++ s) (by rw [ByteArray.size_append]; omega) hm
  rw [n1, n2, n3, d1, d2, h2]
  exact ⟨rfl, rfl, rfl⟩
theorem need_of_ok (s : ByteArray) (n : Nat) (h : okAt s 0 n) : need (bt s 0) = n := by
  unfold need
  rcases h with h | h | h | h
  all_goals (repeat' split)
  all_goals omega
theorem more_pre (t : ByteArray) (n i : Nat) (h : okAt t 0 n) (hn : n = t.size) (h1 : 1 ≤ i) (hi : i < n) : moreB (pre t i) = true := by
  have hk := need_of_ok t n h
  have hz := pre_size t i (by omega)
  unfold moreB
  rw [decide_eq_true_iff, hz, bt_pre t i 0 (by omega) (by omega), hk]
  refine ⟨h1, by omega, fun h2 => ?_, fun h3 => ?_⟩
  · rw [bt_pre t i 1 (by omega) (by omega)]
    unfold okAt at h; simp only [Nat.zero_add] at h; have := lo1_hi1 (bt t 0); omega
  · rw [bt_pre t i 2 (by omega) (by omega)]
    unfold okAt at h; simp only [Nat.zero_add] at h; omega
/-- Each beginning of a sign's bytes wants more. -/
theorem put_more (r : Int) (hv : vld r = true) (i : Nat) (h1 : 1 ≤ i) (hi : i < (putS r).size) : nextE (pre (putS r) i) = 3 := by
  have h := (ok_put r hv ⟨#[]⟩).1
  have e : putS r ++ ⟨#[]⟩ = putS r := by
    apply ext_list; rw [ByteArray.data_append]; simp
  rw [e] at h
  exact (next_more _ (by rw [pre_size _ _ (by omega)]; exact h1) (more_pre _ _ i h rfl h1 hi)).2.2
/-- A number that is no sign is as Bad. -/
def fixI (r : Int) : Int := if vld r then r else 65533
theorem vld_fix (r : Int) : vld (fixI r) = true := by
  unfold fixI
  split
  · assumption
  · decide
theorem enc_fix (r : Int) : Utf8.encode r = putS (fixI r) := by
  unfold fixI
  split
  · rename_i h; unfold putS; rw [if_pos h]
  · rename_i h
    unfold putS
    rw [if_pos (by decide)]
    unfold Utf8.encode
    rw [vld_eq, show vld r = false from by simpa using h, show Utf8.valid 65533 = true from by decide]
    simp [Utf8.runeError]
theorem decP_suf (s : ByteArray) (p : Nat) (hp : p ≤ s.size) : ∀ k i, s.size - (p + i) ≤ k → decP (suf s p) i = decP s (p + i) := by
  intro k
  induction k with
  | zero => intro i h; rw [decP_end s _ (by omega), decP_end _ _ (by rw [suf_size]; omega)]
  | succ k ih =>
    intro i h
    by_cases hi : p + i < s.size
    · have hd := dec_bounds s (p + i) hi
      rw [decP_cons s _ hi, decP_cons (suf s p) i (by rw [suf_size]; omega), (dec_suf s p i hi).1, (dec_suf s p i hi).2, ih _ (by omega), Nat.add_assoc]
    · rw [decP_end s _ (by omega), decP_end _ _ (by rw [suf_size]; omega)]
theorem suf_append (a b : ByteArray) : suf (a ++ b) a.size = b := by
  apply ext_list
  rw [suf_data, ByteArray.data_append, ← size_list]
  simp
theorem decL_put (r : Int) (hv : vld r = true) (u : ByteArray) : decL (putS r ++ u) = r :: decL u := by
  obtain ⟨h1, h2⟩ := ok_put r hv u
  obtain ⟨d1, d2⟩ := dec_ok _ _ _ h1
  have hz := put_size r hv
  have hs : (putS r ++ u).size = (putS r).size + u.size := ByteArray.size_append ..
  unfold decL
  rw [decP_cons _ 0 (by omega), d1, d2, h2, Nat.zero_add]
  have := decP_suf (putS r ++ u) (putS r).size (by omega) _ 0 (Nat.le_refl _)
  rw [suf_append, Nat.add_zero] at this
  rw [this]
theorem runes_cons (x : Int) (l : List Int) : runesBytes (x :: l) = Utf8.encode x ++ runesBytes l := by
  have gen : ∀ (l : List Int) (a : ByteArray), l.foldl (fun r n => r ++ Utf8.encode n) a = a ++ runesBytes l := by
    intro l
    induction l with
    | nil => intro a; apply ext_list; simp [runesBytes]
    | cons y l ih =>
      intro a
      have e1 : runesBytes (y :: l) = l.foldl (fun r n => r ++ Utf8.encode n) (ByteArray.empty ++ Utf8.encode y) := rfl
      rw [e1, List.foldl_cons, ih, ih]
      apply ext_list
      simp [ByteArray.data_append]
  have e1 : runesBytes (x :: l) = l.foldl (fun r n => r ++ Utf8.encode n) (ByteArray.empty ++ Utf8.encode x) := rfl
  rw [e1, gen]
  apply ext_list
  simp [ByteArray.data_append]
/-- Signs that were encoded are decoded again, whatever stands behind them. -/
theorem dec_enc (l : List Int) (s : ByteArray) : decL (runesBytes l ++ s) = l.map fixI ++ decL s := by
  induction l with
  | nil =>
    have e : runesBytes [] ++ s = s := by apply ext_list; simp [runesBytes]
    rw [e]; rfl
  | cons x l ih =>
    have e : runesBytes (x :: l) ++ s = putS (fixI x) ++ (runesBytes l ++ s) := by
      rw [runes_cons, enc_fix]
      apply ext_list
      simp [ByteArray.data_append]
    rw [e, decL_put _ (vld_fix x), ih]
    rfl
theorem vld_dec (s : ByteArray) (p : Nat) (h : p < s.size) : vld (decR s p) = true := by
  by_cases hn : ∃ n, okAt s p n
  · obtain ⟨n, hn⟩ := hn
    rw [(dec_ok s p n hn).1]
    exact (put_of_ok s p n hn).1
  · rw [(dec_bad s p h (fun n hh => hn ⟨n, hh⟩)).1]; decide
theorem vld_decP (s : ByteArray) : ∀ k p, s.size - p ≤ k → ∀ x ∈ decP s p, vld x = true := by
  intro k
  induction k with
  | zero => intro p h x hx; rw [decP_end s p (by omega)] at hx; cases hx
  | succ k ih =>
    intro p h x hx
    by_cases hp : p < s.size
    · have hd := dec_bounds s p hp
      rw [decP_cons s p hp] at hx
      rcases List.mem_cons.1 hx with rfl | hx
      · exact vld_dec s p hp
      · exact ih _ (by omega) x hx
    · rw [decP_end s p (by omega)] at hx; cases hx
theorem vld_decL (s : ByteArray) : ∀ x ∈ decL s, vld x = true := vld_decP s _ 0 (Nat.le_refl _)
theorem more_parts (s : ByteArray) (h : moreB s = true) : 1 ≤ s.size ∧ s.size ≤ 3 ∧ 194 ≤ bt s 0 ∧ (s.size : Int) < need (bt s 0) ∧ (2 ≤ s.size → 128 ≤ bt s 1 ∧ bt s 1 ≤ 191) ∧ (3 ≤ s.size → 128 ≤ bt s 2 ∧ bt s 2 ≤ 191) := by
  unfold moreB at h
  rw [decide_eq_true_iff] at h
  obtain ⟨h1, h2, h3, h4⟩ := h
  have hl := lo1_hi1 (bt s 0)
  have hk : need (bt s 0) ≤ 4 ∧ (bt s 0 < 194 → need (bt s 0) = 1) := by
    unfold need
    repeat' split
    all_goals omega
  exact ⟨h1, by omega, by omega, h2, fun h => by have := h3 h; omega, h4⟩
/-- Each byte of what wants more is Bad by itself. -/
theorem more_bad (s : ByteArray) (h : moreB s = true) : decL s = List.replicate s.size 65533 := by
  obtain ⟨h1, h3, h4, h5, h6, h7⟩ := more_parts s h
  have hb : ∀ p, p < s.size → decR s p = 65533 ∧ decN s p = 1 := fun p hp => by
    refine dec_bad s p hp (fun n ho => ?_)
    rcases (show p = 0 ∨ p = 1 ∨ p = 2 by omega) with rfl | rfl | rfl
    · exact more_not_ok s h n ho
    · have := h6 (by omega); unfold okAt at ho; omega
    · have := h7 (by omega); unfold okAt at ho; omega
  have gen : ∀ k p, p + k = s.size → decP s p = List.replicate k 65533 := by
    intro k
    induction k with
    | zero => intro p hp; rw [decP_end s p (by omega)]; rfl
    | succ k ih =>
      intro p hp
      rw [decP_cons s p (by omega), (hb p (by omega)).1, (hb p (by omega)).2, ih (p + 1) (by omega)]
      rfl
  exact gen s.size 0 (by omega)
/-- One byte more makes what wants more a sign, or a longer beginning, or spoils it. -/
theorem more_one (s : ByteArray) (h : moreB s = true) (c : UInt8) : nextE (s ++ ⟨#[c]⟩) = 3 ∨ (nextE (s ++ ⟨#[c]⟩) = 0 ∧ nextN (s ++ ⟨#[c]⟩) = s.size + 1 ∧ vld (nextR (s ++ ⟨#[c]⟩)) = true) ∨
    (nextE (s ++ ⟨#[c]⟩) = 0 ∧ nextN (s ++ ⟨#[c]⟩) = 1 ∧ nextR (s ++ ⟨#[c]⟩) = 65533) := by
  obtain ⟨h1, h3, h4, h5, h6, h7⟩ := more_parts s h
  have hz : (s ++ ⟨#[c]⟩).size = s.size + 1 := by rw [ByteArray.size_append]; rfl
  have h0 : bt (s ++ ⟨#[c]⟩) 0 = bt s 0 := by rw [bt_append, if_pos (by omega)]
  generalize s ++ ⟨#[c]⟩ = t at hz h0 ⊢
  cases hm : moreB t
  · obtain ⟨n1, n2, n3⟩ := next_ok t (by omega) hm
    rw [n1, n2, n3]
    by_cases hn : ∃ n, okAt t 0 n
    · obtain ⟨n, hn⟩ := hn
      have hk := need_of_ok t n hn
      obtain ⟨d1, d2⟩ := dec_ok t 0 n hn
      have hle : n ≤ t.size := by unfold okAt at hn; omega
      rw [h0] at hk
      rw [d1, d2]
      exact .inr (.inl ⟨rfl, by omega, (put_of_ok t 0 n hn).1⟩)
    · obtain ⟨d1, d2⟩ := dec_bad t 0 (by omega) (fun n hh => hn ⟨n, hh⟩)
      rw [d1, d2]
      exact .inr (.inr ⟨rfl, rfl, rfl⟩)
  · exact .inl (next_more t (by omega) hm).2.2
end Gl
end Go.Proofs.YteafbfgmdknaeaaDoor
