/- Commands in plain mathematics. -/
import Derived.Test.YtcakklafjfobeaaDoorMGp
import Derived.Test.YtcakklafjfobeaaDoorMWp
import Derived.Test.YtcakklafjfobeaaDoorMLb
/- Commands in plain mathematics: which are right, their bytes, their pads; no command's bytes are a beginning of another one's. -/
set_option linter.unusedVariables false
namespace Go.Proofs.YtcakklafjfobeaaDoor
open Go.RowKit Gl
namespace Vt
def isC (k a b r : Int) : Bool :=
  if k = 1 then Wd.shw r && (decide (a = 0) && decide (b = 0))
  else if k = 2 then decide (0 ≤ a ∧ a ≤ 23 ∧ 0 ≤ b ∧ b ≤ 79 ∧ r = 0)
  else if 3 ≤ k ∧ k ≤ 6 then decide (1 ≤ a ∧ a ≤ 80 ∧ b = 0 ∧ r = 0)
  else decide (7 ≤ k ∧ k ≤ 12 ∧ a = 0 ∧ b = 0 ∧ r = 0)
theorem isC_iff (k a b r : Int) : isC k a b r = true ↔ (k = 1 ∧ Wd.shw r = true ∧ a = 0 ∧ b = 0) ∨ (k = 2 ∧ 0 ≤ a ∧ a ≤ 23 ∧ 0 ≤ b ∧ b ≤ 79 ∧ r = 0) ∨ (3 ≤ k ∧ k ≤ 6 ∧ 1 ≤ a ∧ a ≤ 80 ∧ b = 0 ∧ r = 0) ∨ (7 ≤ k ∧ k ≤ 12 ∧ a = 0 ∧ b = 0 ∧ r = 0) := by
  unfold isC
  split
  · simp [*]
  · split
    · simp [*]
    · split
      · simp [*]; omega
      · simp [*]; omega
/-- A number's digits, from 0 to 99. -/
def dg (n : Int) : List Int := if n < 10 then [48 + n] else [48 + n / 10, 48 + n % 10]
def dS (n : Int) : ByteArray := strOfNums (dg n)
/-- The bytes of a command that is no text. -/
def btL (k a b : Int) : List Int :=
  if k = 2 then 27 :: 91 :: (dg (a + 1) ++ 59 :: (dg (b + 1) ++ [72]))
  else if k ≤ 6 then 27 :: 91 :: ((if 1 < a then dg a else []) ++ [62 + k])
  else if k = 7 then [27, 91, 75] else if k = 8 then [27, 91, 74] else if k = 9 then [13] else if k = 10 then [10] else if k = 11 then [8] else [7]
def bts (k a b r : Int) : ByteArray := if isC k a b r then (if k = 1 then putS r else strOfNums (btL k a b)) else ⟨#[]⟩
def err (k a b r : Int) : Int := if isC k a b r then 0 else 1
def pads (k a b r : Int) : Int := if isC k a b r then (if k = 7 then 1 else if k = 8 then 2 else 0) else 0
theorem bts_no {k a b r : Int} (h : isC k a b r = false) : bts k a b r = ⟨#[]⟩ := by unfold bts; rw [h]; rfl
theorem bts_text {a b r : Int} (h : isC 1 a b r = true) : bts 1 a b r = putS r := by unfold bts; rw [h]; rfl
theorem bts_form {k a b r : Int} (h : isC k a b r = true) (hk : k ≠ 1) : bts k a b r = strOfNums (btL k a b) := by unfold bts; rw [h, if_pos rfl, if_neg hk]
theorem shw_vld {r : Int} (h : Wd.shw r = true) : vld r = true ∧ 32 ≤ r ∧ (r < 127 ∨ 159 < r) := by
  unfold Wd.shw at h; simp at h; exact h
theorem dg_len (n : Int) : 1 ≤ (dg n).length ∧ (dg n).length ≤ 2 := by unfold dg; split <;> simp
theorem btL_len (k a b : Int) : 1 ≤ (btL k a b).length ∧ (btL k a b).length ≤ 8 := by
  have h1 := dg_len (a + 1)
  have h2 := dg_len (b + 1)
  have h3 := dg_len a
  unfold btL
  repeat' split
  all_goals simp
  all_goals omega
theorem bts_size (k a b r : Int) : (bts k a b r).size ≤ 8 := by
  unfold bts
  split
  · split
    · have h := ‹isC k a b r = true›
      have hk := ‹k = 1›
      have hs : Wd.shw r = true := by
        rcases (isC_iff k a b r).1 h with h | h | h | h
        · exact h.2.1
        all_goals omega
      have := put_size r (shw_vld hs).1
      omega
    · rw [strOfNums_size]; exact (btL_len k a b).2
  · show 0 ≤ 8; omega
end Vt
end Go.Proofs.YtcakklafjfobeaaDoor
/- Commands' bytes: from the second one on each is 32 or more. -/
set_option linter.unusedVariables false
namespace Go.Proofs.YtcakklafjfobeaaDoor
open Go.RowKit Go.PlainAid
open Gl
namespace Vt
/-- Numbers as bytes, told again. -/
theorem bt_list' (xs : List Int) (hx : ∀ x ∈ xs, 0 ≤ x ∧ x ≤ 255) (j : Nat) (hj : j < xs.length) : bt (strOfNums xs) j = xs.getD j 0 := by
  have h : xs[j]? = some (xs.getD j 0) := by simp [List.getD, hj]
  exact bt_strOf xs j _ h (hx _ (List.mem_of_getElem? h))
theorem dg_bd (n : Int) (h : 0 ≤ n ∧ n ≤ 99) : ∀ x ∈ dg n, 48 ≤ x ∧ x ≤ 57 := by
  intro x hx
  unfold dg at hx
  split at hx
  · simp at hx; omega
  · simp at hx; omega
theorem btL_bd (k a b r : Int) (h : isC k a b r = true) (hk : k ≠ 1) : ∀ x ∈ btL k a b, 0 ≤ x ∧ x ≤ 255 := by
  intro x hx
  have hc := (isC_iff k a b r).1 h
  have d1 := dg_bd (a + 1)
  have d2 := dg_bd (b + 1)
  have d3 := dg_bd a
  unfold btL at hx
  split at hx
  · simp at hx
    rcases hx with hx | hx | hx | hx | hx | hx
    all_goals first | omega | (have := d1 (by omega) x hx; omega) | (have := d2 (by omega) x hx; omega)
  · split at hx
    · simp at hx
      rcases hx with hx | hx | hx | hx
      · omega
      · omega
      · have := d3 (by omega) x hx.2; omega
      · omega
    · repeat' split at hx
      all_goals simp at hx
      all_goals omega
/-- The first byte of what is shown is 32 or more; of another command it is 27 or less. -/
theorem text_first (r : Int) (h : Wd.shw r = true) : 32 ≤ bt (putS r) 0 := by
  obtain ⟨hv, h1, h2⟩ := shw_vld h
  have hv2 := (vld_iff r).1 hv
  rcases put_form r hv with ⟨_, e⟩ | ⟨_, _, e⟩ | ⟨_, _, e⟩ | ⟨_, e⟩
  all_goals (rw [e, bt_strOf _ 0 _ rfl (by omega)]; omega)
theorem text_hi (r : Int) (h : Wd.shw r = true) (j : Nat) (hj : j < (putS r).size) : 32 ≤ bt (putS r) j := by
  obtain ⟨hv, h1, h2⟩ := shw_vld h
  have hv2 := (vld_iff r).1 hv
  rcases put_form r hv with ⟨_, e⟩ | ⟨_, _, e⟩ | ⟨_, _, e⟩ | ⟨_, e⟩
  all_goals
    rw [e, strOfNums_size] at hj
    simp at hj
    rw [e]
  · rcases (show j = 0 by omega) with rfl
    rw [bt_strOf _ 0 _ rfl (by omega)]; omega
  · rcases (show j = 0 ∨ j = 1 by omega) with rfl | rfl
    all_goals (rw [bt_strOf _ _ _ rfl (by omega)]; omega)
  · rcases (show j = 0 ∨ j = 1 ∨ j = 2 by omega) with rfl | rfl | rfl
    all_goals (rw [bt_strOf _ _ _ rfl (by omega)]; omega)
  · rcases (show j = 0 ∨ j = 1 ∨ j = 2 ∨ j = 3 by omega) with rfl | rfl | rfl | rfl
    all_goals (rw [bt_strOf _ _ _ rfl (by omega)]; omega)
/-- Beyond the first one, no byte of a command is below 32. -/
theorem btL_hi (k a b r : Int) (h : isC k a b r = true) (hk : k ≠ 1) (j : Nat) (h1 : 1 ≤ j) (hj : j < (btL k a b).length) : 32 ≤ (btL k a b).getD j 0 := by
  have hc := (isC_iff k a b r).1 h
  have gen : ∀ (x : Int) (l : List Int), (∀ y ∈ l, 32 ≤ y) → ∀ j, 1 ≤ j → j < (x :: l).length → 32 ≤ (x :: l).getD j 0 := by
    intro x l hl j h1 hj
    obtain ⟨i, rfl⟩ : ∃ i, j = i + 1 := ⟨j - 1, by omega⟩
    have hi : i < l.length := by simpa using hj
    have e : (x :: l).getD (i + 1) 0 = l[i] := by simp [List.getD, hi]
    rw [e]
    exact hl _ (List.getElem_mem hi)
  have d1 := dg_bd (a + 1)
  have d2 := dg_bd (b + 1)
  have d3 := dg_bd a
  revert hj
  unfold btL
  split
  · intro hj
    refine gen _ _ ?_ j h1 hj
    intro y hy
    simp at hy
    rcases hy with hx | hx | hx | hx | hx
    all_goals first | omega | (have := d1 (by omega) y hx; omega) | (have := d2 (by omega) y hx; omega)
  · split
    · intro hj
      refine gen _ _ ?_ j h1 hj
      intro y hy
      simp at hy
      rcases hy with hx | hx | hx
      · omega
      · have := d3 (by omega) y hx.2; omega
      · omega
    · repeat' split
      all_goals intro hj
      all_goals refine gen _ _ ?_ j h1 hj
      all_goals simp
theorem bts_hi (k a b r : Int) (h : isC k a b r = true) (j : Nat) (h1 : 1 ≤ j) (hj : j < (bts k a b r).size) : 32 ≤ bt (bts k a b r) j := by
  by_cases hk : k = 1
  · subst hk
    rw [bts_text h] at hj ⊢
    rcases (isC_iff 1 a b r).1 h with hc | hc | hc | hc
    · exact text_hi r hc.2.1 j hj
    all_goals omega
  · rw [bts_form h hk] at hj ⊢
    rw [strOfNums_size] at hj
    rw [bt_list' _ (btL_bd k a b r h hk) j hj]
    exact btL_hi k a b r h hk j h1 hj
theorem bts_one (k a b r : Int) (h : isC k a b r = true) : 1 ≤ (bts k a b r).size := by
  by_cases hk : k = 1
  · subst hk
    rw [bts_text h]
    rcases (isC_iff 1 a b r).1 h with hc | hc | hc | hc
    · exact (put_size r (shw_vld hc.2.1).1).1
    all_goals omega
  · rw [bts_form h hk, strOfNums_size]
    exact (btL_len k a b).1
end Vt
end Go.Proofs.YtcakklafjfobeaaDoor
/- No command's bytes are a beginning of another one's. -/
set_option linter.unusedVariables false
namespace Go.Proofs.YtcakklafjfobeaaDoor
open Go.RowKit Go.PlainAid Gl
namespace Vt
/-- Digits end where the first byte that is none stands. -/
theorem run_dg : ∀ (p q : List Int) (x y : Int) (t u : List Int), (∀ z ∈ p, 48 ≤ z ∧ z ≤ 57) → (∀ z ∈ q, 48 ≤ z ∧ z ≤ 57) → ¬ (48 ≤ x ∧ x ≤ 57) → ¬ (48 ≤ y ∧ y ≤ 57) → p ++ x :: t = q ++ y :: u → p = q ∧ x = y ∧ t = u
  | [], [], x, y, t, u, _, _, _, _, h => by simp at h; exact ⟨rfl, h.1, h.2⟩
  | [], z :: q, x, y, t, u, _, hq, hx, _, h => by
    simp at h
    have := hq z (by simp)
    omega
  | z :: p, [], x, y, t, u, hp, _, _, hy, h => by
    simp at h
    have := hp z (by simp)
    omega
  | z :: p, z' :: q, x, y, t, u, hp, hq, hx, hy, h => by
    simp at h
    obtain ⟨h1, h2, h3⟩ := run_dg p q x y t u (fun v hv => hp v (by simp [hv])) (fun v hv => hq v (by simp [hv])) hx hy h.2
    exact ⟨by rw [h.1, h1], h2, h3⟩
theorem dg_inj (n m : Int) (h0 : 0 ≤ n ∧ n ≤ 99) (h1 : 0 ≤ m ∧ m ≤ 99) (h : dg n = dg m) : n = m := by
  unfold dg at h
  split at h <;> split at h <;> simp at h <;> omega
def dgo (a : Int) : List Int := if 1 < a then dg a else []
theorem dgo_bd (n : Int) (h : 1 ≤ n ∧ n ≤ 80) : ∀ x ∈ dgo n, 48 ≤ x ∧ x ≤ 57 := by
  unfold dgo
  split
  · exact dg_bd n (by omega)
  · intro x hx; cases hx
theorem dgo_inj (n m : Int) (h0 : 1 ≤ n ∧ n ≤ 80) (h1 : 1 ≤ m ∧ m ≤ 80) (h : dgo n = dgo m) : n = m := by
  have l1 := dg_len n
  have l2 := dg_len m
  unfold dgo at h
  split at h <;> split at h
  · exact dg_inj n m (by omega) (by omega) h
  · rw [h] at l1; simp at l1
  · rw [← h] at l2; simp at l2
  · omega
theorem btL_go (a b : Int) : btL 2 a b = 27 :: 91 :: (dg (a + 1) ++ 59 :: (dg (b + 1) ++ [72])) := rfl
theorem btL_move (k a b : Int) (h : 3 ≤ k ∧ k ≤ 6) : btL k a b = 27 :: 91 :: (dgo a ++ [62 + k]) := by
  unfold btL dgo
  rw [if_neg (by omega), if_pos h.2]
theorem btL_one (k a b : Int) (h : 7 ≤ k ∧ k ≤ 12) : (k = 7 ∧ btL k a b = [27, 91, 75]) ∨ (k = 8 ∧ btL k a b = [27, 91, 74]) ∨ (k = 9 ∧ btL k a b = [13]) ∨ (k = 10 ∧ btL k a b = [10]) ∨ (k = 11 ∧ btL k a b = [8]) ∨ (k = 12 ∧ btL k a b = [7]) := by
  rcases (show k = 7 ∨ k = 8 ∨ k = 9 ∨ k = 10 ∨ k = 11 ∨ k = 12 by omega) with rfl | rfl | rfl | rfl | rfl | rfl
  · exact .inl ⟨rfl, rfl⟩
  · exact .inr (.inl ⟨rfl, rfl⟩)
  · exact .inr (.inr (.inl ⟨rfl, rfl⟩))
  · exact .inr (.inr (.inr (.inl ⟨rfl, rfl⟩)))
  · exact .inr (.inr (.inr (.inr (.inl ⟨rfl, rfl⟩))))
  · exact .inr (.inr (.inr (.inr (.inr ⟨rfl, rfl⟩))))
/-- No numbers of a command are a beginning of another one's. -/
theorem btL_pre (k a b r k' a' b' r' : Int) (h : isC k a b r = true) (hk : k ≠ 1) (h' : isC k' a' b' r' = true) (hk' : k' ≠ 1) (t : List Int) (ht : btL k a b ++ t = btL k' a' b') : k = k' ∧ a = a' ∧ b = b' ∧ r = r' := by
  rcases (isC_iff k a b r).1 h with c | ⟨rfl, c⟩ | c | c
  · omega
  · rcases (isC_iff k' a' b' r').1 h' with c' | ⟨rfl, c'⟩ | c' | c'
    · omega
    · rw [btL_go, btL_go] at ht
      simp only [List.cons_append, List.append_assoc, List.cons.injEq, true_and] at ht
      obtain ⟨e1, _, e2⟩ := run_dg _ _ _ _ _ _ (dg_bd (a + 1) (by omega)) (dg_bd (a' + 1) (by omega)) (by omega) (by omega) ht
      obtain ⟨e3, _, _⟩ := run_dg _ _ _ _ _ _ (dg_bd (b + 1) (by omega)) (dg_bd (b' + 1) (by omega)) (by omega) (by omega) e2
      have := dg_inj _ _ (by omega) (by omega) e1
      have := dg_inj _ _ (by omega) (by omega) e3
      omega
    · rw [btL_go, btL_move k' a' b' ⟨c'.1, c'.2.1⟩] at ht
      simp only [List.cons_append, List.append_assoc, List.cons.injEq, true_and] at ht
      obtain ⟨_, e, _⟩ := run_dg _ _ _ _ _ _ (dg_bd (a + 1) (by omega)) (dgo_bd a' (by omega)) (by omega) (by omega) ht
      omega
    · exfalso
      rw [btL_go] at ht
      have d := dg_bd (a + 1) (by omega)
      have dl := dg_len (a + 1)
      match hd : dg (a + 1), dl with
      | x :: q, _ =>
        have hx := d x (by rw [hd]; simp)
        rw [hd] at ht
        rcases btL_one k' a' b' ⟨c'.1, c'.2.1⟩ with ⟨_, e⟩ | ⟨_, e⟩ | ⟨_, e⟩ | ⟨_, e⟩ | ⟨_, e⟩ | ⟨_, e⟩
        all_goals (rw [e] at ht; simp at ht)
        all_goals omega
  · rw [btL_move k a b ⟨c.1, c.2.1⟩] at ht
    rcases (isC_iff k' a' b' r').1 h' with c' | ⟨rfl, c'⟩ | c' | c'
    · omega
    · rw [btL_go] at ht
      simp only [List.cons_append, List.append_assoc, List.cons.injEq, true_and] at ht
      obtain ⟨_, e, _⟩ := run_dg _ _ _ _ _ _ (dgo_bd a (by omega)) (dg_bd (a' + 1) (by omega)) (by omega) (by omega) ht
      omega
    · rw [btL_move k' a' b' ⟨c'.1, c'.2.1⟩] at ht
      simp only [List.cons_append, List.append_assoc, List.cons.injEq, true_and] at ht
      obtain ⟨e1, e, _⟩ := run_dg _ _ _ _ _ _ (dgo_bd a (by omega)) (dgo_bd a' (by omega)) (by omega) (by omega) ht
      have := dgo_inj _ _ (by omega) (by omega) e1
      omega
    · exfalso
      have d := dgo_bd a (by omega)
      rcases btL_one k' a' b' ⟨c'.1, c'.2.1⟩ with ⟨_, e⟩ | ⟨_, e⟩ | ⟨_, e⟩ | ⟨_, e⟩ | ⟨_, e⟩ | ⟨_, e⟩
      all_goals rw [e] at ht
      all_goals cases hd : dgo a
      all_goals rw [hd] at ht
      all_goals simp at ht
      all_goals try omega
      all_goals (have hx := d _ (by rw [hd]; exact List.mem_cons_self ..); omega)
  · rcases (isC_iff k' a' b' r').1 h' with c' | ⟨rfl, c'⟩ | c' | c'
    · omega
    · exfalso
      rw [btL_go] at ht
      have d := dg_bd (a' + 1) (by omega)
      have dl := dg_len (a' + 1)
      match hd : dg (a' + 1), dl with
      | x :: q, _ =>
        have hx := d x (by rw [hd]; simp)
        rw [hd] at ht
        rcases btL_one k a b ⟨c.1, c.2.1⟩ with ⟨_, e⟩ | ⟨_, e⟩ | ⟨_, e⟩ | ⟨_, e⟩ | ⟨_, e⟩ | ⟨_, e⟩
        all_goals (rw [e] at ht; simp at ht)
        all_goals omega
    · exfalso
      rw [btL_move k' a' b' ⟨c'.1, c'.2.1⟩] at ht
      have d := dgo_bd a' (by omega)
      rcases btL_one k a b ⟨c.1, c.2.1⟩ with ⟨_, e⟩ | ⟨_, e⟩ | ⟨_, e⟩ | ⟨_, e⟩ | ⟨_, e⟩ | ⟨_, e⟩
      all_goals rw [e] at ht
      all_goals cases hd : dgo a'
      all_goals rw [hd] at ht
      all_goals simp at ht
      all_goals try omega
      all_goals (have hx := d _ (by rw [hd]; exact List.mem_cons_self ..); omega)
    · rcases btL_one k a b ⟨c.1, c.2.1⟩ with ⟨_, e⟩ | ⟨_, e⟩ | ⟨_, e⟩ | ⟨_, e⟩ | ⟨_, e⟩ | ⟨_, e⟩
      all_goals rcases btL_one k' a' b' ⟨c'.1, c'.2.1⟩ with ⟨_, e'⟩ | ⟨_, e'⟩ | ⟨_, e'⟩ | ⟨_, e'⟩ | ⟨_, e'⟩ | ⟨_, e'⟩
      all_goals first
        | omega
        | (exfalso; rw [e, e'] at ht; simp at ht)
theorem btL_first (k a b r : Int) (h : isC k a b r = true) (hk : k ≠ 1) : (btL k a b).getD 0 0 ≤ 27 := by
  rcases (isC_iff k a b r).1 h with c | ⟨rfl, c⟩ | c | c
  · omega
  · rw [btL_go]; exact Int.le_refl _
  · rw [btL_move k a b ⟨c.1, c.2.1⟩]; exact Int.le_refl _
  · rcases btL_one k a b ⟨c.1, c.2.1⟩ with ⟨_, e⟩ | ⟨_, e⟩ | ⟨_, e⟩ | ⟨_, e⟩ | ⟨_, e⟩ | ⟨_, e⟩
    all_goals (rw [e]; decide)
theorem bts_first (k a b r : Int) (h : isC k a b r = true) (hk : k ≠ 1) : bt (bts k a b r) 0 ≤ 27 := by
  rw [bts_form h hk, bt_list' _ (btL_bd k a b r h hk) 0 (btL_len k a b).1]
  exact btL_first k a b r h hk
theorem text_pre (r r' : Int) (hv : vld r = true) (hv' : vld r' = true) (hs : (putS r).size ≤ (putS r').size) (hb : ∀ j, j < (putS r).size → bt (putS r') j = bt (putS r) j) : r = r' := by
  obtain ⟨o1, v1⟩ := ok_of_put (putS r') 0 r hv (by omega) (fun k hk => by rw [Nat.zero_add]; exact hb k hk)
  obtain ⟨o2, v2⟩ := ok_of_put (putS r') 0 r' hv' (by omega) (fun k hk => by rw [Nat.zero_add])
  have e := ok_one _ _ _ _ o1 o2
  rw [e] at v1
  exact v1.symm.trans v2
/-- No command's bytes are a beginning of another one's. -/
theorem bts_pre (k a b r k' a' b' r' : Int) (h : isC k a b r = true) (h' : isC k' a' b' r' = true) (hs : (bts k a b r).size ≤ (bts k' a' b' r').size) (hb : ∀ j, j < (bts k a b r).size → bt (bts k' a' b' r') j = bt (bts k a b r) j) : k = k' ∧ a = a' ∧ b = b' ∧ r = r' := by
  have h1 := bts_one k a b r h
  have hb0 := hb 0 (by omega)
  by_cases hk : k = 1
  · subst hk
    rcases (isC_iff 1 a b r).1 h with c | c | c | c
    · have hf := text_first r c.2.1
      rw [← bts_text h] at hf
      by_cases hk' : k' = 1
      · subst hk'
        rcases (isC_iff 1 a' b' r').1 h' with c' | c' | c' | c'
        · rw [bts_text h, bts_text h'] at hs hb
          have := text_pre r r' (shw_vld c.2.1).1 (shw_vld c'.2.1).1 hs hb
          omega
        all_goals omega
      · have := bts_first k' a' b' r' h' hk'
        omega
    all_goals omega
  · have hf := bts_first k a b r h hk
    by_cases hk' : k' = 1
    · subst hk'
      rcases (isC_iff 1 a' b' r').1 h' with c' | c' | c' | c'
      · have := text_first r' c'.2.1
        rw [← bts_text h'] at this
        omega
      all_goals omega
    · rw [bts_form h hk, bts_form h' hk'] at hb hs
      rw [strOfNums_size, strOfNums_size] at hs
      rw [strOfNums_size] at hb
      refine btL_pre k a b r k' a' b' r' h hk h' hk' ((btL k' a' b').drop (btL k a b).length) ?_
      refine List.ext_getElem (by simp; omega) fun j hj1 hj2 => ?_
      by_cases hj : j < (btL k a b).length
      · have e := hb j hj
        rw [bt_list' _ (btL_bd k a b r h hk) j hj, bt_list' _ (btL_bd k' a' b' r' h' hk') j hj2] at e
        rw [List.getElem_append_left hj]
        simp [List.getD, hj, hj2] at e
        exact e.symm
      · rw [List.getElem_append_right (by omega), List.getElem_drop]
        congr 1
        omega
theorem bts_ext (k a b r k' a' b' r' : Int) (h : isC k a b r = true) (h' : isC k' a' b' r' = true) (hs : (bts k a b r).size ≤ (bts k' a' b' r').size) (hne : ¬ (k = k' ∧ a = a' ∧ b = b' ∧ r = r')) :
    (((bts k' a' b' r').extract 0 (bts k a b r).size).toList == (bts k a b r).toList) = false := by
  rw [str_eq_of_toList]
  refine decide_eq_false fun e => hne (bts_pre k a b r k' a' b' r' h h' hs fun j hj => ?_)
  rw [← bt_pre _ _ j hs hj]
  unfold pre
  rw [e]
end Vt
end Go.Proofs.YtcakklafjfobeaaDoor
/- Rows of commands in plain mathematics, and in memory; what they cost. -/
set_option linter.unusedVariables false
namespace Go.Proofs.YtcakklafjfobeaaDoor
open Go.RowKit Gl L
namespace Vt
/-- A command: kind, two numbers, and a sign. -/
abbrev Cmd := Int × Int × Int × Int
def d0 : Cmd := (0, 0, 0, 0)
def cK (l : List Cmd) (i : Nat) : Int := (l.getD i d0).1
def cA (l : List Cmd) (i : Nat) : Int := (l.getD i d0).2.1
def cB (l : List Cmd) (i : Nat) : Int := (l.getD i d0).2.2.1
def cR (l : List Cmd) (i : Nat) : Int := (l.getD i d0).2.2.2
def cells4 (c : Cmd) : List Value := [.int .i64 c.1, .int .i64 c.2.1, .int .i64 c.2.2.1, .int .i32 c.2.2.2]
def flatC (l : List Cmd) : List Value := l.flatMap cells4
theorem flatC_len (l : List Cmd) : (flatC l).length = l.length * 4 := by
  induction l with
  | nil => rfl
  | cons c l ih => simp [flatC, cells4] at ih ⊢; omega
theorem flatC_append (l m : List Cmd) : flatC (l ++ m) = flatC l ++ flatC m := by simp [flatC]
theorem flatC_at (l : List Cmd) : ∀ i, i < l.length → (flatC l)[i * 4]? = some (.int .i64 (cK l i)) ∧ (flatC l)[i * 4 + 1]? = some (.int .i64 (cA l i)) ∧ (flatC l)[i * 4 + 2]? = some (.int .i64 (cB l i)) ∧ (flatC l)[i * 4 + 3]? = some (.int .i32 (cR l i)) := by
  induction l with
  | nil => intro i hi; simp at hi
  | cons c l ih =>
    intro i hi
    have e : flatC (c :: l) = cells4 c ++ flatC l := rfl
    have hl : (cells4 c).length = 4 := rfl
    rw [e]
    cases i with
    | zero => refine ⟨rfl, rfl, rfl, rfl⟩
    | succ i =>
      obtain ⟨h0, h1, h2, h3⟩ := ih i (by simpa using hi)
      have sh : ∀ j, (cells4 c ++ flatC l)[(i + 1) * 4 + j]? = (flatC l)[i * 4 + j]? := fun j => by
        rw [List.getElem?_append_right (by omega), hl]
        congr 1
        omega
      refine ⟨(sh 0).trans h0, (sh 1).trans h1, (sh 2).trans h2, (sh 3).trans h3⟩
theorem flatC_one (l : List Cmd) : ∀ u ∈ flatC l, u.oneCell' = true := by
  intro u hu
  simp only [flatC, List.mem_flatMap] at hu
  obtain ⟨c, _, hc⟩ := hu
  simp [cells4] at hc
  rcases hc with rfl | rfl | rfl | rfl <;> rfl
def szC (c : Cmd) : Nat := (bts c.1 c.2.1 c.2.2.1 c.2.2.2).size
def pdC (c : Cmd) : Int := pads c.1 c.2.1 c.2.2.1 c.2.2.2
def costL (l : List Cmd) : Nat := (l.map szC).sum
def padL (l : List Cmd) : Int := (l.map pdC).sum
theorem pdC_bd (c : Cmd) : 0 ≤ pdC c ∧ pdC c ≤ 2 := by
  unfold pdC pads
  split
  · split
    · omega
    · split <;> omega
  · omega
theorem take_next (l : List Cmd) (i : Nat) (h : i < l.length) : l.take (i + 1) = l.take i ++ [l.getD i d0] := by
  rw [List.take_add_one]
  simp [List.getD, h]
theorem costL_next (l : List Cmd) (i : Nat) (h : i < l.length) : costL (l.take (i + 1)) = costL (l.take i) + (bts (cK l i) (cA l i) (cB l i) (cR l i)).size := by
  rw [take_next l i h]
  simp [costL, szC, cK, cA, cB, cR]
theorem padL_next (l : List Cmd) (i : Nat) (h : i < l.length) : padL (l.take (i + 1)) = padL (l.take i) + pads (cK l i) (cA l i) (cB l i) (cR l i) := by
  rw [take_next l i h]
  simp [padL, pdC, cK, cA, cB, cR]
theorem costL_append (l m : List Cmd) : costL (l ++ m) = costL l + costL m := by simp [costL]
theorem padL_append (l m : List Cmd) : padL (l ++ m) = padL l + padL m := by simp [padL]
theorem costL_bd (l : List Cmd) : costL l ≤ 8 * l.length := by
  induction l with
  | nil => exact Nat.le_refl _
  | cons c l ih =>
    have h : costL (c :: l) = szC c + costL l := rfl
    have : szC c ≤ 8 := bts_size _ _ _ _
    rw [h, List.length_cons]; omega
theorem padL_bd (l : List Cmd) : 0 ≤ padL l ∧ padL l ≤ 2 * l.length := by
  induction l with
  | nil => decide
  | cons c l ih =>
    have h : padL (c :: l) = pdC c + padL l := rfl
    have := pdC_bd c
    rw [h, List.length_cons]; omega
/-- A row of commands that can be read. -/
theorem cmds_row {w : World} {v : Value} {l : List Cmd} (h : Rw w v 4 l.length (flatC l)) : ∃ A cap, v = .slice A l.length cap ∧ (l.length = 0 ∨ ∃ g off, A = some ⟨g, off, none⟩ ∧ ∀ k, k < l.length →
    w.cell? ⟨g, off + k * 4, none⟩ = some (.int .i64 (cK l k)) ∧ w.cell? ⟨g, off + k * 4 + 1, none⟩ = some (.int .i64 (cA l k)) ∧ w.cell? ⟨g, off + k * 4 + 2, none⟩ = some (.int .i64 (cB l k)) ∧ w.cell? ⟨g, off + k * 4 + 3, none⟩ = some (.int .i32 (cR l k))) := by
  obtain ⟨_, A, cap, rfl, h⟩ := h
  refine ⟨A, cap, rfl, ?_⟩
  rcases h with ⟨h, _⟩ | ⟨g, off, rfl, hc⟩
  · exact .inl h
  · refine .inr ⟨g, off, rfl, fun k hk => ?_⟩
    obtain ⟨h0, h1, h2, h3⟩ := flatC_at l k hk
    exact ⟨hc _ _ h0, hc _ _ h1, hc _ _ h2, hc _ _ h3⟩
end Vt
end Go.Proofs.YtcakklafjfobeaaDoor
/- Scanning in plain mathematics: what Next and All tell, one thing alone; cuts. -/
set_option linter.unusedVariables false
namespace Go.Proofs.YtcakklafjfobeaaDoor
open Go.RowKit Go.PlainAid Gl
namespace Vt
def isR (c : Cmd) : Bool := isC c.1 c.2.1 c.2.2.1 c.2.2.2
def btC (c : Cmd) : ByteArray := bts c.1 c.2.1 c.2.2.1 c.2.2.2
/-- The bytes of several commands. -/
def btsL : List Cmd → ByteArray
  | [] => ⟨#[]⟩
  | c :: l => btC c ++ btsL l
theorem app_nil (s : ByteArray) : s ++ ⟨#[]⟩ = s := by apply ext_list; rw [ByteArray.data_append]; simp
theorem nil_app (s : ByteArray) : (⟨#[]⟩ : ByteArray) ++ s = s := by apply ext_list; rw [ByteArray.data_append]; simp
theorem app_assoc (a b c : ByteArray) : a ++ b ++ c = a ++ (b ++ c) := by apply ext_list; simp [ByteArray.data_append]
theorem app_inj (a b x y : ByteArray) (h : a ++ x = b ++ y) (hs : a.size = b.size) : a = b ∧ x = y := by
  have e : a.data.toList ++ x.data.toList = b.data.toList ++ y.data.toList := by
    have := congrArg (fun z : ByteArray => z.data.toList) h
    simpa [ByteArray.data_append] using this
  have hl : a.data.toList.length = b.data.toList.length := by rw [size_list, size_list]; exact hs
  obtain ⟨h1, h2⟩ := List.append_inj e hl
  exact ⟨ext_list _ _ h1, ext_list _ _ h2⟩
theorem app_left (a x y : ByteArray) (h : a ++ x = a ++ y) : x = y := (app_inj a a x y h rfl).2
/-- No command's bytes are a beginning of another one's. -/
theorem pre_free (c d : Cmd) (hc : isR c = true) (hd : isR d = true) (x y : ByteArray) (h : btC c ++ x = btC d ++ y) : c = d ∧ x = y := by
  have hb : ∀ j, j < (btC c).size → j < (btC d).size → bt (btC c) j = bt (btC d) j := fun j h1 h2 => by
    have e := congrArg (fun z => bt z j) h
    simp only [bt_append, if_pos h1, if_pos h2] at e
    exact e
  have hcd : c = d := by
    obtain ⟨k, a, b, r⟩ := c
    obtain ⟨k', a', b', r'⟩ := d
    by_cases hs : (bts k a b r).size ≤ (bts k' a' b' r').size
    · obtain ⟨rfl, rfl, rfl, rfl⟩ := bts_pre k a b r k' a' b' r' hc hd hs fun j hj => (hb j hj (Nat.lt_of_lt_of_le hj hs)).symm
      rfl
    · obtain ⟨rfl, rfl, rfl, rfl⟩ := bts_pre k' a' b' r' k a b r hd hc (by omega) fun j hj => hb j (Nat.lt_of_lt_of_le hj (show (bts k' a' b' r').size ≤ (bts k a b r).size by omega)) hj
      rfl
  subst hcd
  exact ⟨rfl, app_left _ _ _ h⟩
theorem btC_one (c : Cmd) (h : isR c = true) : 1 ≤ (btC c).size := bts_one _ _ _ _ h
theorem btC_size (c : Cmd) : (btC c).size ≤ 8 := bts_size _ _ _ _
/-- s is the bytes of no right command, and nothing but a beginning of one's. -/
def More (s : ByteArray) : Prop := s.size ≠ 0 ∧ ∃ d t, isR d = true ∧ t.size ≠ 0 ∧ btC d = s ++ t
/-- s neither begins with a right command's bytes nor is a beginning of them. -/
def Bad (s : ByteArray) : Prop := s.size ≠ 0 ∧ (∀ d t, isR d = true → s ≠ btC d ++ t) ∧ ∀ d t, isR d = true → btC d ≠ s ++ t
/-- What Next tells. -/
def NxR (s : ByteArray) (c : Cmd) (rest : ByteArray) (e : Int) : Prop :=
  (e = 0 ∧ isR c = true ∧ s = btC c ++ rest) ∨ (c = d0 ∧ rest = ⟨#[]⟩ ∧ ((e = 6 ∧ s = ⟨#[]⟩) ∨ (e = 3 ∧ More s) ∨ (e = 2 ∧ Bad s)))
theorem size_app (a b : ByteArray) : (a ++ b).size = a.size + b.size := ByteArray.size_append
theorem ok_more (s rest : ByteArray) (c : Cmd) (hc : isR c = true) (hs : s = btC c ++ rest) : ¬ More s := by
  rintro ⟨_, d, t, hd, ht, he⟩
  rw [hs, app_assoc] at he
  obtain ⟨_, e⟩ := pre_free d c hd hc ⟨#[]⟩ (rest ++ t) (by rw [app_nil]; exact he)
  have := congrArg ByteArray.size e
  rw [size_app] at this
  have h0 : (⟨#[]⟩ : ByteArray).size = 0 := rfl
  omega
theorem ok_ne (s rest : ByteArray) (c : Cmd) (hc : isR c = true) (hs : s = btC c ++ rest) : s.size ≠ 0 := by
  have := btC_one c hc
  rw [hs, size_app]; omega
/-- It tells one thing alone. -/
theorem NxR.one {s : ByteArray} {c c' : Cmd} {x x' : ByteArray} {e e' : Int} (h : NxR s c x e) (h' : NxR s c' x' e') : c = c' ∧ x = x' ∧ e = e' := by
  have h0 : (⟨#[]⟩ : ByteArray).size = 0 := rfl
  rcases h with ⟨rfl, hc, hs⟩ | ⟨rfl, rfl, h⟩ <;> rcases h' with ⟨rfl, hc', hs'⟩ | ⟨rfl, rfl, h'⟩
  · obtain ⟨h1, h2⟩ := pre_free c c' hc hc' x x' (hs.symm.trans hs')
    exact ⟨h1, h2, rfl⟩
  · exfalso
    rcases h' with ⟨_, h⟩ | ⟨_, h⟩ | ⟨_, h⟩
    · exact ok_ne s x c hc hs (by rw [h]; rfl)
    · exact ok_more s x c hc hs h
    · exact h.2.1 c x hc hs
  · exfalso
    rcases h with ⟨_, h⟩ | ⟨_, h⟩ | ⟨_, h⟩
    · exact ok_ne s x' c' hc' hs' (by rw [h]; rfl)
    · exact ok_more s x' c' hc' hs' h
    · exact h.2.1 c' x' hc' hs'
  · refine ⟨rfl, rfl, ?_⟩
    rcases h with ⟨rfl, h⟩ | ⟨rfl, h⟩ | ⟨rfl, h⟩ <;> rcases h' with ⟨rfl, h'⟩ | ⟨rfl, h'⟩ | ⟨rfl, h'⟩
    · rfl
    · exact absurd (by rw [h]; rfl) h'.1
    · exact absurd (by rw [h]; rfl) h'.1
    · exact absurd (by rw [h']; rfl) h.1
    · rfl
    · obtain ⟨_, d, t, hd, _, he⟩ := h
      exact absurd he (h'.2.2 d t hd)
    · exact absurd (by rw [h']; rfl) h.1
    · obtain ⟨_, d, t, hd, _, he⟩ := h'
      exact absurd he (h.2.2 d t hd)
    · rfl
/-- What is put is scanned again. -/
theorem NxR.put (c : Cmd) (hc : isR c = true) (s : ByteArray) : NxR (btC c ++ s) c s 0 := .inl ⟨rfl, hc, rfl⟩
theorem pre_app (t : ByteArray) (i : Nat) (hi : i ≤ t.size) : t = pre t i ++ suf t i := by
  refine ext_bt _ _ (by rw [size_app, pre_size t i hi, suf_size]; omega) fun k hk => ?_
  rw [bt_append, pre_size t i hi]
  by_cases h : k < i
  · rw [if_pos h, bt_pre t i k hi h]
  · rw [if_neg h, bt_suf]; congr 1; omega
/-- Each beginning of what is put wants more. -/
theorem NxR.pre (c : Cmd) (hc : isR c = true) (i : Nat) (h1 : 1 ≤ i) (hi : i < (btC c).size) : NxR (pre (btC c) i) d0 ⟨#[]⟩ 3 := by
  have hz := pre_size (btC c) i (by omega)
  refine .inr ⟨rfl, rfl, .inr (.inl ⟨rfl, by omega, c, suf (btC c) i, hc, by rw [suf_size]; omega, pre_app _ i (by omega)⟩)⟩
/-- Where nothing whole is left: an end, or a beginning. -/
def Stop (s : ByteArray) : Prop := s.size = 0 ∨ More s
/-- All of s: these commands, and that is left. -/
def AllR (s : ByteArray) (l : List Cmd) (rest : ByteArray) : Prop := (∀ c ∈ l, isR c = true) ∧ s = btsL l ++ rest ∧ Stop rest
def AllBad (s : ByteArray) : Prop := ∃ l rest, (∀ c ∈ l, isR c = true) ∧ s = btsL l ++ rest ∧ Bad rest
theorem bad_stop {s : ByteArray} (h : Bad s) (h' : Stop s) : False := by
  rcases h' with h' | ⟨_, d, t, hd, _, he⟩
  · exact h.1 h'
  · exact h.2.2 d t hd he
theorem bad_ok {s rest : ByteArray} {c : Cmd} (h : Bad s) (hc : isR c = true) (hs : s = btC c ++ rest) : False := h.2.1 c rest hc hs
theorem stop_ok {s rest : ByteArray} {c : Cmd} (h : Stop s) (hc : isR c = true) (hs : s = btC c ++ rest) : False := by
  rcases h with h | h
  · exact ok_ne s rest c hc hs h
  · exact ok_more s rest c hc hs h
/-- What ends nothing whole parts at one place alone. -/
theorem parts_one (P Q : ByteArray → Prop) (hP : ∀ s rest c, P s → isR c = true → s = btC c ++ rest → False) (hQ : ∀ s rest c, Q s → isR c = true → s = btC c ++ rest → False) :
    ∀ (l m : List Cmd) (x y : ByteArray), (∀ c ∈ l, isR c = true) → (∀ c ∈ m, isR c = true) → P x → Q y → btsL l ++ x = btsL m ++ y → l = m ∧ x = y
  | [], [], x, y, _, _, _, _, h => by rw [show btsL [] = ⟨#[]⟩ from rfl, nil_app, nil_app] at h; exact ⟨rfl, h⟩
  | [], d :: m, x, y, _, hm, hx, _, h => by
    rw [show btsL [] = ⟨#[]⟩ from rfl, nil_app, show btsL (d :: m) = btC d ++ btsL m from rfl, app_assoc] at h
    exact (hP x _ d hx (hm d (by simp)) h).elim
  | c :: l, [], x, y, hl, _, _, hy, h => by
    rw [show btsL [] = ⟨#[]⟩ from rfl, nil_app, show btsL (c :: l) = btC c ++ btsL l from rfl, app_assoc] at h
    exact (hQ y _ c hy (hl c (by simp)) h.symm).elim
  | c :: l, d :: m, x, y, hl, hm, hx, hy, h => by
    rw [show btsL (c :: l) = btC c ++ btsL l from rfl, show btsL (d :: m) = btC d ++ btsL m from rfl, app_assoc, app_assoc] at h
    obtain ⟨rfl, e⟩ := pre_free c d (hl c (by simp)) (hm d (by simp)) _ _ h
    obtain ⟨rfl, rfl⟩ := parts_one P Q hP hQ l m x y (fun z hz => hl z (by simp [hz])) (fun z hz => hm z (by simp [hz])) hx hy e
    exact ⟨rfl, rfl⟩
theorem AllR.one {s : ByteArray} {l m : List Cmd} {x y : ByteArray} (h : AllR s l x) (h' : AllR s m y) : l = m ∧ x = y :=
  parts_one Stop Stop (fun _ _ _ h hc hs => stop_ok h hc hs) (fun _ _ _ h hc hs => stop_ok h hc hs) l m x y h.1 h'.1 h.2.2 h'.2.2 (h.2.1.symm.trans h'.2.1)
theorem AllR.not_bad {s : ByteArray} {l : List Cmd} {x : ByteArray} (h : AllR s l x) (h' : AllBad s) : False := by
  obtain ⟨m, y, hm, hs, hb⟩ := h'
  obtain ⟨_, rfl⟩ := parts_one Stop Bad (fun _ _ _ h hc hs => stop_ok h hc hs) (fun _ _ _ h hc hs => bad_ok h hc hs) l m x y h.1 hm h.2.2 hb (h.2.1.symm.trans hs)
  exact bad_stop hb h.2.2
theorem btsL_append (l m : List Cmd) : btsL (l ++ m) = btsL l ++ btsL m := by
  induction l with
  | nil => rw [show btsL [] = ⟨#[]⟩ from rfl, nil_app]; rfl
  | cons c l ih => rw [List.cons_append, show btsL (c :: (l ++ m)) = btC c ++ btsL (l ++ m) from rfl, ih, ← app_assoc]; rfl
theorem btsL_size (l : List Cmd) : (btsL l).size = costL l := by
  induction l with
  | nil => rfl
  | cons c l ih => rw [show btsL (c :: l) = btC c ++ btsL l from rfl, size_app, ih]; rfl
/-- Commands ahead of what is scanned. -/
theorem AllR.ahead {s : ByteArray} {l m : List Cmd} {x : ByteArray} (h : AllR s l x) (hm : ∀ c ∈ m, isR c = true) : AllR (btsL m ++ s) (m ++ l) x :=
  ⟨fun c hc => (List.mem_append.1 hc).elim (hm c) (h.1 c), by rw [btsL_append, app_assoc, ← h.2.1], h.2.2⟩
theorem AllBad.ahead {s : ByteArray} {m : List Cmd} (h : AllBad s) (hm : ∀ c ∈ m, isR c = true) : AllBad (btsL m ++ s) := by
  obtain ⟨l, y, hl, hs, hb⟩ := h
  exact ⟨m ++ l, y, fun c hc => (List.mem_append.1 hc).elim (hm c) (hl c), by rw [btsL_append, app_assoc, ← hs], hb⟩
/-- A beginning of a beginning, or of a command's bytes, stops. -/
theorem stop_pre (c : Cmd) (hc : isR c = true) (x y : ByteArray) (h : btC c = x ++ y) (hy : y.size ≠ 0) : Stop x := by
  by_cases h0 : x.size = 0
  · exact .inl h0
  · exact .inr ⟨h0, c, y, hc, hy, h⟩
theorem app_cut (a b x y : ByteArray) (h : a ++ b = x ++ y) (hs : x.size ≤ a.size) : ∃ z, a = x ++ z ∧ y = z ++ b := by
  refine ⟨suf a x.size, ?_, ?_⟩
  · have e := pre_app a x.size hs
    have hx : pre a x.size = x := by
      refine ext_bt _ _ (pre_size a _ hs) fun k hk => ?_
      rw [pre_size a _ hs] at hk
      rw [bt_pre a _ k hs hk]
      have := congrArg (fun z => bt z k) h
      simp only [bt_append, if_pos hk, if_pos (show k < a.size by omega)] at this
      exact this
    rw [hx] at e; exact e
  · have e := pre_app a x.size hs
    have hx : pre a x.size = x := by
      refine ext_bt _ _ (pre_size a _ hs) fun k hk => ?_
      rw [pre_size a _ hs] at hk
      rw [bt_pre a _ k hs hk]
      have := congrArg (fun z => bt z k) h
      simp only [bt_append, if_pos hk, if_pos (show k < a.size by omega)] at this
      exact this
    rw [hx] at e
    refine (app_left x _ _ ?_).symm
    rw [← app_assoc, ← e, h]
/-- Wherever bytes are cut, the front is whole commands and a beginning of one more, and from that on the rest is scanned. -/
theorem AllR.cut : ∀ (l : List Cmd) (x u v : ByteArray), AllR (u ++ v) l x → ∃ a b left, l = a ++ b ∧ AllR u a left ∧ AllR (left ++ v) b x
  | [], x, u, v, h => by
    obtain ⟨_, hs, hx⟩ := h
    rw [show btsL [] = ⟨#[]⟩ from rfl, nil_app] at hs
    refine ⟨[], [], u, rfl, ⟨fun _ h => (List.not_mem_nil h).elim, by rw [show btsL [] = ⟨#[]⟩ from rfl, nil_app], ?_⟩, ⟨fun _ h => (List.not_mem_nil h).elim, by rw [hs, show btsL [] = ⟨#[]⟩ from rfl, nil_app], hx⟩⟩
    rcases hx with hx | ⟨hx, d, t, hd, ht, he⟩
    · left; rw [← hs, size_app] at hx; omega
    · by_cases h0 : u.size = 0
      · exact .inl h0
      · exact .inr ⟨h0, d, v ++ t, hd, by rw [size_app]; omega, by rw [he, ← hs, app_assoc]⟩
  | c :: l, x, u, v, h => by
    obtain ⟨hl, hs, hx⟩ := h
    have hc := hl c (by simp)
    rw [show btsL (c :: l) = btC c ++ btsL l from rfl, app_assoc] at hs
    by_cases hz : (btC c).size ≤ u.size
    · obtain ⟨z, rfl, hz2⟩ := app_cut u v (btC c) (btsL l ++ x) hs hz
      obtain ⟨a, b, left, rfl, h1, h2⟩ := AllR.cut l x z v ⟨fun d hd => hl d (by simp [hd]), hz2.symm, hx⟩
      exact ⟨c :: a, b, left, rfl, h1.ahead (m := [c]) (fun d hd => by simp at hd; rw [hd]; exact hc) |> fun h => by
        rw [show btsL [c] = btC c from app_nil _] at h; exact h, h2⟩
    · obtain ⟨z, hz2, hz3⟩ := app_cut (btC c) (btsL l ++ x) u v hs.symm (by omega)
      have hzs : z.size ≠ 0 := by
        have := congrArg ByteArray.size hz2
        rw [size_app] at this; omega
      exact ⟨[], c :: l, u, rfl, ⟨fun _ h => (List.not_mem_nil h).elim, by rw [show btsL [] = ⟨#[]⟩ from rfl, nil_app], stop_pre c hc u z hz2 hzs⟩, ⟨hl, by rw [hs]; rw [show btsL (c :: l) = btC c ++ btsL l from rfl, app_assoc], hx⟩⟩
theorem stop_size {s : ByteArray} (h : Stop s) : s.size < 8 := by
  rcases h with h | ⟨_, d, t, hd, ht, he⟩
  · omega
  · have := btC_size d
    rw [he, size_app] at this; omega
theorem stop_next {s : ByteArray} (h : Stop s) : (s.size = 0 ∧ NxR s d0 ⟨#[]⟩ 6) ∨ (s.size ≠ 0 ∧ NxR s d0 ⟨#[]⟩ 3) := by
  rcases h with h | h
  · have e : s = ⟨#[]⟩ := of_size_zero s h
    exact .inl ⟨h, .inr ⟨rfl, rfl, .inl ⟨rfl, e⟩⟩⟩
  · exact .inr ⟨h.1, .inr ⟨rfl, rfl, .inr (.inl ⟨rfl, h⟩)⟩⟩
end Vt
end Go.Proofs.YtcakklafjfobeaaDoor
