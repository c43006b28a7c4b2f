/- Commands and terminals in plain mathematics. -/
import Derived.Test.YtgpebdoafblacaaDoorMGp
import Derived.Test.YtgpebdoafblacaaDoorMWp
import Derived.Test.YtgpebdoafblacaaDoorMLb
/- Commands in plain mathematics. -/
/- Commands in plain mathematics: which are right, their bytes, their pads; no command's bytes are a beginning of another one's. -/
set_option linter.unusedVariables false
namespace Go.Proofs.YtgpebdoafblacaaDoor
open Go.RowKit Gl
namespace Vt
def isC (k a b r : Int) : Bool :=
  if k = 1 then Wd.shw r && (decide (a = 0) && decide (b = 0))
  else if k = 2 then decide (0 ≤ a ∧ a ≤ 23 ∧ 0 ≤ b ∧ b ≤ 79 ∧ r = 0)
  else if 3 ≤ k ∧ k ≤ 6 then decide (1 ≤ a ∧ a ≤ 80 ∧ b = 0 ∧ r = 0)
  else decide (7 ≤ k ∧ k ≤ 12 ∧ a = 0 ∧ b = 0 ∧ r = 0)
theorem isC_iff (k a b r : Int) : isC k a b r = true ↔ (k = 1 ∧ Wd.shw r = true ∧ a = 0 ∧ b = 0) ∨ (k = 2 ∧ 0 ≤ a ∧ a ≤ 23 ∧ 0 ≤ b ∧ b ≤ 79 ∧ r = 0) ∨ (3 ≤ k ∧ k ≤ 6 ∧ 1 ≤ a ∧ a ≤ 80 ∧ b = 0 ∧ r = 0) ∨ (7 ≤ k ∧ k ≤ 12 ∧ a = 0 ∧ b = 0 ∧ r = 0) := by
  unfold isC
  split
  · simp [*]
  · split
    · simp [*]
    · split
      · simp [*]; omega
      · simp [*]; omega
/-- A number's digits, from 0 to 99. -/
def dg (n : Int) : List Int := if n < 10 then [48 + n] else [48 + n / 10, 48 + n % 10]
def dS (n : Int) : ByteArray := strOfNums (dg n)
/-- The bytes of a command that is no text. -/
def btL (k a b : Int) : List Int :=
  if k = 2 then 27 :: 91 :: (dg (a + 1) ++ 59 :: (dg (b + 1) ++ [72]))
  else if k ≤ 6 then 27 :: 91 :: ((if 1 < a then dg a else []) ++ [62 + k])
  else if k = 7 then [27, 91, 75] else if k = 8 then [27, 91, 74] else if k = 9 then [13] else if k = 10 then [10] else if k = 11 then [8] else [7]
def bts (k a b r : Int) : ByteArray := if isC k a b r then (if k = 1 then putS r else strOfNums (btL k a b)) else ⟨#[]⟩
def err (k a b r : Int) : Int := if isC k a b r then 0 else 1
def pads (k a b r : Int) : Int := if isC k a b r then (if k = 7 then 1 else if k = 8 then 2 else 0) else 0
theorem bts_no {k a b r : Int} (h : isC k a b r = false) : bts k a b r = ⟨#[]⟩ := by unfold bts; rw [h]; rfl
theorem bts_text {a b r : Int} (h : isC 1 a b r = true) : bts 1 a b r = putS r := by unfold bts; rw [h]; rfl
theorem bts_form {k a b r : Int} (h : isC k a b r = true) (hk : k ≠ 1) : bts k a b r = strOfNums (btL k a b) := by unfold bts; rw [h, if_pos rfl, if_neg hk]
theorem shw_vld {r : Int} (h : Wd.shw r = true) : vld r = true ∧ 32 ≤ r ∧ (r < 127 ∨ 159 < r) := by
  unfold Wd.shw at h; simp at h; exact h
theorem dg_len (n : Int) : 1 ≤ (dg n).length ∧ (dg n).length ≤ 2 := by unfold dg; split <;> simp
theorem btL_len (k a b : Int) : 1 ≤ (btL k a b).length ∧ (btL k a b).length ≤ 8 := by
  have h1 := dg_len (a + 1)
  have h2 := dg_len (b + 1)
  have h3 := dg_len a
  unfold btL
  repeat' split
  all_goals simp
  all_goals omega
theorem bts_size (k a b r : Int) : (bts k a b r).size ≤ 8 := by
  unfold bts
  split
  · split
    · have h := ‹isC k a b r = true›
      have hk := ‹k = 1›
      have hs : Wd.shw r = true := by
        rcases (isC_iff k a b r).1 h with h | h | h | h
        · exact h.2.1
        all_goals omega
      have := put_size r (shw_vld hs).1
      omega
    · rw [strOfNums_size]; exact (btL_len k a b).2
  · show 0 ≤ 8; omega
end Vt
end Go.Proofs.YtgpebdoafblacaaDoor
/- Commands' bytes: from the second one on each is 32 or more. -/
set_option linter.unusedVariables false
namespace Go.Proofs.YtgpebdoafblacaaDoor
open Go.RowKit Go.PlainAid
open Gl
namespace Vt
/-- Numbers as bytes, told again. -/
theorem bt_list' (xs : List Int) (hx : ∀ x ∈ xs, 0 ≤ x ∧ x ≤ 255) (j : Nat) (hj : j < xs.length) : bt (strOfNums xs) j = xs.getD j 0 := by
  have h : xs[j]? = some (xs.getD j 0) := by simp [List.getD, hj]
  exact bt_strOf xs j _ h (hx _ (List.mem_of_getElem? h))
theorem dg_bd (n : Int) (h : 0 ≤ n ∧ n ≤ 99) : ∀ x ∈ dg n, 48 ≤ x ∧ x ≤ 57 := by
  intro x hx
  unfold dg at hx
  split at hx
  · simp at hx; omega
  · simp at hx; omega
theorem btL_bd (k a b r : Int) (h : isC k a b r = true) (hk : k ≠ 1) : ∀ x ∈ btL k a b, 0 ≤ x ∧ x ≤ 255 := by
  intro x hx
  have hc := (isC_iff k a b r).1 h
  have d1 := dg_bd (a + 1)
  have d2 := dg_bd (b + 1)
  have d3 := dg_bd a
  unfold btL at hx
  split at hx
  · simp at hx
    rcases hx with hx | hx | hx | hx | hx | hx
    all_goals first | omega | (have := d1 (by omega) x hx; omega) | (have := d2 (by omega) x hx; omega)
  · split at hx
    · simp at hx
      rcases hx with hx | hx | hx | hx
      · omega
      · omega
      · have := d3 (by omega) x hx.2; omega
      · omega
    · repeat' split at hx
      all_goals simp at hx
      all_goals omega
/-- The first byte of what is shown is 32 or more; of another command it is 27 or less. -/
theorem text_first (r : Int) (h : Wd.shw r = true) : 32 ≤ bt (putS r) 0 := by
  obtain ⟨hv, h1, h2⟩ := shw_vld h
  have hv2 := (vld_iff r).1 hv
  rcases put_form r hv with ⟨_, e⟩ | ⟨_, _, e⟩ | ⟨_, _, e⟩ | ⟨_, e⟩
  all_goals (rw [e, bt_strOf _ 0 _ rfl (by omega)]; omega)
theorem text_hi (r : Int) (h : Wd.shw r = true) (j : Nat) (hj : j < (putS r).size) : 32 ≤ bt (putS r) j := by
  obtain ⟨hv, h1, h2⟩ := shw_vld h
  have hv2 := (vld_iff r).1 hv
  rcases put_form r hv with ⟨_, e⟩ | ⟨_, _, e⟩ | ⟨_, _, e⟩ | ⟨_, e⟩
  all_goals
    rw [e, strOfNums_size] at hj
    simp at hj
    rw [e]
  · rcases (show j = 0 by omega) with rfl
    rw [bt_strOf _ 0 _ rfl (by omega)]; omega
  · rcases (show j = 0 ∨ j = 1 by omega) with rfl | rfl
    all_goals (rw [bt_strOf _ _ _ rfl (by omega)]; omega)
  · rcases (show j = 0 ∨ j = 1 ∨ j = 2 by omega) with rfl | rfl | rfl
    all_goals (rw [bt_strOf _ _ _ rfl (by omega)]; omega)
  · rcases (show j = 0 ∨ j = 1 ∨ j = 2 ∨ j = 3 by omega) with rfl | rfl | rfl | rfl
    all_goals (rw [bt_strOf _ _ _ rfl (by omega)]; omega)
/-- Beyond the first one, no byte of a command is below 32. -/
theorem btL_hi (k a b r : Int) (h : isC k a b r = true) (hk : k ≠ 1) (j : Nat) (h1 : 1 ≤ j) (hj : j < (btL k a b).length) : 32 ≤ (btL k a b).getD j 0 := by
  have hc := (isC_iff k a b r).1 h
  have gen : ∀ (x : Int) (l : List Int), (∀ y ∈ l, 32 ≤ y) → ∀ j, 1 ≤ j → j < (x :: l).length → 32 ≤ (x :: l).getD j 0 := by
    intro x l hl j h1 hj
    obtain ⟨i, rfl⟩ : ∃ i, j = i + 1 := ⟨j - 1, by omega⟩
    have hi : i < l.length := by simpa using hj
    have e : (x :: l).getD (i + 1) 0 = l[i] := by simp [List.getD, hi]
    rw [e]
    exact hl _ (List.getElem_mem hi)
  have d1 := dg_bd (a + 1)
  have d2 := dg_bd (b + 1)
  have d3 := dg_bd a
  revert hj
  unfold btL
  split
  · intro hj
    refine gen _ _ ?_ j h1 hj
    intro y hy
    simp at hy
    rcases hy with hx | hx | hx | hx | hx
    all_goals first | omega | (have := d1 (by omega) y hx; omega) | (have := d2 (by omega) y hx; omega)
  · split
    · intro hj
      refine gen _ _ ?_ j h1 hj
      intro y hy
      simp at hy
      rcases hy with hx | hx | hx
      · omega
      · have := d3 (by omega) y hx.2; omega
      · omega
    · repeat' split
      all_goals intro hj
      all_goals refine gen _ _ ?_ j h1 hj
      all_goals simp
theorem bts_hi (k a b r : Int) (h : isC k a b r = true) (j : Nat) (h1 : 1 ≤ j) (hj : j < (bts k a b r).size) : 32 ≤ bt (bts k a b r) j := by
  by_cases hk : k = 1
  · subst hk
    rw [bts_text h] at hj ⊢
    rcases (isC_iff 1 a b r).1 h with hc | hc | hc | hc
    · exact text_hi r hc.2.1 j hj
    all_goals omega
  · rw [bts_form h hk] at hj ⊢
    rw [strOfNums_size] at hj
    rw [bt_list' _ (btL_bd k a b r h hk) j hj]
    exact btL_hi k a b r h hk j h1 hj
theorem bts_one (k a b r : Int) (h : isC k a b r = true) : 1 ≤ (bts k a b r).size := by
  by_cases hk : k = 1
  · subst hk
    rw [bts_text h]
    rcases (isC_iff 1 a b r).1 h with hc | hc | hc | hc
    · exact (put_size r (shw_vld hc.2.1).1).1
    all_goals omega
  · rw [bts_form h hk, strOfNums_size]
    exact (btL_len k a b).1
end Vt
end Go.Proofs.YtgpebdoafblacaaDoor
/- No command's bytes are a beginning of another one's. -/
set_option linter.unusedVariables false
namespace Go.Proofs.YtgpebdoafblacaaDoor
open Go.RowKit Go.PlainAid Gl
namespace Vt
/-- Digits end where the first byte that is none stands. -/
theorem run_dg : ∀ (p q : List Int) (x y : Int) (t u : List Int), (∀ z ∈ p, 48 ≤ z ∧ z ≤ 57) → (∀ z ∈ q, 48 ≤ z ∧ z ≤ 57) → ¬ (48 ≤ x ∧ x ≤ 57) → ¬ (48 ≤ y ∧ y ≤ 57) → p ++ x :: t = q ++ y :: u → p = q ∧ x = y ∧ t = u
  | [], [], x, y, t, u, _, _, _, _, h => by simp at h; exact ⟨rfl, h.1, h.2⟩
  | [], z :: q, x, y, t, u, _, hq, hx, _, h => by
    simp at h
    have := hq z (by simp)
    omega
  | z :: p, [], x, y, t, u, hp, _, _, hy, h => by
    simp at h
    have := hp z (by simp)
    omega
  | z :: p, z' :: q, x, y, t, u, hp, hq, hx, hy, h => by
    simp at h
    obtain ⟨h1, h2, h3⟩ := run_dg p q x y t u (fun v hv => hp v (by simp [hv])) (fun v hv => hq v (by simp [hv])) hx hy h.2
    exact ⟨by rw [h.1, h1], h2, h3⟩
theorem dg_inj (n m : Int) (h0 : 0 ≤ n ∧ n ≤ 99) (h1 : 0 ≤ m ∧ m ≤ 99) (h : dg n = dg m) : n = m := by
  unfold dg at h
  split at h <;> split at h <;> simp at h <;> omega
def dgo (a : Int) : List Int := if 1 < a then dg a else []
theorem dgo_bd (n : Int) (h : 1 ≤ n ∧ n ≤ 80) : ∀ x ∈ dgo n, 48 ≤ x ∧ x ≤ 57 := by
  unfold dgo
  split
  · exact dg_bd n (by omega)
  · intro x hx; cases hx
theorem dgo_inj (n m : Int) (h0 : 1 ≤ n ∧ n ≤ 80) (h1 : 1 ≤ m ∧ m ≤ 80) (h : dgo n = dgo m) : n = m := by
  have l1 := dg_len n
  have l2 := dg_len m
  unfold dgo at h
  split at h <;> split at h
  · exact dg_inj n m (by omega) (by omega) h
  · rw [h] at l1; simp at l1
  · rw [← h] at l2; simp at l2
  · omega
theorem btL_go (a b : Int) : btL 2 a b = 27 :: 91 :: (dg (a + 1) ++ 59 :: (dg (b + 1) ++ [72])) := rfl
theorem btL_move (k a b : Int) (h : 3 ≤ k ∧ k ≤ 6) : btL k a b = 27 :: 91 :: (dgo a ++ [62 + k]) := by
  unfold btL dgo
  rw [if_neg (by omega), if_pos h.2]
theorem btL_one (k a b : Int) (h : 7 ≤ k ∧ k ≤ 12) : (k = 7 ∧ btL k a b = [27, 91, 75]) ∨ (k = 8 ∧ btL k a b = [27, 91, 74]) ∨ (k = 9 ∧ btL k a b = [13]) ∨ (k = 10 ∧ btL k a b = [10]) ∨ (k = 11 ∧ btL k a b = [8]) ∨ (k = 12 ∧ btL k a b = [7]) := by
  rcases (show k = 7 ∨ k = 8 ∨ k = 9 ∨ k = 10 ∨ k = 11 ∨ k = 12 by omega) with rfl | rfl | rfl | rfl | rfl | rfl
  · exact .inl ⟨rfl, rfl⟩
  · exact .inr (.inl ⟨rfl, rfl⟩)
  · exact .inr (.inr (.inl ⟨rfl, rfl⟩))
  · exact .inr (.inr (.inr (.inl ⟨rfl, rfl⟩)))
  · exact .inr (.inr (.inr (.inr (.inl ⟨rfl, rfl⟩))))
  · exact .inr (.inr (.inr (.inr (.inr ⟨rfl, rfl⟩))))
/-- No numbers of a command are a beginning of another one's. -/
theorem btL_pre (k a b r k' a' b' r' : Int) (h : isC k a b r = true) (hk : k ≠ 1) (h' : isC k' a' b' r' = true) (hk' : k' ≠ 1) (t : List Int) (ht : btL k a b ++ t = btL k' a' b') : k = k' ∧ a = a' ∧ b = b' ∧ r = r' := by
  rcases (isC_iff k a b r).1 h with c | ⟨rfl, c⟩ | c | c
  · omega
  · rcases (isC_iff k' a' b' r').1 h' with c' | ⟨rfl, c'⟩ | c' | c'
    · omega
    · rw [btL_go, btL_go] at ht
      simp only [List.cons_append, List.append_assoc, List.cons.injEq, true_and] at ht
      obtain ⟨e1, _, e2⟩ := run_dg _ _ _ _ _ _ (dg_bd (a + 1) (by omega)) (dg_bd (a' + 1) (by omega)) (by omega) (by omega) ht
      obtain ⟨e3, _, _⟩ := run_dg _ _ _ _ _ _ (dg_bd (b + 1) (by omega)) (dg_bd (b' + 1) (by omega)) (by omega) (by omega) e2
      have := dg_inj _ _ (by omega) (by omega) e1
      have := dg_inj _ _ (by omega) (by omega) e3
      omega
    · rw [btL_go, btL_move k' a' b' ⟨c'.1, c'.2.1⟩] at ht
      simp only [List.cons_append, List.append_assoc, List.cons.injEq, true_and] at ht
      obtain ⟨_, e, _⟩ := run_dg _ _ _ _ _ _ (dg_bd (a + 1) (by omega)) (dgo_bd a' (by omega)) (by omega) (by omega) ht
      omega
    · exfalso
      rw [btL_go] at ht
      have d := dg_bd (a + 1) (by omega)
      have dl := dg_len (a + 1)
      match hd : dg (a + 1), dl with
      | x :: q, _ =>
        have hx := d x (by rw [hd]; simp)
        rw [hd] at ht
        rcases btL_one k' a' b' ⟨c'.1, c'.2.1⟩ with ⟨_, e⟩ | ⟨_, e⟩ | ⟨_, e⟩ | ⟨_, e⟩ | ⟨_, e⟩ | ⟨_, e⟩
        all_goals (rw [e] at ht; simp at ht)
        all_goals omega
  · rw [btL_move k a b ⟨c.1, c.2.1⟩] at ht
    rcases (isC_iff k' a' b' r').1 h' with c' | ⟨rfl, c'⟩ | c' | c'
    · omega
    · rw [btL_go] at ht
      simp only [List.cons_append, List.append_assoc, List.cons.injEq, true_and] at ht
      obtain ⟨_, e, _⟩ := run_dg _ _ _ _ _ _ (dgo_bd a (by omega)) (dg_bd (a' + 1) (by omega)) (by omega) (by omega) ht
      omega
    · rw [btL_move k' a' b' ⟨c'.1, c'.2.1⟩] at ht
      simp only [List.cons_append, List.append_assoc, List.cons.injEq, true_and] at ht
      obtain ⟨e1, e, _⟩ := run_dg _ _ _ _ _ _ (dgo_bd a (by omega)) (dgo_bd a' (by omega)) (by omega) (by omega) ht
      have := dgo_inj _ _ (by omega) (by omega) e1
      omega
    · exfalso
      have d := dgo_bd a (by omega)
      rcases btL_one k' a' b' ⟨c'.1, c'.2.1⟩ with ⟨_, e⟩ | ⟨_, e⟩ | ⟨_, e⟩ | ⟨_, e⟩ | ⟨_, e⟩ | ⟨_, e⟩
      all_goals rw [e] at ht
      all_goals cases hd : dgo a
      all_goals rw [hd] at ht
      all_goals simp at ht
      all_goals try omega
      all_goals (have hx := d _ (by rw [hd]; exact List.mem_cons_self ..); omega)
  · rcases (isC_iff k' a' b' r').1 h' with c' | ⟨rfl, c'⟩ | c' | c'
    · omega
    · exfalso
      rw [btL_go] at ht
      have d := dg_bd (a' + 1) (by omega)
      have dl := dg_len (a' + 1)
      match hd : dg (a' + 1), dl with
      | x :: q, _ =>
        have hx := d x (by rw [hd]; simp)
        rw [hd] at ht
        rcases btL_one k a b ⟨c.1, c.2.1⟩ with ⟨_, e⟩ | ⟨_, e⟩ | ⟨_, e⟩ | ⟨_, e⟩ | ⟨_, e⟩ | ⟨_, e⟩
        all_goals (rw [e] at ht; simp at ht)
        all_goals omega
    · exfalso
      rw [btL_move k' a' b' ⟨c'.1, c'.2.1⟩] at ht
      have d := dgo_bd a' (by omega)
      rcases btL_one k a b ⟨c.1, c.2.1⟩ with ⟨_, e⟩ | ⟨_, e⟩ | ⟨_, e⟩ | ⟨_, e⟩ | ⟨_, e⟩ | ⟨_, e⟩
      all_goals rw [e] at ht
      all_goals cases hd : dgo a'
      all_goals rw [hd] at ht
      all_goals simp at ht
      all_goals try omega
      all_goals (have hx := d _ (by rw [hd]; exact List.mem_cons_self ..); omega)
    · rcases btL_one k a b ⟨c.1, c.2.1⟩ with ⟨_, e⟩ | ⟨_, e⟩ | ⟨_, e⟩ | ⟨_, e⟩ | ⟨_, e⟩ | ⟨_, e⟩
      all_goals rcases btL_one k' a' b' ⟨c'.1, c'.2.1⟩ with ⟨_, e'⟩ | ⟨_, e'⟩ | ⟨_, e'⟩ | ⟨_, e'⟩ | ⟨_, e'⟩ | ⟨_, e'⟩
      all_goals first
        | omega
        | (exfalso; rw [e, e'] at ht; simp at ht)
theorem btL_first (k a b r : Int) (h : isC k a b r = true) (hk : k ≠ 1) : (btL k a b).getD 0 0 ≤ 27 := by
  rcases (isC_iff k a b r).1 h with c | ⟨rfl, c⟩ | c | c
  · omega
  · rw [btL_go]; exact Int.le_refl _
  · rw [btL_move k a b ⟨c.1, c.2.1⟩]; exact Int.le_refl _
  · rcases btL_one k a b ⟨c.1, c.2.1⟩ with ⟨_, e⟩ | ⟨_, e⟩ | ⟨_, e⟩ | ⟨_, e⟩ | ⟨_, e⟩ | ⟨_, e⟩
    all_goals (rw [e]; decide)
theorem bts_first (k a b r : Int) (h : isC k a b r = true) (hk : k ≠ 1) : bt (bts k a b r) 0 ≤ 27 := by
  rw [bts_form h hk, bt_list' _ (btL_bd k a b r h hk) 0 (btL_len k a b).1]
  exact btL_first k a b r h hk
theorem text_pre (r r' : Int) (hv : vld r = true) (hv' : vld r' = true) (hs : (putS r).size ≤ (putS r').size) (hb : ∀ j, j < (putS r).size → bt (putS r') j = bt (putS r) j) : r = r' := by
  obtain ⟨o1, v1⟩ := ok_of_put (putS r') 0 r hv (by omega) (fun k hk => by rw [Nat.zero_add]; exact hb k hk)
  obtain ⟨o2, v2⟩ := ok_of_put (putS r') 0 r' hv' (by omega) (fun k hk => by rw [Nat.zero_add])
  have e := ok_one _ _ _ _ o1 o2
  rw [e] at v1
  exact v1.symm.trans v2
/-- No command's bytes are a beginning of another one's. -/
theorem bts_pre (k a b r k' a' b' r' : Int) (h : isC k a b r = true) (h' : isC k' a' b' r' = true) (hs : (bts k a b r).size ≤ (bts k' a' b' r').size) (hb : ∀ j, j < (bts k a b r).size → bt (bts k' a' b' r') j = bt (bts k a b r) j) : k = k' ∧ a = a' ∧ b = b' ∧ r = r' := by
  have h1 := bts_one k a b r h
  have hb0 := hb 0 (by omega)
  by_cases hk : k = 1
  · subst hk
    rcases (isC_iff 1 a b r).1 h with c | c | c | c
    · have hf := text_first r c.2.1
      rw [← bts_text h] at hf
      by_cases hk' : k' = 1
      · subst hk'
        rcases (isC_iff 1 a' b' r').1 h' with c' | c' | c' | c'
        · rw [bts_text h, bts_text h'] at hs hb
          have := text_pre r r' (shw_vld c.2.1).1 (shw_vld c'.2.1).1 hs hb
          omega
        all_goals omega
      · have := bts_first k' a' b' r' h' hk'
        omega
    all_goals omega
  · have hf := bts_first k a b r h hk
    by_cases hk' : k' = 1
    · subst hk'
      rcases (isC_iff 1 a' b' r').1 h' with c' | c' | c' | c'
      · have := text_first r' c'.2.1
        rw [← bts_text h'] at this
        omega
      all_goals omega
    · rw [bts_form h hk, bts_form h' hk'] at hb hs
      rw [strOfNums_size, strOfNums_size] at hs
      rw [strOfNums_size] at hb
      refine btL_pre k a b r k' a' b' r' h hk h' hk' ((btL k' a' b').drop (btL k a b).length) ?_
      refine List.ext_getElem (by simp; omega) fun j hj1 hj2 => ?_
      by_cases hj : j < (btL k a b).length
      · have e := hb j hj
        rw [bt_list' _ (btL_bd k a b r h hk) j hj, bt_list' _ (btL_bd k' a' b' r' h' hk') j hj2] at e
        rw [List.getElem_append_left hj]
        simp [List.getD, hj, hj2] at e
        exact e.symm
      · rw [List.getElem_append_right (by omega), List.getElem_drop]
        congr 1
        omega
theorem bts_ext (k a b r k' a' b' r' : Int) (h : isC k a b r = true) (h' : isC k' a' b' r' = true) (hs : (bts k a b r).size ≤ (bts k' a' b' r').size) (hne : ¬ (k = k' ∧ a = a' ∧ b = b' ∧ r = r')) :
    (((bts k' a' b' r').extract 0 (bts k a b r).size).toList == (bts k a b r).toList) = false := by
  rw [str_eq_of_toList]
  refine decide_eq_false fun e => hne (bts_pre k a b r k' a' b' r' h h' hs fun j hj => ?_)
  rw [← bt_pre _ _ j hs hj]
  unfold pre
  rw [e]
end Vt
end Go.Proofs.YtgpebdoafblacaaDoor
/- Rows of commands in plain mathematics, and in memory; what they cost. -/
set_option linter.unusedVariables false
namespace Go.Proofs.YtgpebdoafblacaaDoor
open Go.RowKit Gl L
namespace Vt
/-- A command: kind, two numbers, and a sign. -/
abbrev Cmd := Int × Int × Int × Int
def d0 : Cmd := (0, 0, 0, 0)
def cK (l : List Cmd) (i : Nat) : Int := (l.getD i d0).1
def cA (l : List Cmd) (i : Nat) : Int := (l.getD i d0).2.1
def cB (l : List Cmd) (i : Nat) : Int := (l.getD i d0).2.2.1
def cR (l : List Cmd) (i : Nat) : Int := (l.getD i d0).2.2.2
def cells4 (c : Cmd) : List Value := [.int .i64 c.1, .int .i64 c.2.1, .int .i64 c.2.2.1, .int .i32 c.2.2.2]
def flatC (l : List Cmd) : List Value := l.flatMap cells4
theorem flatC_len (l : List Cmd) : (flatC l).length = l.length * 4 := by
  induction l with
  | nil => rfl
  | cons c l ih => simp [flatC, cells4] at ih ⊢; omega
theorem flatC_append (l m : List Cmd) : flatC (l ++ m) = flatC l ++ flatC m := by simp [flatC]
theorem flatC_at (l : List Cmd) : ∀ i, i < l.length → (flatC l)[i * 4]? = some (.int .i64 (cK l i)) ∧ (flatC l)[i * 4 + 1]? = some (.int .i64 (cA l i)) ∧ (flatC l)[i * 4 + 2]? = some (.int .i64 (cB l i)) ∧ (flatC l)[i * 4 + 3]? = some (.int .i32 (cR l i)) := by
  induction l with
  | nil => intro i hi; simp at hi
  | cons c l ih =>
    intro i hi
    have e : flatC (c :: l) = cells4 c ++ flatC l := rfl
    have hl : (cells4 c).length = 4 := rfl
    rw [e]
    cases i with
    | zero => refine ⟨rfl, rfl, rfl, rfl⟩
    | succ i =>
      obtain ⟨h0, h1, h2, h3⟩ := ih i (by simpa using hi)
      have sh : ∀ j, (cells4 c ++ flatC l)[(i + 1) * 4 + j]? = (flatC l)[i * 4 + j]? := fun j => by
        rw [List.getElem?_append_right (by omega), hl]
        congr 1
        omega
      refine ⟨(sh 0).trans h0, (sh 1).trans h1, (sh 2).trans h2, (sh 3).trans h3⟩
theorem flatC_one (l : List Cmd) : ∀ u ∈ flatC l, u.oneCell' = true := by
  intro u hu
  simp only [flatC, List.mem_flatMap] at hu
  obtain ⟨c, _, hc⟩ := hu
  simp [cells4] at hc
  rcases hc with rfl | rfl | rfl | rfl <;> rfl
def szC (c : Cmd) : Nat := (bts c.1 c.2.1 c.2.2.1 c.2.2.2).size
def pdC (c : Cmd) : Int := pads c.1 c.2.1 c.2.2.1 c.2.2.2
def costL (l : List Cmd) : Nat := (l.map szC).sum
def padL (l : List Cmd) : Int := (l.map pdC).sum
theorem pdC_bd (c : Cmd) : 0 ≤ pdC c ∧ pdC c ≤ 2 := by
  unfold pdC pads
  split
  · split
    · omega
    · split <;> omega
  · omega
theorem take_next (l : List Cmd) (i : Nat) (h : i < l.length) : l.take (i + 1) = l.take i ++ [l.getD i d0] := by
  rw [List.take_add_one]
  simp [List.getD, h]
theorem costL_next (l : List Cmd) (i : Nat) (h : i < l.length) : costL (l.take (i + 1)) = costL (l.take i) + (bts (cK l i) (cA l i) (cB l i) (cR l i)).size := by
  rw [take_next l i h]
  simp [costL, szC, cK, cA, cB, cR]
theorem padL_next (l : List Cmd) (i : Nat) (h : i < l.length) : padL (l.take (i + 1)) = padL (l.take i) + pads (cK l i) (cA l i) (cB l i) (cR l i) := by
  rw [take_next l i h]
  simp [padL, pdC, cK, cA, cB, cR]
theorem costL_append (l m : List Cmd) : costL (l ++ m) = costL l + costL m := by simp [costL]
theorem padL_append (l m : List Cmd) : padL (l ++ m) = padL l + padL m := by simp [padL]
theorem costL_bd (l : List Cmd) : costL l ≤ 8 * l.length := by
  induction l with
  | nil => exact Nat.le_refl _
  | cons c l ih =>
    have h : costL (c :: l) = szC c + costL l := rfl
    have : szC c ≤ 8 := bts_size _ _ _ _
    rw [h, List.length_cons]; omega
theorem padL_bd (l : List Cmd) : 0 ≤ padL l ∧ padL l ≤ 2 * l.length := by
  induction l with
  | nil => decide
  | cons c l ih =>
    have h : padL (c :: l) = pdC c + padL l := rfl
    have := pdC_bd c
    rw [h, List.length_cons]; omega
/-- A row of commands that can be read. -/
theorem cmds_row {w : World} {v : Value} {l : List Cmd} (h : Rw w v 4 l.length (flatC l)) : ∃ A cap, v = .slice A l.length cap ∧ (l.length = 0 ∨ ∃ g off, A = some ⟨g, off, none⟩ ∧ ∀ k, k < l.length →
    w.cell? ⟨g, off + k * 4, none⟩ = some (.int .i64 (cK l k)) ∧ w.cell? ⟨g, off + k * 4 + 1, none⟩ = some (.int .i64 (cA l k)) ∧ w.cell? ⟨g, off + k * 4 + 2, none⟩ = some (.int .i64 (cB l k)) ∧ w.cell? ⟨g, off + k * 4 + 3, none⟩ = some (.int .i32 (cR l k))) := by
  obtain ⟨_, A, cap, rfl, h⟩ := h
  refine ⟨A, cap, rfl, ?_⟩
  rcases h with ⟨h, _⟩ | ⟨g, off, rfl, hc⟩
  · exact .inl h
  · refine .inr ⟨g, off, rfl, fun k hk => ?_⟩
    obtain ⟨h0, h1, h2, h3⟩ := flatC_at l k hk
    exact ⟨hc _ _ h0, hc _ _ h1, hc _ _ h2, hc _ _ h3⟩
end Vt
end Go.Proofs.YtgpebdoafblacaaDoor
/- Scanning in plain mathematics: what Next and All tell, one thing alone; cuts. -/
set_option linter.unusedVariables false
namespace Go.Proofs.YtgpebdoafblacaaDoor
open Go.RowKit Go.PlainAid Gl
namespace Vt
def isR (c : Cmd) : Bool := isC c.1 c.2.1 c.2.2.1 c.2.2.2
def btC (c : Cmd) : ByteArray := bts c.1 c.2.1 c.2.2.1 c.2.2.2
/-- The bytes of several commands. -/
def btsL : List Cmd → ByteArray
  | [] => ⟨#[]⟩
  | c :: l => btC c ++ btsL l
theorem app_nil (s : ByteArray) : s ++ ⟨#[]⟩ = s := by apply ext_list; rw [ByteArray.data_append]; simp
theorem nil_app (s : ByteArray) : (⟨#[]⟩ : ByteArray) ++ s = s := by apply ext_list; rw [ByteArray.data_append]; simp
theorem app_assoc (a b c : ByteArray) : a ++ b ++ c = a ++ (b ++ c) := by apply ext_list; simp [ByteArray.data_append]
theorem app_inj (a b x y : ByteArray) (h : a ++ x = b ++ y) (hs : a.size = b.size) : a = b ∧ x = y := by
  have e : a.data.toList ++ x.data.toList = b.data.toList ++ y.data.toList := by
    have := congrArg (fun z : ByteArray => z.data.toList) h
    simpa [ByteArray.data_append] using this
  have hl : a.data.toList.length = b.data.toList.length := by rw [size_list, size_list]; exact hs
  obtain ⟨h1, h2⟩ := List.append_inj e hl
  exact ⟨ext_list _ _ h1, ext_list _ _ h2⟩
theorem app_left (a x y : ByteArray) (h : a ++ x = a ++ y) : x = y := (app_inj a a x y h rfl).2
/-- No command's bytes are a beginning of another one's. -/
theorem pre_free (c d : Cmd) (hc : isR c = true) (hd : isR d = true) (x y : ByteArray) (h : btC c ++ x = btC d ++ y) : c = d ∧ x = y := by
  have hb : ∀ j, j < (btC c).size → j < (btC d).size → bt (btC c) j = bt (btC d) j := fun j h1 h2 => by
    have e := congrArg (fun z => bt z j) h
    simp only [bt_append, if_pos h1, if_pos h2] at e
    exact e
  have hcd : c = d := by
    obtain ⟨k, a, b, r⟩ := c
    obtain ⟨k', a', b', r'⟩ := d
    by_cases hs : (bts k a b r).size ≤ (bts k' a' b' r').size
    · obtain ⟨rfl, rfl, rfl, rfl⟩ := bts_pre k a b r k' a' b' r' hc hd hs fun j hj => (hb j hj (Nat.lt_of_lt_of_le hj hs)).symm
      rfl
    · obtain ⟨rfl, rfl, rfl, rfl⟩ := bts_pre k' a' b' r' k a b r hd hc (by omega) fun j hj => hb j (Nat.lt_of_lt_of_le hj (show (bts k' a' b' r').size ≤ (bts k a b r).size by omega)) hj
      rfl
  subst hcd
  exact ⟨rfl, app_left _ _ _ h⟩
theorem btC_one (c : Cmd) (h : isR c = true) : 1 ≤ (btC c).size := bts_one _ _ _ _ h
theorem btC_size (c : Cmd) : (btC c).size ≤ 8 := bts_size _ _ _ _
/-- s is the bytes of no right command, and nothing but a beginning of one's. -/
def More (s : ByteArray) : Prop := s.size ≠ 0 ∧ ∃ d t, isR d = true ∧ t.size ≠ 0 ∧ btC d = s ++ t
/-- s neither begins with a right command's bytes nor is a beginning of them. -/
def Bad (s : ByteArray) : Prop := s.size ≠ 0 ∧ (∀ d t, isR d = true → s ≠ btC d ++ t) ∧ ∀ d t, isR d = true → btC d ≠ s ++ t
/-- What Next tells. -/
def NxR (s : ByteArray) (c : Cmd) (rest : ByteArray) (e : Int) : Prop :=
  (e = 0 ∧ isR c = true ∧ s = btC c ++ rest) ∨ (c = d0 ∧ rest = ⟨#[]⟩ ∧ ((e = 6 ∧ s = ⟨#[]⟩) ∨ (e = 3 ∧ More s) ∨ (e = 2 ∧ Bad s)))
theorem size_app (a b : ByteArray) : (a ++ b).size = a.size + b.size := ByteArray.size_append
theorem ok_more (s rest : ByteArray) (c : Cmd) (hc : isR c = true) (hs : s = btC c ++ rest) : ¬ More s := by
  rintro ⟨_, d, t, hd, ht, he⟩
  rw [hs, app_assoc] at he
  obtain ⟨_, e⟩ := pre_free d c hd hc ⟨#[]⟩ (rest ++ t) (by rw [app_nil]; exact he)
  have := congrArg ByteArray.size e
  rw [size_app] at this
  have h0 : (⟨#[]⟩ : ByteArray).size = 0 := rfl
  omega
theorem ok_ne (s rest : ByteArray) (c : Cmd) (hc : isR c = true) (hs : s = btC c ++ rest) : s.size ≠ 0 := by
  have := btC_one c hc
  rw [hs, size_app]; omega
/-- It tells one thing alone. -/
theorem NxR.one {s : ByteArray} {c c' : Cmd} {x x' : ByteArray} {e e' : Int} (h : NxR s c x e) (h' : NxR s c' x' e') : c = c' ∧ x = x' ∧ e = e' := by
  have h0 : (⟨#[]⟩ : ByteArray).size = 0 := rfl
  rcases h with ⟨rfl, hc, hs⟩ | ⟨rfl, rfl, h⟩ <;> rcases h' with ⟨rfl, hc', hs'⟩ | ⟨rfl, rfl, h'⟩
  · obtain ⟨h1, h2⟩ := pre_free c c' hc hc' x x' (hs.symm.trans hs')
    exact ⟨h1, h2, rfl⟩
  · exfalso
    rcases h' with ⟨_, h⟩ | ⟨_, h⟩ | ⟨_, h⟩
    · exact ok_ne s x c hc hs (by rw [h]; rfl)
    · exact ok_more s x c hc hs h
    · exact h.2.1 c x hc hs
  · exfalso
    rcases h with ⟨_, h⟩ | ⟨_, h⟩ | ⟨_, h⟩
    · exact ok_ne s x' c' hc' hs' (by rw [h]; rfl)
    · exact ok_more s x' c' hc' hs' h
    · exact h.2.1 c' x' hc' hs'
  · refine ⟨rfl, rfl, ?_⟩
    rcases h with ⟨rfl, h⟩ | ⟨rfl, h⟩ | ⟨rfl, h⟩ <;> rcases h' with ⟨rfl, h'⟩ | ⟨rfl, h'⟩ | ⟨rfl, h'⟩
    · rfl
    · exact absurd (by rw [h]; rfl) h'.1
    · exact absurd (by rw [h]; rfl) h'.1
    · exact absurd (by rw [h']; rfl) h.1
    · rfl
    · obtain ⟨_, d, t, hd, _, he⟩ := h
      exact absurd he (h'.2.2 d t hd)
    · exact absurd (by rw [h']; rfl) h.1
    · obtain ⟨_, d, t, hd, _, he⟩ := h'
      exact absurd he (h.2.2 d t hd)
    · rfl
/-- What is put is scanned again. -/
theorem NxR.put (c : Cmd) (hc : isR c = true) (s : ByteArray) : NxR (btC c ++ s) c s 0 := .inl ⟨rfl, hc, rfl⟩
theorem pre_app (t : ByteArray) (i : Nat) (hi : i ≤ t.size) : t = pre t i ++ suf t i := by
  refine ext_bt _ _ (by rw [size_app, pre_size t i hi, suf_size]; omega) fun k hk => ?_
  rw [bt_append, pre_size t i hi]
  by_cases h : k < i
  · rw [if_pos h, bt_pre t i k hi h]
  · rw [if_neg h, bt_suf]; congr 1; omega
/-- Each beginning of what is put wants more. -/
theorem NxR.pre (c : Cmd) (hc : isR c = true) (i : Nat) (h1 : 1 ≤ i) (hi : i < (btC c).size) : NxR (pre (btC c) i) d0 ⟨#[]⟩ 3 := by
  have hz := pre_size (btC c) i (by omega)
  refine .inr ⟨rfl, rfl, .inr (.inl ⟨rfl, by omega, c, suf (btC c) i, hc, by rw [suf_size]; omega, pre_app _ i (by omega)⟩)⟩
/-- Where nothing whole is left: an end, or a beginning. -/
def Stop (s : ByteArray) : Prop := s.size = 0 ∨ More s
/-- All of s: these commands, and that is left. -/
def AllR (s : ByteArray) (l : List Cmd) (rest : ByteArray) : Prop := (∀ c ∈ l, isR c = true) ∧ s = btsL l ++ rest ∧ Stop rest
def AllBad (s : ByteArray) : Prop := ∃ l rest, (∀ c ∈ l, isR c = true) ∧ s = btsL l ++ rest ∧ Bad rest
theorem bad_stop {s : ByteArray} (h : Bad s) (h' : Stop s) : False := by
  rcases h' with h' | ⟨_, d, t, hd, _, he⟩
  · exact h.1 h'
  · exact h.2.2 d t hd he
theorem bad_ok {s rest : ByteArray} {c : Cmd} (h : Bad s) (hc : isR c = true) (hs : s = btC c ++ rest) : False := h.2.1 c rest hc hs
theorem stop_ok {s rest : ByteArray} {c : Cmd} (h : Stop s) (hc : isR c = true) (hs : s = btC c ++ rest) : False := by
  rcases h with h | h
  · exact ok_ne s rest c hc hs h
  · exact ok_more s rest c hc hs h
/-- What ends nothing whole parts at one place alone. -/
theorem parts_one (P Q : ByteArray → Prop) (hP : ∀ s rest c, P s → isR c = true → s = btC c ++ rest → False) (hQ : ∀ s rest c, Q s → isR c = true → s = btC c ++ rest → False) :
    ∀ (l m : List Cmd) (x y : ByteArray), (∀ c ∈ l, isR c = true) → (∀ c ∈ m, isR c = true) → P x → Q y → btsL l ++ x = btsL m ++ y → l = m ∧ x = y
  | [], [], x, y, _, _, _, _, h => by rw [show btsL [] = ⟨#[]⟩ from rfl, nil_app, nil_app] at h; exact ⟨rfl, h⟩
  | [], d :: m, x, y, _, hm, hx, _, h => by
    rw [show btsL [] = ⟨#[]⟩ from rfl, nil_app, show btsL (d :: m) = btC d ++ btsL m from rfl, app_assoc] at h
    exact (hP x _ d hx (hm d (by simp)) h).elim
  | c :: l, [], x, y, hl, _, _, hy, h => by
    rw [show btsL [] = ⟨#[]⟩ from rfl, nil_app, show btsL (c :: l) = btC c ++ btsL l from rfl, app_assoc] at h
    exact (hQ y _ c hy (hl c (by simp)) h.symm).elim
  | c :: l, d :: m, x, y, hl, hm, hx, hy, h => by
    rw [show btsL (c :: l) = btC c ++ btsL l from rfl, show btsL (d :: m) = btC d ++ btsL m from rfl, app_assoc, app_assoc] at h
    obtain ⟨rfl, e⟩ := pre_free c d (hl c (by simp)) (hm d (by simp)) _ _ h
    obtain ⟨rfl, rfl⟩ := parts_one P Q hP hQ l m x y (fun z hz => hl z (by simp [hz])) (fun z hz => hm z (by simp [hz])) hx hy e
    exact ⟨rfl, rfl⟩
theorem AllR.one {s : ByteArray} {l m : List Cmd} {x y : ByteArray} (h : AllR s l x) (h' : AllR s m y) : l = m ∧ x = y :=
  parts_one Stop Stop (fun _ _ _ h hc hs => stop_ok h hc hs) (fun _ _ _ h hc hs => stop_ok h hc hs) l m x y h.1 h'.1 h.2.2 h'.2.2 (h.2.1.symm.trans h'.2.1)
theorem AllR.not_bad {s : ByteArray} {l : List Cmd} {x : ByteArray} (h : AllR s l x) (h' : AllBad s) : False := by
  obtain ⟨m, y, hm, hs, hb⟩ := h'
  obtain ⟨_, rfl⟩ := parts_one Stop Bad (fun _ _ _ h hc hs => stop_ok h hc hs) (fun _ _ _ h hc hs => bad_ok h hc hs) l m x y h.1 hm h.2.2 hb (h.2.1.symm.trans hs)
  exact bad_stop hb h.2.2
theorem btsL_append (l m : List Cmd) : btsL (l ++ m) = btsL l ++ btsL m := by
  induction l with
  | nil => rw [show btsL [] = ⟨#[]⟩ from rfl, nil_app]; rfl
  | cons c l ih => rw [List.cons_append, show btsL (c :: (l ++ m)) = btC c ++ btsL (l ++ m) from rfl, ih, ← app_assoc]; rfl
theorem btsL_size (l : List Cmd) : (btsL l).size = costL l := by
  induction l with
  | nil => rfl
  | cons c l ih => rw [show btsL (c :: l) = btC c ++ btsL l from rfl, size_app, ih]; rfl
/-- Commands ahead of what is scanned. -/
theorem AllR.ahead {s : ByteArray} {l m : List Cmd} {x : ByteArray} (h : AllR s l x) (hm : ∀ c ∈ m, isR c = true) : AllR (btsL m ++ s) (m ++ l) x :=
  ⟨fun c hc => (List.mem_append.1 hc).elim (hm c) (h.1 c), by rw [btsL_append, app_assoc, ← h.2.1], h.2.2⟩
theorem AllBad.ahead {s : ByteArray} {m : List Cmd} (h : AllBad s) (hm : ∀ c ∈ m, isR c = true) : AllBad (btsL m ++ s) := by
  obtain ⟨l, y, hl, hs, hb⟩ := h
  exact ⟨m ++ l, y, fun c hc => (List.mem_append.1 hc).elim (hm c) (hl c), by rw [btsL_append, app_assoc, ← hs], hb⟩
/-- A beginning of a beginning, or of a command's bytes, stops. -/
theorem stop_pre (c : Cmd) (hc : isR c = true) (x y : ByteArray) (h : btC c = x ++ y) (hy : y.size ≠ 0) : Stop x := by
  by_cases h0 : x.size = 0
  · exact .inl h0
  · exact .inr ⟨h0, c, y, hc, hy, h⟩
theorem app_cut (a b x y : ByteArray) (h : a ++ b = x ++ y) (hs : x.size ≤ a.size) : ∃ z, a = x ++ z ∧ y = z ++ b := by
  refine ⟨suf a x.size, ?_, ?_⟩
  · have e := pre_app a x.size hs
    have hx : pre a x.size = x := by
      refine ext_bt _ _ (pre_size a _ hs) fun k hk => ?_
      rw [pre_size a _ hs] at hk
      rw [bt_pre a _ k hs hk]
      have := congrArg (fun z => bt z k) h
      simp only [bt_append, if_pos hk, if_pos (show k < a.size by omega)] at this
      exact this
    rw [hx] at e; exact e
  · have e := pre_app a x.size hs
    have hx : pre a x.size = x := by
      refine ext_bt _ _ (pre_size a _ hs) fun k hk => ?_
      rw [pre_size a _ hs] at hk
      rw [bt_pre a _ k hs hk]
      have := congrArg (fun z => bt z k) h
      simp only [bt_append, if_pos hk, if_pos (show k < a.size by omega)] at this
      exact this
    rw [hx] at e
    refine (app_left x _ _ ?_).symm
    rw [← app_assoc, ← e, h]
/-- Wherever bytes are cut, the front is whole commands and a beginning of one more, and from that on the rest is scanned. -/
theorem AllR.cut : ∀ (l : List Cmd) (x u v : ByteArray), AllR (u ++ v) l x → ∃ a b left, l = a ++ b ∧ AllR u a left ∧ AllR (left ++ v) b x
  | [], x, u, v, h => by
    obtain ⟨_, hs, hx⟩ := h
    rw [show btsL [] = ⟨#[]⟩ from rfl, nil_app] at hs
    refine ⟨[], [], u, rfl, ⟨fun _ h => (List.not_mem_nil h).elim, by rw [show btsL [] = ⟨#[]⟩ from rfl, nil_app], ?_⟩, ⟨fun _ h => (List.not_mem_nil h).elim, by rw [hs, show btsL [] = ⟨#[]⟩ from rfl, nil_app], hx⟩⟩
    rcases hx with hx | ⟨hx, d, t, hd, ht, he⟩
    · left; rw [← hs, size_app] at hx; omega
    · by_cases h0 : u.size = 0
      · exact .inl h0
      · exact .inr ⟨h0, d, v ++ t, hd, by rw [size_app]; omega, by rw [he, ← hs, app_assoc]⟩
  | c :: l, x, u, v, h => by
    obtain ⟨hl, hs, hx⟩ := h
    have hc := hl c (by simp)
    rw [show btsL (c :: l) = btC c ++ btsL l from rfl, app_assoc] at hs
    by_cases hz : (btC c).size ≤ u.size
    · obtain ⟨z, rfl, hz2⟩ := app_cut u v (btC c) (btsL l ++ x) hs hz
      obtain ⟨a, b, left, rfl, h1, h2⟩ := AllR.cut l x z v ⟨fun d hd => hl d (by simp [hd]), hz2.symm, hx⟩
      exact ⟨c :: a, b, left, rfl, h1.ahead (m := [c]) (fun d hd => by simp at hd; rw [hd]; exact hc) |> fun h => by
        rw [show btsL [c] = btC c from app_nil _] at h; exact h, h2⟩
    · obtain ⟨z, hz2, hz3⟩ := app_cut (btC c) (btsL l ++ x) u v hs.symm (by omega)
      have hzs : z.size ≠ 0 := by
        have := congrArg ByteArray.size hz2
        rw [size_app] at this; omega
      exact ⟨[], c :: l, u, rfl, ⟨fun _ h => (List.not_mem_nil h).elim, by rw [show btsL [] = ⟨#[]⟩ from rfl, nil_app], stop_pre c hc u z hz2 hzs⟩, ⟨hl, by rw [hs]; rw [show btsL (c :: l) = btC c ++ btsL l from rfl, app_assoc], hx⟩⟩
theorem stop_size {s : ByteArray} (h : Stop s) : s.size < 8 := by
  rcases h with h | ⟨_, d, t, hd, ht, he⟩
  · omega
  · have := btC_size d
    rw [he, size_app] at this; omega
theorem stop_next {s : ByteArray} (h : Stop s) : (s.size = 0 ∧ NxR s d0 ⟨#[]⟩ 6) ∨ (s.size ≠ 0 ∧ NxR s d0 ⟨#[]⟩ 3) := by
  rcases h with h | h
  · have e : s = ⟨#[]⟩ := of_size_zero s h
    exact .inl ⟨h, .inr ⟨rfl, rfl, .inl ⟨rfl, e⟩⟩⟩
  · exact .inr ⟨h.1, .inr ⟨rfl, rfl, .inr (.inl ⟨rfl, h⟩)⟩⟩
end Vt
end Go.Proofs.YtgpebdoafblacaaDoor
/- Terminals in plain mathematics: which are right, what each command makes of them. -/
set_option linter.unusedVariables false
namespace Go.Proofs.YtgpebdoafblacaaDoor
open Gl L Wd Gd Vt
namespace Tm
/-- A terminal: a grid's sides and cells, a place, and whether the next sign begins a row. -/
structure Trm where
  w : Int
  h : Int
  l : List (Int × Int)
  x : Int
  y : Int
  k : Bool
deriving DecidableEq
/-- Is it right? -/
def rt (t : Trm) : Prop := right t.w t.h t.l ∧ 0 ≤ t.x ∧ t.x < t.w ∧ 0 ≤ t.y ∧ t.y < t.h ∧ (t.k = true → t.x = t.w - 1)
instance (t : Trm) : Decidable (rt t) := by unfold rt; infer_instance
/-- The nearest of 0 to m. -/
def wi (n m : Int) : Int := if n < 0 then 0 else if m < n then m else n
theorem wi_in (n m : Int) (h : 0 ≤ m) : 0 ≤ wi n m ∧ wi n m ≤ m := by unfold wi; split <;> (try split) <;> omega
theorem wi_id (n m : Int) (h : 0 ≤ n ∧ n ≤ m) : wi n m = n := by unfold wi; rw [if_neg (by omega), if_neg (by omega)]
/-- To the next row. -/
def dn (t : Trm) : Trm := if t.y = t.h - 1 then { t with l := scrollL t.w.toNat t.l } else { t with y := t.y + 1 }
/-- How many cells a sign has. -/
def wd' (r : Int) : Int := ((cl r).length : Int)
/-- The place from which a sign is put. -/
def rowed (t : Trm) (r : Int) : Trm := if t.k = true ∨ t.w < t.x + wd' r then { dn t with x := 0 } else t
/-- A sign is put, and the cursor goes on. -/
def adv (t : Trm) (r : Int) : Trm := if t.x + wd' r = t.w then { t with l := putL t.w t.l t.x t.y r, x := t.w - 1, k := true } else { t with l := putL t.w t.l t.x t.y r, x := t.x + wd' r, k := false }
def tx (t : Trm) (r : Int) : Trm := adv (rowed t r) r
/-- What a right command makes of a right terminal. -/
def doT (t : Trm) (c : Cmd) : Trm :=
  if c.1 = 1 then tx t c.2.2.2
  else if c.1 = 12 then t
  else if c.1 = 2 then { t with x := wi c.2.2.1 (t.w - 1), y := wi c.2.1 (t.h - 1), k := false }
  else if c.1 = 3 then { t with y := wi (t.y - c.2.1) (t.h - 1), k := false }
  else if c.1 = 4 then { t with y := wi (t.y + c.2.1) (t.h - 1), k := false }
  else if c.1 = 5 then { t with x := wi (t.x + c.2.1) (t.w - 1), k := false }
  else if c.1 = 6 then { t with x := wi (t.x - c.2.1) (t.w - 1), k := false }
  else if c.1 = 7 then { t with l := blankL t.w t.l (t.y * t.w + t.x) ((t.y + 1) * t.w), k := false }
  else if c.1 = 8 then { t with l := blankL t.w t.l (t.y * t.w + t.x) (t.w * t.h), k := false }
  else if c.1 = 9 then { t with x := 0, k := false }
  else if c.1 = 10 then { dn t with k := false }
  else { t with x := wi (t.x - 1) (t.w - 1), k := false }
theorem rt_sides {t : Trm} (h : rt t) : 2 ≤ t.w ∧ t.w ≤ 80 ∧ 1 ≤ t.h ∧ t.h ≤ 24 := h.1.1
theorem rt_mk {t : Trm} {x y : Int} {k : Bool} (h : rt t) (hx : 0 ≤ x ∧ x < t.w) (hy : 0 ≤ y ∧ y < t.h) (hk : k = true → x = t.w - 1) : rt { t with x := x, y := y, k := k } := ⟨h.1, hx.1, hx.2, hy.1, hy.2, hk⟩
theorem dn_rt {t : Trm} (h : rt t) (hk : t.k = false) : rt (dn t) := by
  obtain ⟨h0, h1, h2, h3, h4, h5⟩ := h
  unfold dn
  split
  · exact ⟨scrollL_right h0, h1, h2, h3, h4, h5⟩
  · exact ⟨h0, h1, h2, by show 0 ≤ t.y + 1; omega, by show t.y + 1 < t.h; omega, h5⟩
theorem dn_side (t : Trm) : (dn t).w = t.w ∧ (dn t).h = t.h ∧ (dn t).x = t.x ∧ (dn t).k = t.k := by unfold dn; split <;> exact ⟨rfl, rfl, rfl, rfl⟩
/-- What is asked of a put: the sign has room. -/
theorem cl_w {r : Int} (h : shw r = true) : wd' r = 1 ∧ wid r = false ∨ wd' r = 2 ∧ wid r = true := by
  unfold wd'
  cases e : wid r
  · rw [cl_one h e]; exact .inl ⟨rfl, rfl⟩
  · rw [cl_wide h e]; exact .inr ⟨rfl, rfl⟩
theorem put_may {t : Trm} {r : Int} (h : rt t) (hs : shw r = true) (hr : t.x + wd' r ≤ t.w) : putB t.w t.h t.l t.x t.y r = true := by
  obtain ⟨h0, h1, h2, h3, h4, _⟩ := h
  unfold putB
  rw [hs, decide_eq_true (show place t.w t.h t.l t.x t.y from ⟨h0, h1, h2, h3, h4⟩)]
  rcases cl_w hs with ⟨e, ew⟩ | ⟨e, ew⟩
  · rw [ew]; rfl
  · rw [ew, decide_eq_false (by omega)]; rfl
theorem rowed_rt {t : Trm} {r : Int} (h : rt t) (hs : shw r = true) : rt { rowed t r with k := false } ∧ (rowed t r).x + wd' r ≤ t.w ∧ (rowed t r).w = t.w ∧ (rowed t r).h = t.h := by
  have h2 := rt_sides h
  unfold rowed
  have hc := cl_w hs
  split
  · obtain ⟨e1, e2, e3, e4⟩ := dn_side t
    refine ⟨?_, by show 0 + wd' r ≤ t.w; omega, e1, e2⟩
    obtain ⟨h0, h1, h2, h3, h4, h5⟩ := h
    unfold dn
    split
    · exact ⟨scrollL_right h0, by show (0 : Int) ≤ 0; omega, by show 0 < t.w; omega, h3, h4, fun h => by cases h⟩
    · exact ⟨h0, by show (0 : Int) ≤ 0; omega, by show 0 < t.w; omega, by show 0 ≤ t.y + 1; omega, by show t.y + 1 < t.h; omega, fun h => by cases h⟩
  · rename_i hn
    exact ⟨⟨h.1, h.2.1, h.2.2.1, h.2.2.2.1, h.2.2.2.2.1, fun h => by cases h⟩, by omega, rfl, rfl⟩
theorem tx_rt {t : Trm} {r : Int} (h : rt t) (hs : shw r = true) : rt (tx t r) := by
  have h2 := rt_sides h
  obtain ⟨g, g1, g2, g3⟩ := rowed_rt (r := r) h hs
  unfold tx
  generalize rowed t r = u at *
  have hp := put_may (t := { u with k := false }) g hs (by show u.x + wd' r ≤ u.w; omega)
  have hR := putL_right hp
  obtain ⟨q0, q1, q2, q3, q4, _⟩ := g
  have hc := cl_w hs
  simp only at q0 q1 q2 q3 q4
  unfold adv
  split
  · exact ⟨hR, by show 0 ≤ u.w - 1; omega, by show u.w - 1 < u.w; omega, q3, q4, fun _ => rfl⟩
  · exact ⟨hR, by show 0 ≤ u.x + wd' r; omega, by show u.x + wd' r < u.w; omega, q3, q4, fun h => by cases h⟩
theorem blank_may {t : Trm} (h : rt t) : blankB t.w t.h t.l (t.y * t.w + t.x) ((t.y + 1) * t.w) = true ∧ blankB t.w t.h t.l (t.y * t.w + t.x) (t.w * t.h) = true := by
  obtain ⟨h0, h1, h2, h3, h4, _⟩ := h
  have hl := h0.2.1
  have e1 : 0 ≤ t.y * t.w := Int.mul_nonneg h3 (by omega)
  have e2 : (t.y + 1) * t.w = t.y * t.w + t.w := by rw [Int.add_mul, Int.one_mul]
  have e3 : (t.y + 1) * t.w ≤ t.h * t.w := Int.mul_le_mul_of_nonneg_right (by omega) (by omega)
  rw [Int.mul_comm t.h t.w] at e3
  unfold blankB
  rw [decide_eq_true h0]
  exact ⟨decide_eq_true (by omega), decide_eq_true (by omega)⟩
/-- What comes of a right terminal is right. -/
theorem do_rt {t : Trm} {c : Cmd} (h : rt t) (hc : isR c = true) : rt (doT t c) := by
  have hs := rt_sides h
  obtain ⟨k, a, b, r⟩ := c
  have hc' := (isC_iff k a b r).1 hc
  have hb := blank_may h
  obtain ⟨h0, h1, h2, h3, h4, h5⟩ := h
  have wx := fun n => wi_in n (t.w - 1) (by omega)
  have wy := fun n => wi_in n (t.h - 1) (by omega)
  unfold doT
  simp only
  by_cases c1 : k = 1
  · subst c1
    rw [if_pos rfl]
    refine tx_rt ⟨h0, h1, h2, h3, h4, h5⟩ ?_
    rcases hc' with c | c | c | c
    · exact c.2.1
    all_goals omega
  rw [if_neg c1]
  split
  · exact ⟨h0, h1, h2, h3, h4, h5⟩
  split
  · exact ⟨h0, (wx _).1, by have := (wx b).2; show wi b (t.w - 1) < t.w; omega, (wy _).1, by have := (wy a).2; show wi a (t.h - 1) < t.h; omega, fun h => by cases h⟩
  split
  · exact ⟨h0, h1, h2, (wy _).1, by have := (wy (t.y - a)).2; show wi (t.y - a) (t.h - 1) < t.h; omega, fun h => by cases h⟩
  split
  · exact ⟨h0, h1, h2, (wy _).1, by have := (wy (t.y + a)).2; show wi (t.y + a) (t.h - 1) < t.h; omega, fun h => by cases h⟩
  split
  · exact ⟨h0, (wx _).1, by have := (wx (t.x + a)).2; show wi (t.x + a) (t.w - 1) < t.w; omega, h3, h4, fun h => by cases h⟩
  split
  · exact ⟨h0, (wx _).1, by have := (wx (t.x - a)).2; show wi (t.x - a) (t.w - 1) < t.w; omega, h3, h4, fun h => by cases h⟩
  split
  · exact ⟨blankL_right hb.1, h1, h2, h3, h4, fun h => by cases h⟩
  split
  · exact ⟨blankL_right hb.2, h1, h2, h3, h4, fun h => by cases h⟩
  split
  · exact ⟨h0, by show (0 : Int) ≤ 0; omega, by show 0 < t.w; omega, h3, h4, fun h => by cases h⟩
  split
  · unfold dn
    split
    · exact ⟨scrollL_right h0, h1, h2, h3, h4, fun h => by cases h⟩
    · exact ⟨h0, h1, h2, by show 0 ≤ t.y + 1; omega, by show t.y + 1 < t.h; omega, fun h => by cases h⟩
  · exact ⟨h0, (wx _).1, by have := (wx (t.x - 1)).2; show wi (t.x - 1) (t.w - 1) < t.w; omega, h3, h4, fun h => by cases h⟩
/-- Bytes that are fed: what becomes of it by all commands. -/
def feedT (t : Trm) (l : List Cmd) : Trm := l.foldl doT t
theorem feed_append (t : Trm) (l m : List Cmd) : feedT t (l ++ m) = feedT (feedT t l) m := by unfold feedT; rw [List.foldl_append]
theorem feed_rt {t : Trm} (h : rt t) : ∀ l : List Cmd, (∀ c ∈ l, isR c = true) → rt (feedT t l)
  | [], _ => h
  | c :: l, hl => feed_rt (t := doT t c) (do_rt h (hl c (by simp))) l (fun d hd => hl d (by simp [hd]))
/-- A new terminal, and one of other sides. -/
def nwT (w h : Int) : Trm := ⟨w, h, newL w h, 0, 0, false⟩
def szT (t : Trm) (w h : Int) : Trm := ⟨w, h, fitV t.w t.h t.l w h, wi t.x (w - 1), wi t.y (h - 1), false⟩
theorem nw_rt {w h : Int} (hs : sidesB w h = true) : rt (nwT w h) := by
  have hr := newL_right hs
  have := hr.1
  exact ⟨hr, by show (0 : Int) ≤ 0; omega, by show 0 < w; omega, by show (0 : Int) ≤ 0; omega, by show 0 < h; omega, fun h => by cases h⟩
theorem sz_rt {t : Trm} {w h : Int} (ht : rt t) (hs : sidesB w h = true) : rt (szT t w h) := by
  have hf : fitB t.w t.h t.l w h = true := by unfold fitB; rw [decide_eq_true ht.1, hs]; rfl
  have hr := fitV_right hf
  have h1 := hr.1
  have wx := wi_in t.x (w - 1) (by omega)
  have wy := wi_in t.y (h - 1) (by omega)
  exact ⟨hr, wx.1, by show wi t.x (w - 1) < w; omega, wy.1, by show wi t.y (h - 1) < h; omega, fun h => by cases h⟩
/-- A move changes no cell, and leads where a going would lead. -/
def movesB (t : Trm) (k : Int) : Bool := decide (3 ≤ k ∧ k ≤ 6 ∨ k = 9 ∨ k = 11 ∨ k = 10 ∧ t.y < t.h - 1)
theorem move_go {t : Trm} {c : Cmd} (h : rt t) (hc : isR c = true) (hm : movesB t c.1 = true) : doT t (2, (doT t c).y, (doT t c).x, 0) = doT t c ∧ (doT t c).l = t.l ∧ (doT t c).w = t.w ∧ (doT t c).h = t.h ∧ isR (2, (doT t c).y, (doT t c).x, 0) = true := by
  have hs := rt_sides h
  have hr := do_rt h hc
  obtain ⟨k, a, b, r⟩ := c
  unfold movesB at hm
  rw [decide_eq_true_iff] at hm
  simp only at hm
  have key : (doT t (k, a, b, r)).l = t.l ∧ (doT t (k, a, b, r)).w = t.w ∧ (doT t (k, a, b, r)).h = t.h ∧ (doT t (k, a, b, r)).k = false := by
    rcases (show k = 3 ∨ k = 4 ∨ k = 5 ∨ k = 6 ∨ k = 9 ∨ k = 11 ∨ k = 10 ∧ t.y < t.h - 1 by omega) with rfl | rfl | rfl | rfl | rfl | rfl | ⟨rfl, hy⟩
    all_goals first | exact ⟨rfl, rfl, rfl, rfl⟩ | skip
    have e : doT t (10, a, b, r) = { dn t with k := false } := rfl
    rw [e]
    unfold dn
    rw [if_neg (by omega)]
    exact ⟨rfl, rfl, rfl, rfl⟩
  generalize doT t (k, a, b, r) = u at *
  obtain ⟨k1, k2, k3, k4⟩ := key
  obtain ⟨-, r1, r2, r3, r4, -⟩ := hr
  rw [k2] at r2
  rw [k3] at r4
  have y23 : u.y ≤ 23 := by omega
  have x79 : u.x ≤ 79 := by omega
  refine ⟨?_, k1, k2, k3, (isC_iff 2 _ _ 0).2 (.inr (.inl ⟨rfl, r3, y23, r1, x79, rfl⟩))⟩
  clear y23 x79
  obtain ⟨uw, uh, ul, ux, uy, uk⟩ := u
  simp only at k1 k2 k3 k4 r1 r2 r3 r4 ⊢
  subst k1 k2 k3 k4
  unfold doT
  dsimp only
  rw [if_neg (by decide), if_neg (by decide), if_pos rfl, wi_id _ _ (by omega), wi_id _ _ (by omega)]
/-! As many signs of one cell as there are cells. -/
/-- The cells behind so many. -/
def fillL (W H : Nat) (r : Int) : Nat → List (Int × Int)
  | 0 => newL W H
  | i + 1 => putL W (fillL W H r i) ((i % W : Nat) : Int) ((i / W : Nat) : Int) r
def fillT (W H : Nat) (r : Int) : Nat → Trm
  | 0 => nwT W H
  | i + 1 => ⟨W, H, fillL W H r (i + 1), if i % W + 1 = W then (W : Int) - 1 else ((i % W : Nat) : Int) + 1, ((i / W : Nat) : Int), decide (i % W + 1 = W)⟩
theorem fillT_succ (W H : Nat) (r : Int) (i : Nat) : fillT W H r (i + 1) = ⟨W, H, fillL W H r (i + 1), if i % W + 1 = W then (W : Int) - 1 else ((i % W : Nat) : Int) + 1, ((i / W : Nat) : Int), decide (i % W + 1 = W)⟩ := rfl
theorem div_next {W i : Nat} (hW : 0 < W) (h : (i % W) + 1 = W) : (i + 1) / W = i / W + 1 ∧ (i + 1) % W = 0 := by
  have e : i + 1 = (i / W + 1) * W := by
    have := Nat.div_add_mod i W
    rw [Nat.add_mul, Nat.one_mul, Nat.mul_comm (i / W) W]; omega
  rw [e]
  exact ⟨Nat.mul_div_cancel _ hW, Nat.mul_mod_left _ _⟩
theorem div_same {W i : Nat} (hW : 0 < W) (h : (i % W) + 1 ≠ W) : (i + 1) / W = i / W ∧ (i + 1) % W = i % W + 1 := by
  have hm := mod_succ hW h
  refine ⟨?_, hm⟩
  have h1 := Nat.div_add_mod i W
  have h2 := Nat.div_add_mod (i + 1) W
  rw [hm] at h2
  have : W * ((i + 1) / W) = W * (i / W) := by omega
  exact Nat.eq_of_mul_eq_mul_left hW this
theorem fill_next (W H : Nat) (r : Int) (hW : 2 ≤ W) (hr : wd' r = 1) (i : Nat) (hi : i < W * H) : tx (fillT W H r i) r = fillT W H r (i + 1) := by
  have hW0 : 0 < W := by omega
  have hd : i / W < H := Nat.div_lt_of_lt_mul hi
  have hmw := Nat.mod_lt i hW0
  have adv_at : ∀ (l : List (Int × Int)) (y : Nat) (k : Bool), l = fillL W H r i → y = i / W → adv ⟨W, H, l, ((i % W : Nat) : Int), (y : Int), k⟩ r = fillT W H r (i + 1) := by
    rintro l y k rfl rfl
    unfold adv
    simp only
    rw [hr]
    by_cases he : i % W + 1 = W
    · rw [if_pos (by omega), fillT_succ, if_pos he, decide_eq_true he]
      rfl
    · rw [if_neg (by omega), fillT_succ, if_neg he, decide_eq_false he]
      rfl
  cases i with
  | zero =>
    unfold tx rowed
    rw [if_neg]
    · have := adv_at (newL W H) 0 false rfl (by simp)
      rw [← this]
      simp [fillT, nwT]
    · simp only [fillT, nwT]
      rw [hr]
      rintro (h | h)
      · cases h
      · omega
  | succ i =>
    have hmi := Nat.mod_lt i hW0
    unfold tx rowed
    by_cases he : i % W + 1 = W
    · obtain ⟨d1, d2⟩ := div_next hW0 he
      rw [if_pos (.inl (by show decide (i % W + 1 = W) = true; rw [decide_eq_true he]))]
      unfold dn
      rw [if_neg (by show ¬ ((i / W : Nat) : Int) = (H : Int) - 1; omega)]
      have := adv_at (fillL W H r (i + 1)) (i / W + 1) (decide (i % W + 1 = W)) rfl d1.symm
      rw [← this, d2]
      simp [fillT]
    · obtain ⟨d1, d2⟩ := div_same hW0 he
      rw [if_neg]
      · have := adv_at (fillL W H r (i + 1)) (i / W) (decide (i % W + 1 = W)) rfl d1.symm
        rw [← this, d2]
        simp [fillT, he]
      · rw [hr]
        simp only [fillT]
        rw [decide_eq_false he, if_neg he]
        rintro (h | h)
        · cases h
        · omega
/-- The place of each, and that it may be put. -/
theorem fill_rt (W H : Nat) (r : Int) (hs : sidesB W H = true) (hsh : shw r = true) (hr : wd' r = 1) : ∀ i, i ≤ W * H → rt (fillT W H r i)
  | 0, _ => nw_rt hs
  | i + 1, hi => by
    have h2 : 2 ≤ W := by unfold sidesB at hs; rw [decide_eq_true_iff] at hs; omega
    rw [← fill_next W H r h2 hr i (by omega)]
    exact tx_rt (fill_rt W H r hs hsh hr i (by omega)) hsh
theorem fill_may (W H : Nat) (r : Int) (hs : sidesB W H = true) (hsh : shw r = true) (hr : wd' r = 1) (i : Nat) (hi : i < W * H) : putB W H (fillL W H r i) ((i % W : Nat) : Int) ((i / W : Nat) : Int) r = true := by
  have h2 : 2 ≤ W := by unfold sidesB at hs; rw [decide_eq_true_iff] at hs; omega
  have hd : i / W < H := Nat.div_lt_of_lt_mul hi
  have hm := Nat.mod_lt i (show 0 < W by omega)
  have hR : right W H (fillL W H r i) := by
    have := (fill_rt W H r hs hsh hr i (by omega)).1
    cases i <;> exact this
  have : rt ⟨W, H, fillL W H r i, ((i % W : Nat) : Int), ((i / W : Nat) : Int), false⟩ := ⟨hR, Int.natCast_nonneg _, Int.ofNat_lt.2 hm, Int.natCast_nonneg _, Int.ofNat_lt.2 hd, fun h => by cases h⟩
  exact put_may this hsh (by show ((i % W : Nat) : Int) + wd' r ≤ (W : Int); rw [hr]; have := Int.ofNat_lt.2 hm; omega)
end Tm
namespace Vt
theorem bad_app {r b : ByteArray} (h : Bad r) : Bad (r ++ b) := by
  obtain ⟨h0, h1, h2⟩ := h
  refine ⟨by rw [size_app]; omega, fun d t hd he => ?_, fun d t hd he => ?_⟩
  · by_cases hz : (btC d).size ≤ r.size
    · obtain ⟨z, hz1, _⟩ := app_cut r b (btC d) t he hz
      exact h1 d z hd hz1
    · obtain ⟨z, hz1, _⟩ := app_cut (btC d) t r b he.symm (by omega)
      exact h2 d z hd hz1
  · rw [app_assoc] at he
    exact h2 d _ hd he
/-- What is spoiled stays so. -/
theorem AllBad.app {a : ByteArray} (h : AllBad a) (b : ByteArray) : AllBad (a ++ b) := by
  obtain ⟨l, r, hl, hs, hb⟩ := h
  exact ⟨l, r ++ b, hl, by rw [hs, app_assoc], bad_app hb⟩
/-- What stands behind a front that was scanned. -/
theorem AllR.front {a : ByteArray} {l : List Cmd} {x : ByteArray} (h : AllR a l x) (b : ByteArray) : (∀ {m : List Cmd} {y : ByteArray}, AllR (x ++ b) m y → AllR (a ++ b) (l ++ m) y) ∧ (AllBad (x ++ b) → AllBad (a ++ b)) := by
  have e : a ++ b = btsL l ++ (x ++ b) := by rw [h.2.1, app_assoc]
  rw [e]
  exact ⟨fun h' => h'.ahead h.1, fun h' => h'.ahead h.1⟩
end Vt
end Go.Proofs.YtgpebdoafblacaaDoor
