/- No command's bytes are a beginning of another one's. -/
import Derived.Test.YteafbfgmdknaeaaDoorVtU
set_option linter.unusedVariables false
namespace Go.Proofs.YteafbfgmdknaeaaDoor
open Go.RowKit Go.PlainAid Gl
namespace Vt
/-- Digits end where the first byte that is none stands. -/
theorem run_dg : ∀ (p q : List Int) (x y : Int) (t u : List Int), (∀ z ∈ p, 48 ≤ z ∧ z ≤ 57) → (∀ z ∈ q, 48 ≤ z ∧ z ≤ 57) → ¬ (48 ≤ x ∧ x ≤ 57) → ¬ (48 ≤ y ∧ y ≤ 57) → p ++ x :: t = q ++ y :: u → p = q ∧ x = y ∧ t = u
  | [], [], x, y, t, u, _, _, _, _, h => by simp at h; exact ⟨rfl, h.1, h.2⟩
  | [], z :: q, x, y, t, u, _, hq, hx, _, h => by
    simp at h
    have := hq z (by simp)
    omega
  | z :: p, [], x, y, t, u, hp, _, _, hy, h => by
    simp at h
    have := hp z (by simp)
    omega
  | z :: p, z' :: q, x, y, t, u, hp, hq, hx, hy, h => by
    simp at h
    obtain ⟨h1, h2, h3⟩ := run_dg p q x y t u (fun v hv => hp v (by simp [hv])) (fun v hv => hq v (by simp [hv])) hx hy h.2
    exact ⟨by rw [h.1, h1], h2, h3⟩
theorem dg_inj (n m : Int) (h0 : 0 ≤ n ∧ n ≤ 99) (h1 : 0 ≤ m ∧ m ≤ 99) (h : dg n = dg m) : n = m := by
  unfold dg at h
  split at h <;> split at h <;> simp at h <;> omega
def dgo (a : Int) : List Int := if 1 < a then dg a else []
theorem dgo_bd (n : Int) (h : 1 ≤ n ∧ n ≤ 80) : ∀ x ∈ dgo n, 48 ≤ x ∧ x ≤ 57 := by
  unfold dgo
  split
  · exact dg_bd n (by omega)
  · intro x hx; cases hx
theorem dgo_inj (n m : Int) (h0 : 1 ≤ n ∧ n ≤ 80) (h1 : 1 ≤ m ∧ m ≤ 80) (h : dgo n = dgo m) : n = m := by
  have l1 := dg_len n
  have l2 := dg_len m
  unfold dgo at h
  split at h <;> split at h
  · exact dg_inj n m (by omega) (by omega) h
  · rw [h] at l1; simp at l1
  · rw [← h] at l2; simp at l2
  · omega
theorem btL_go (a b : Int) : btL 2 a b = 27 :: 91 :: (dg (a + 1) ++ 59 :: (dg (b + 1) ++ [72])) := rfl
theorem btL_move (k a b : Int) (h : 3 ≤ k ∧ k ≤ 6) : btL k a b = 27 :: 91 :: (dgo a ++ [62 + k]) := by
  unfold btL dgo
  rw [if_neg (by omega), if_pos h.2]
theorem btL_one (k a b : Int) (h : 7 ≤ k ∧ k ≤ 12) : (k = 7 ∧ btL k a b = [27, 91, 75]) ∨ (k = 8 ∧ btL k a b = [27, 91, 74]) ∨ (k = 9 ∧ btL k a b = [13]) ∨ (k = 10 ∧ btL k a b = [10]) ∨ (k = 11 ∧ btL k a b = [8]) ∨ (k = 12 ∧ btL k a b = [7]) := by
  rcases (show k = 7 ∨ k = 8 ∨ k = 9 ∨ k = 10 ∨ k = 11 ∨ k = 12 by omega) with rfl | rfl | rfl | rfl | rfl | rfl
  · exact .inl ⟨rfl, rfl⟩
  · exact .inr (.inl ⟨rfl, rfl⟩)
  · exact .inr (.inr (.inl ⟨rfl, rfl⟩))
  · exact .inr (.inr (.inr (.inl ⟨rfl, rfl⟩)))
  · exact .inr (.inr (.inr (.inr (.inl ⟨rfl, rfl⟩))))
  · exact .inr (.inr (.inr (.inr (.inr ⟨rfl, rfl⟩))))
/-- No numbers of a command are a beginning of another one's. -/
theorem btL_pre (k a b r k' a' b' r' : Int) (h : isC k a b r = true) (hk : k ≠ 1) (h' : isC k' a' b' r' = true) (hk' : k' ≠ 1) (t : List Int) (ht : btL k a b ++ t = btL k' a' b') : k = k' ∧ a = a' ∧ b = b' ∧ r = r' := by
  rcases (isC_iff k a b r).1 h with c | ⟨rfl, c⟩ | c | c
  · omega
  · rcases (isC_iff k' a' b' r').1 h' with c' | ⟨rfl, c'⟩ | c' | c'
    · omega
    · rw [btL_go, btL_go] at ht
      simp only [List.cons_append, List.append_assoc, List.cons.injEq, true_and] at ht
      obtain ⟨e1, _, e2⟩ := run_dg _ _ _ _ _ _ (dg_bd (a + 1) (by omega)) (dg_bd (a' + 1) (by omega)) (by omega) (by omega) ht
      obtain ⟨e3, _, _⟩ := run_dg _ _ _ _ _ _ (dg_bd (b + 1) (by omega)) (dg_bd (b' + 1) (by omega)) (by omega) (by omega) e2
      have := dg_inj _ _ (by omega) (by omega) e1
      have := dg_inj _ _ (by omega) (by omega) e3
      omega
    · rw [btL_go, btL_move k' a' b' ⟨c'.1, c'.2.1⟩] at ht
      simp only [List.cons_append, List.append_assoc, List.cons.injEq, true_and] at ht
      obtain ⟨_, e, _⟩ := run_dg _ _ _ _ _ _ (dg_bd (a + 1) (by omega)) (dgo_bd a' (by omega)) (by omega) (by omega) ht
      omega
    · exfalso
      rw [btL_go] at ht
      have d := dg_bd (a + 1) (by omega)
      have dl := dg_len (a + 1)
      match hd : dg (a + 1), dl with
      | x :: q, _ =>
        have hx := d x (by rw [hd]; simp)
        rw [hd] at ht
        rcases btL_one k' a' b' ⟨c'.1, c'.2.1⟩ with ⟨_, e⟩ | ⟨_, e⟩ | ⟨_, e⟩ | ⟨_, e⟩ | ⟨_, e⟩ | ⟨_, e⟩
        all_goals (rw [e] at ht; simp at ht)
        all_goals omega
  · rw [btL_move k a b ⟨c.1, c.2.1⟩] at ht
    rcases (isC_iff k' a' b' r').1 h' with c' | ⟨rfl, c'⟩ | c' | c'
    · omega
    · rw [btL_go] at ht
      simp only [List.cons_append, List.append_assoc, List.cons.injEq, true_and] at ht
      obtain ⟨_, e, _⟩ := run_dg _ _ _ _ _ _ (dgo_bd a (by omega)) (dg_bd (a' + 1) (by omega)) (by omega) (by omega) ht
      omega
    · rw [btL_move k' a' b' ⟨c'.1, c'.2.1⟩] at ht
      simp only [List.cons_append, List.append_assoc, List.cons.injEq, true_and] at ht
      obtain ⟨e1, e, _⟩ := run_dg _ _ _ _ _ _ (dgo_bd a (by omega)) (dgo_bd a' (by omega)) (by omega) (by omega) ht
      have := dgo_inj _ _ (by omega) (by omega) e1
      omega
    · exfalso
      have d := dgo_bd a (by omega)
      rcases btL_one k' a' b' ⟨c'.1, c'.2.1⟩ with ⟨_, e⟩ | ⟨_, e⟩ | ⟨_, e⟩ | ⟨_, e⟩ | ⟨_, e⟩ | ⟨_, e⟩
      all_goals rw [e] at ht
      all_goals cases hd : dgo a
      all_goals rw [hd] at ht
      all_goals simp at ht
      all_goals try omega
      all_goals (have hx := d _ (by rw [hd]; exact List.mem_cons_self ..); omega)
  · rcases (isC_iff k' a' b' r').1 h' with c' | ⟨rfl, c'⟩ | c' | c'
    · omega
    · exfalso
      rw [btL_go] at ht
      have d := dg_bd (a' + 1) (by omega)
      have dl := dg_len (a' + 1)
      match hd : dg (a' + 1), dl with
      | x :: q, _ =>
        have hx := d x (by rw [hd]; simp)
        rw [hd] at ht
        rcases btL_one k a b ⟨c.1, c.2.1⟩ with ⟨_, e⟩ | ⟨_, e⟩ | ⟨_, e⟩ | ⟨_, e⟩ | ⟨_, e⟩ | ⟨_, e⟩
        all_goals (rw [e] at ht; simp at ht)
        all_goals omega
    · exfalso
      rw [btL_move k' a' b' ⟨c'.1, c'.2.1⟩] at ht
      have d := dgo_bd a' (by omega)
      rcases btL_one k a b ⟨c.1, c.2.1⟩ with ⟨_, e⟩ | ⟨_, e⟩ | ⟨_, e⟩ | ⟨_, e⟩ | ⟨_, e⟩ | ⟨_, e⟩
      all_goals rw [e] at ht
      all_goals cases hd : dgo a'
      all_goals rw [hd] at ht
      all_goals simp at ht
      all_goals try omega
      all_goals (have hx := d _ (by rw [hd]; exact List.mem_cons_self ..); omega)
    · rcases btL_one k a b ⟨c.1, c.2.1⟩ with ⟨_, e⟩ | ⟨_, e⟩ | ⟨_, e⟩ | ⟨_, e⟩ | ⟨_, e⟩ | ⟨_, e⟩
      all_goals rcases btL_one k' a' b' ⟨c'.1, c'.2.1⟩ with ⟨_, e'⟩ | ⟨_, e'⟩ | ⟨_, e'⟩ | ⟨_, e'⟩ | ⟨_, e'⟩ | ⟨_, e'⟩
      all_goals first
        | omega
        | (exfalso; rw [e, e'] at ht; simp at ht)
theorem btL_first (k a b r : Int) (h : isC k a b r = true) (hk : k ≠ 1) : (btL k a b).getD 0 0 ≤ 27 := by
  rcases (isC_iff k a b r).1 h with c | ⟨rfl, c⟩ | c | c
  · omega
  · rw [btL_go]; exact Int.le_refl _
  · rw [btL_move k a b ⟨c.1, c.2.1⟩]; exact Int.le_refl _
  · rcases btL_one k a b ⟨c.1, c.2.1⟩ with ⟨_, e⟩ | ⟨_, e⟩ | ⟨_, e⟩ | ⟨_, e⟩ | ⟨_, e⟩ | ⟨_, e⟩
    all_goals (rw [e]; decide)
theorem bts_first (k a b r : Int) (h : isC k a b r = true) (hk : k ≠ 1) : bt (bts k a b r) 0 ≤ 27 := by
  rw [bts_form h hk, bt_list' _ (btL_bd k a b r h hk) 0 (btL_len k a b).1]
  exact btL_first k a b r h hk
theorem text_pre (r r' : Int) (hv : vld r = true) (hv' : vld r' = true) (hs : (putS r).size ≤ (putS r').size) (hb : ∀ j, j < (putS r).size → bt (putS r') j = bt (putS r) j) : r = r' := by
  obtain ⟨o1, v1⟩ := ok_of_put (putS r') 0 r hv (by omega) (fun k hk => by rw [Nat.zero_add]; exact hb k hk)
  obtain ⟨o2, v2⟩ := ok_of_put (putS r') 0 r' hv' (by omega) (fun k hk => by rw [Nat.zero_add])
  have e := ok_one _ _ _ _ o1 o2
  rw [e] at v1
  exact v1.symm.trans v2
/-- No command's bytes are a beginning of another one's. -/
theorem bts_pre (k a b r k' a' b' r' : Int) (h : isC k a b r = true) (h' : isC k' a' b' r' = true) (hs : (bts k a b r).size ≤ (bts k' a' b' r').size) (hb : ∀ j, j < (bts k a b r).size → bt (bts k' a' b' r') j = bt (bts k a b r) j) : k = k' ∧ a = a' ∧ b = b' ∧ r = r' := by
  have h1 := bts_one k a b r h
  have hb0 := hb 0 (by omega)
  by_cases hk : k = 1
  · subst hk
    rcases (isC_iff 1 a b r).1 h with c | c | c | c
    · have hf := text_first r c.2.1
      rw [← bts_text h] at hf
      by_cases hk' : k' = 1
      · subst hk'
        rcases (isC_iff 1 a' b' r').1 h' with c' | c' | c' | c'
        · rw [bts_text h, bts_text h'] at hs hb
          have := text_pre r r' (shw_vld c.2.1).1 (shw_vld c'.2.1).1 hs hb
          omega
        all_goals omega
      · have := bts_first k' a' b' r' h' hk'
        omega
    all_goals omega
  · have hf := bts_first k a b r h hk
    by_cases hk' : k' = 1
    · subst hk'
      rcases (isC_iff 1 a' b' r').1 h' with c' | c' | c' | c'
      · have := text_first r' c'.2.1
        rw [← bts_text h'] at this
        omega
      all_goals omega
    · rw [bts_form h hk, bts_form h' hk'] at hb hs
      rw [strOfNums_size, strOfNums_size] at hs
      rw [strOfNums_size] at hb
      refine btL_pre k a b r k' a' b' r' h hk h' hk' ((btL k' a' b').drop (btL k a b).length) ?_
      refine List.ext_getElem (by simp; omega) fun j hj1 hj2 => ?_
      by_cases hj : j < (btL k a b).length
      · have e := hb j hj
        rw [bt_list' _ (btL_bd k a b r h hk) j hj, bt_list' _ (btL_bd k' a' b' r' h' hk') j hj2] at e
        rw [List.getElem_append_left hj]
        simp [List.getD, hj, hj2] at e
        exact e.symm
      · rw [List.getElem_append_right (by omega), List.getElem_drop]
        congr 1
        omega
theorem bts_ext (k a b r k' a' b' r' : Int) (h : isC k a b r = true) (h' : isC k' a' b' r' = true) (hs : (bts k a b r).size ≤ (bts k' a' b' r').size) (hne : ¬ (k = k' ∧ a = a' ∧ b = b' ∧ r = r')) :
    (((bts k' a' b' r').extract 0 (bts k a b r).size).toList == (bts k a b r).toList) = false := by
  rw [str_eq_of_toList]
  refine decide_eq_false fun e => hne (bts_pre k a b r k' a' b' r' h h' hs fun j hj => ?_)
  rw [← bt_pre _ _ j hs hj]
  unfold pre
  rw [e]
end Vt
end Go.Proofs.YteafbfgmdknaeaaDoor
