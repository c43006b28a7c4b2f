/- What the reference's Next tells, and that it is what the chapter says; all bytes are scanned. -/
import Derived.Test.YteafbfgmdknaeaaDoorScR
set_option linter.unusedVariables false
namespace Go.Proofs.YteafbfgmdknaeaaDoor
open Go.RowKit Go.PlainAid Gl
namespace Vt
theorem isC_mv (a : Int) (h : 1 ≤ a ∧ a ≤ 80) : isR (3, a, 0, 0) = true := (isC_iff 3 a 0 0).2 (.inr (.inr (.inl ⟨by omega, by omega, h.1, h.2, rfl, rfl⟩)))
theorem isC_go (a b : Int) (h : 0 ≤ a ∧ a ≤ 23) (h' : 0 ≤ b ∧ b ≤ 79) : isR (2, a, b, 0) = true := (isC_iff 2 a b 0).2 (.inr (.inl ⟨rfl, h.1, h.2, h'.1, h'.2, rfl⟩))
theorem dg1 (n : Int) (h : n < 10) : dg n = [48 + n] := by unfold dg; rw [if_pos h]
theorem dg2 (n : Int) (h : ¬ n < 10) : dg n = [48 + n / 10, 48 + n % 10] := by unfold dg; rw [if_neg h]
theorem m1 : moreS (strOfNums [27]) = true := tail_yes [] [91, 65] (3, 1, 0, 0) t1 (isC_mv 1 (by omega)) (by decide) (by rw [btL_move 3 1 0 (by omega)]; rfl)
theorem m2 : moreS (strOfNums [27, 91]) = true := tail_yes [91] [65] (3, 1, 0, 0) t2 (isC_mv 1 (by omega)) (by decide) (by rw [btL_move 3 1 0 (by omega)]; rfl)
theorem btL_mv (a : Int) (h : 1 < a) : btL 3 a 0 = 27 :: 91 :: (dg a ++ [65]) := by
  rw [btL_move 3 a 0 (by omega)]
  unfold dgo
  rw [if_pos h]
  rfl
theorem m3 (q : Int) (h : 1 ≤ q ∧ q ≤ 9) : moreS (strOfNums [27, 91, 48 + q]) = true := by
  by_cases h1 : q = 1
  · subst h1
    exact tail_yes [91, 49] [59, 49, 72] (2, 0, 0, 0) t3 (isC_go 0 0 (by omega) (by omega)) (by decide) rfl
  · exact tail_yes [91, 48 + q] [65] (3, q, 0, 0) t2 (isC_mv q (by omega)) (show (3 : Int) ≠ 1 by decide) (by rw [btL_mv q (by omega), dg1 q (by omega)]; rfl)
theorem m4 (q : Int) (h : 10 ≤ q ∧ q ≤ 80) : moreS (strOfNums [27, 91, 48 + q / 10, 48 + q % 10]) = true :=
  tail_yes [91, 48 + q / 10, 48 + q % 10] [65] (3, q, 0, 0) t2 (isC_mv q (by omega)) (show (3 : Int) ≠ 1 by decide) (by rw [btL_mv q (by omega), dg2 q (by omega)]; rfl)
theorem g1 (a : Int) (h : 0 ≤ a ∧ a ≤ 23) : moreS (strOfNums (27 :: 91 :: (dg (a + 1) ++ [59]))) = true :=
  tail_yes (91 :: (dg (a + 1) ++ [59])) [49, 72] (2, a, 0, 0) t4 (isC_go a 0 h (by omega)) (show (2 : Int) ≠ 1 by decide) (by rw [btL_go, show dg (0 + 1) = [49] from rfl]; simp)
theorem g2 (a b : Int) (h : 0 ≤ a ∧ a ≤ 23) (h' : 0 ≤ b ∧ b ≤ 79) : moreS (strOfNums (27 :: 91 :: (dg (a + 1) ++ 59 :: dg (b + 1)))) = true :=
  tail_yes (91 :: (dg (a + 1) ++ 59 :: dg (b + 1))) [72] (2, a, b, 0) t5 (isC_go a b h h') (show (2 : Int) ≠ 1 by decide) (by rw [btL_go]; simp)
/-- The numbers of a command that is no text, cut behind so many. -/
theorem more_cut (k a b r : Int) (h : isC k a b r = true) (hk : k ≠ 1) (n : Nat) (h1 : 1 ≤ n) (hn : n < (btL k a b).length) : moreS (strOfNums ((btL k a b).take n)) = true := by
  rcases (isC_iff k a b r).1 h with c | ⟨rfl, c1, c2, c3, c4, rfl⟩ | ⟨c1, c2, c3, c4, rfl, rfl⟩ | c
  · omega
  · rw [btL_go] at hn ⊢
    by_cases ha : a + 1 < 10
    · have G1 := g1 a ⟨c1, c2⟩
      rw [dg1 _ ha] at hn G1 ⊢
      by_cases hb : b + 1 < 10
      · have G2 := g2 a b ⟨c1, c2⟩ ⟨c3, c4⟩
        rw [dg1 _ ha, dg1 _ hb] at G2
        rw [dg1 _ hb] at hn ⊢
        simp at hn
        rcases (show n = 1 ∨ n = 2 ∨ n = 3 ∨ n = 4 ∨ n = 5 by omega) with rfl | rfl | rfl | rfl | rfl
        · exact m1
        · exact m2
        · exact m3 (a + 1) (by omega)
        · exact G1
        · exact G2
      · have G2 := g2 a b ⟨c1, c2⟩ ⟨c3, c4⟩
        have G3 := g2 a ((b + 1) / 10 - 1) ⟨c1, c2⟩ (by omega)
        rw [dg1 _ ha, dg2 _ hb] at G2
        rw [dg1 _ ha, show (b + 1) / 10 - 1 + 1 = (b + 1) / 10 by omega, dg1 _ (show (b + 1) / 10 < 10 by omega)] at G3
        rw [dg2 _ hb] at hn ⊢
        simp at hn
        rcases (show n = 1 ∨ n = 2 ∨ n = 3 ∨ n = 4 ∨ n = 5 ∨ n = 6 by omega) with rfl | rfl | rfl | rfl | rfl | rfl
        · exact m1
        · exact m2
        · exact m3 (a + 1) (by omega)
        · exact G1
        · exact G3
        · exact G2
    · have G1 := g1 a ⟨c1, c2⟩
      rw [dg2 _ ha] at hn G1 ⊢
      by_cases hb : b + 1 < 10
      · have G2 := g2 a b ⟨c1, c2⟩ ⟨c3, c4⟩
        rw [dg2 _ ha, dg1 _ hb] at G2
        rw [dg1 _ hb] at hn ⊢
        simp at hn
        rcases (show n = 1 ∨ n = 2 ∨ n = 3 ∨ n = 4 ∨ n = 5 ∨ n = 6 by omega) with rfl | rfl | rfl | rfl | rfl | rfl
        · exact m1
        · exact m2
        · exact m3 ((a + 1) / 10) (by omega)
        · exact m4 (a + 1) (by omega)
        · exact G1
        · exact G2
      · have G2 := g2 a b ⟨c1, c2⟩ ⟨c3, c4⟩
        have G3 := g2 a ((b + 1) / 10 - 1) ⟨c1, c2⟩ (by omega)
        rw [dg2 _ ha, dg2 _ hb] at G2
        rw [dg2 _ ha, show (b + 1) / 10 - 1 + 1 = (b + 1) / 10 by omega, dg1 _ (show (b + 1) / 10 < 10 by omega)] at G3
        rw [dg2 _ hb] at hn ⊢
        simp at hn
        rcases (show n = 1 ∨ n = 2 ∨ n = 3 ∨ n = 4 ∨ n = 5 ∨ n = 6 ∨ n = 7 by omega) with rfl | rfl | rfl | rfl | rfl | rfl | rfl
        · exact m1
        · exact m2
        · exact m3 ((a + 1) / 10) (by omega)
        · exact m4 (a + 1) (by omega)
        · exact G1
        · exact G3
        · exact G2
  · rw [btL_move k a 0 ⟨c1, c2⟩] at hn ⊢
    by_cases h1' : 1 < a
    · rw [show dgo a = dg a by unfold dgo; rw [if_pos h1']] at hn ⊢
      by_cases ha : a < 10
      · rw [dg1 _ ha] at hn ⊢
        simp at hn
        rcases (show n = 1 ∨ n = 2 ∨ n = 3 by omega) with rfl | rfl | rfl
        · exact m1
        · exact m2
        · exact m3 a (by omega)
      · rw [dg2 _ ha] at hn ⊢
        simp at hn
        rcases (show n = 1 ∨ n = 2 ∨ n = 3 ∨ n = 4 by omega) with rfl | rfl | rfl | rfl
        · exact m1
        · exact m2
        · exact m3 (a / 10) (by omega)
        · exact m4 a (by omega)
    · rw [show dgo a = [] by unfold dgo; rw [if_neg h1']] at hn ⊢
      simp at hn
      rcases (show n = 1 ∨ n = 2 by omega) with rfl | rfl
      · exact m1
      · exact m2
  · rcases btL_one k a b ⟨c.1, c.2.1⟩ with ⟨_, e⟩ | ⟨_, e⟩ | ⟨_, e⟩ | ⟨_, e⟩ | ⟨_, e⟩ | ⟨_, e⟩
    all_goals (rw [e] at hn ⊢; simp at hn)
    · rcases (show n = 1 ∨ n = 2 by omega) with rfl | rfl
      · exact m1
      · exact m2
    · rcases (show n = 1 ∨ n = 2 by omega) with rfl | rfl
      · exact m1
      · exact m2
    all_goals omega
theorem more_moreS (s : ByteArray) (h : More s) : moreS s = true := by
  obtain ⟨h0, ⟨k, a, b, r⟩, t, hd, ht, he⟩ := h
  have hz := congrArg ByteArray.size he
  rw [size_app] at hz
  have hs : s = pre (btC (k, a, b, r)) s.size := by
    obtain ⟨e, _⟩ := app_inj _ _ _ _ (he.symm.trans (pre_app (btC (k, a, b, r)) s.size (by omega))) (by rw [pre_size _ _ (by omega)])
    exact e
  have hd' : isC k a b r = true := hd
  by_cases hk : k = 1
  · subst hk
    rcases (isC_iff 1 a b r).1 hd' with c | c | c | c
    · have e : btC (1, a, b, r) = putS r := bts_text hd'
      rw [e] at hs hz
      unfold moreS
      rw [Bool.or_eq_true, decide_eq_true_iff]
      left
      rw [hs]
      exact put_more r (shw_vld c.2.1).1 s.size (by omega) (by omega)
    all_goals omega
  · have e : btC (k, a, b, r) = strOfNums (btL k a b) := bts_form hd' hk
    rw [e] at hs hz
    have hp : pre (strOfNums (btL k a b)) s.size = strOfNums ((btL k a b).take s.size) := by
      unfold pre; rw [strOf_extract]; simp
    rw [hp] at hs
    rw [hs]
    rw [strOfNums_size] at hz
    exact more_cut k a b r hd' hk s.size (by omega) (by omega)
/-- What the reference's Next tells. -/
def nxS (s : ByteArray) : Cmd × ByteArray × Int :=
  if s.size = 0 then (d0, ⟨#[]⟩, 6) else
    match (List.range' 1 (min 8 s.size)).find? (fun n => wholeB (pre s n)) with
    | some n => (mbR (pre s n), suf s n, 0)
    | none => if moreS s then (d0, ⟨#[]⟩, 3) else (d0, ⟨#[]⟩, 2)
theorem nxS_is (s : ByteArray) : NxR s (nxS s).1 (nxS s).2.1 (nxS s).2.2 := by
  unfold nxS
  split
  · rename_i h0
    exact .inr ⟨rfl, rfl, .inl ⟨rfl, of_size_zero s h0⟩⟩
  · rename_i h0
    split
    · rename_i n hf
      have hw := List.find?_some hf
      have hm := List.mem_of_find?_eq_some hf
      rw [List.mem_range'_1] at hm
      simp only [wholeB, Bool.and_eq_true, decide_eq_true_iff] at hw
      refine .inl ⟨rfl, hw.1, ?_⟩
      rw [hw.2]
      exact pre_app s n (by omega)
    · rename_i hf
      have hn : ∀ d t, isR d = true → s ≠ btC d ++ t := by
        rintro d t hd rfl
        have h1 := btC_one d hd
        have h8 := btC_size d
        rw [List.find?_eq_none] at hf
        have hx := hf (btC d).size (by rw [List.mem_range'_1, size_app]; omega)
        refine hx ((whole_iff _).2 ⟨d, hd, ?_⟩)
        obtain ⟨e, _⟩ := app_inj _ _ _ _ (pre_app (btC d ++ t) (btC d).size (by rw [size_app]; omega)) (by rw [pre_size _ _ (by rw [size_app]; omega)])
        exact e
      split
      · rename_i hq
        exact .inr ⟨rfl, rfl, .inr (.inl ⟨rfl, moreS_more s (by omega) hq⟩)⟩
      · rename_i hq
        refine .inr ⟨rfl, rfl, .inr (.inr ⟨rfl, h0, hn, fun d t hd he => ?_⟩)⟩
        by_cases ht : t.size = 0
        · refine hn d ⟨#[]⟩ hd ?_
          rw [of_size_zero t ht, app_nil] at he
          rw [app_nil, he]
        · exact hq (more_moreS s ⟨h0, d, t, hd, ht, he⟩)
theorem nx_one {s : ByteArray} {c : Cmd} {x : ByteArray} {e : Int} (h : NxR s c x e) : (nxS s) = (c, x, e) := by
  obtain ⟨h1, h2, h3⟩ := (nxS_is s).one h
  rw [← h1, ← h2, ← h3]
/-- Each row of bytes is whole commands and a stop, or ends badly. -/
theorem all_some : ∀ (n : Nat) (s : ByteArray), s.size ≤ n → (∃ l x, AllR s l x) ∨ AllBad s
  | n, s, hn => by
    rcases nxS_is s with ⟨_, hc, hs⟩ | ⟨_, _, h⟩
    · have h1 := btC_one _ hc
      have hz : s.size = (btC (nxS s).1).size + (nxS s).2.1.size := (congrArg ByteArray.size hs).trans (size_app _ _)
      match n with
      | 0 => omega
      | n + 1 =>
        have hr : ∀ c ∈ [(nxS s).1], isR c = true := fun c hc' => by simp at hc'; rw [hc']; exact hc
        have e : btsL [(nxS s).1] ++ (nxS s).2.1 = s := by rw [show btsL [(nxS s).1] = btC (nxS s).1 from app_nil _]; exact hs.symm
        rcases all_some n (nxS s).2.1 (by omega) with ⟨l, x, h⟩ | h
        · have h' := h.ahead hr
          rw [e] at h'
          exact .inl ⟨_, _, h'⟩
        · have h' := h.ahead hr
          rw [e] at h'
          exact .inr h'
    · rcases h with ⟨_, h⟩ | ⟨_, h⟩ | ⟨_, h⟩
      · exact .inl ⟨[], s, fun _ h => (List.not_mem_nil h).elim, (nil_app s).symm, .inl (by rw [h]; rfl)⟩
      · exact .inl ⟨[], s, fun _ h => (List.not_mem_nil h).elim, (nil_app s).symm, .inr h⟩
      · exact .inr ⟨[], s, fun _ h => (List.not_mem_nil h).elim, (nil_app s).symm, h⟩
end Vt
end Go.Proofs.YteafbfgmdknaeaaDoor
