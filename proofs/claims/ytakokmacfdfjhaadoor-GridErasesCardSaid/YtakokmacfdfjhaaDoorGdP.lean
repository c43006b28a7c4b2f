/- Grids of cells, in plain mathematics: which are right, what is mended, what is laid. -/
import Derived.Test.YtakokmacfdfjhaaDoorWdP
import Derived.Laws.CopyOwn
namespace Go.Proofs.YtakokmacfdfjhaaDoor
namespace Gd
abbrev okc := Wd.ok
def bl : Int × Int := (32, 0)
def lost (W : Nat) (L : List (Int × Int)) (i : Nat) : Prop :=
  ((L.getD i (0, 0)).2 = 1 ∧ (i % W + 1 = W ∨ L.getD (i + 1) (0, 0) ≠ ((L.getD i (0, 0)).1, 2))) ∨
  ((L.getD i (0, 0)).2 = 2 ∧ (i % W = 0 ∨ L.getD (i - 1) (0, 0) ≠ ((L.getD i (0, 0)).1, 1)))
instance (W : Nat) (L : List (Int × Int)) (i : Nat) : Decidable (lost W L i) := by unfold lost; infer_instance
def right (gw gh : Int) (L : List (Int × Int)) : Prop :=
  (2 ≤ gw ∧ gw ≤ 80 ∧ 1 ≤ gh ∧ gh ≤ 24) ∧ (L.length : Int) = gw * gh ∧ ∀ i, i < L.length → okc (L.getD i (0, 0)).1 (L.getD i (0, 0)).2 = true ∧ ¬ lost gw.toNat L i
instance (gw gh : Int) (L : List (Int × Int)) : Decidable (right gw gh L) := by unfold right; infer_instance
def mend (W : Nat) (M : List (Int × Int)) : List (Int × Int) := (List.range M.length).map fun i => if lost W M i then bl else M.getD i (0, 0)
theorem ext_getD {l m : List (Int × Int)} (h : l.length = m.length) (h2 : ∀ i, i < l.length → l.getD i (0, 0) = m.getD i (0, 0)) : l = m := by
  apply List.ext_getElem h
  intro i h3 h4
  have := h2 i h3
  simpa [List.getD, h3, h4] using this
theorem map_getD (n : Nat) (f : Nat → Int × Int) (i : Nat) : ((List.range n).map f).getD i (0, 0) = if i < n then f i else (0, 0) := by
  by_cases h : i < n
  · simp [List.getD, h]
  · simp [List.getD, h]
theorem mend_len (W : Nat) (M : List (Int × Int)) : (mend W M).length = M.length := by simp [mend]
theorem mend_at (W : Nat) (M : List (Int × Int)) (i : Nat) (h : i < M.length) : (mend W M).getD i (0, 0) = if lost W M i then bl else M.getD i (0, 0) := by
  unfold mend; rw [map_getD, if_pos h]
theorem getD_ge {L : List (Int × Int)} {i : Nat} (h : L.length ≤ i) : L.getD i (0, 0) = (0, 0) := by
  simp [List.getD, h]
theorem set_getD (L : List (Int × Int)) (j : Nat) (c : Int × Int) (i : Nat) (h : j < L.length) : (L.set j c).getD i (0, 0) = if i = j then c else L.getD i (0, 0) := by
  simp only [List.getD, List.getElem?_set]
  by_cases hij : i = j
  · subst hij; simp [h]
  · rw [if_neg (Ne.symm hij), if_neg hij]
theorem splice_getD (L : List (Int × Int)) (off : Nat) (cs : List (Int × Int)) (i : Nat) (h : off + cs.length ≤ L.length) :
    (Go.splice L off cs).getD i (0, 0) = if off ≤ i ∧ i < off + cs.length then cs.getD (i - off) (0, 0) else L.getD i (0, 0) := by
  unfold Go.splice
  simp only [List.getD]
  by_cases h1 : i < off
  · rw [List.getElem?_append_left (by simp; omega), List.getElem?_take, if_pos h1, if_neg (by omega)]
  · rw [List.getElem?_append_right (by simp; omega), List.length_take, Nat.min_eq_left (by omega)]
    by_cases h2 : i < off + cs.length
    · rw [List.getElem?_append_left (by omega), if_pos (by omega)]
    · rw [List.getElem?_append_right (by omega), List.getElem?_drop, if_neg (by omega)]
      congr 2
      omega
theorem splice_len (L : List (Int × Int)) (off : Nat) (cs : List (Int × Int)) (h : off + cs.length ≤ L.length) : (Go.splice L off cs).length = L.length := Go.length_splice L off cs h
/-- A row of cells that is laid: halves are together within it, and in one row. -/
def Self (W fr : Nat) (l : List (Int × Int)) : Prop := ∀ j, j < l.length →
  ((l.getD j (0, 0)).2 = 1 → j + 1 < l.length ∧ l.getD (j + 1) (0, 0) = ((l.getD j (0, 0)).1, 2) ∧ (fr + j) % W + 1 ≠ W) ∧
  ((l.getD j (0, 0)).2 = 2 → 0 < j ∧ l.getD (j - 1) (0, 0) = ((l.getD j (0, 0)).1, 1) ∧ (fr + j) % W ≠ 0)
def lay (L : List (Int × Int)) (fr : Nat) (l : List (Int × Int)) : List (Int × Int) :=
  if l.length = 0 then L else
    let c1 := if (L.getD fr (0, 0)).2 = 2 then L.set (fr - 1) bl else L
    let c2 := if (L.getD (fr + l.length - 1) (0, 0)).2 = 1 then c1.set (fr + l.length) bl else c1
    Go.splice c2 fr l
theorem mod_succ {W i : Nat} (hW : 0 < W) (h : i % W + 1 ≠ W) : (i + 1) % W = i % W + 1 := by
  have h1 := Nat.mod_lt i hW
  rw [Nat.add_mod]
  by_cases h2 : W = 1
  · omega
  · rw [Nat.mod_eq_of_lt (show 1 < W by omega), Nat.mod_eq_of_lt (by omega)]
theorem mod_pred {W i : Nat} (hW : 0 < W) (h : i % W ≠ 0) : (i - 1) % W + 1 = i % W := by
  have hi : 0 < i := by rcases Nat.eq_zero_or_pos i with rfl | h1; simp at h; exact h1
  by_cases h3 : (i - 1) % W + 1 = W
  · exfalso
    have e : i = (i - 1) + 1 := by omega
    rw [e, Nat.add_mod] at h
    by_cases h2 : W = 1
    · subst h2; omega
    · rw [Nat.mod_eq_of_lt (show 1 < W by omega), h3, Nat.mod_self] at h
      omega
  · have := mod_succ hW h3
    rw [Nat.sub_add_cancel hi] at this
    omega
/-- What is told of a right grid's cells. -/
structure R (W H : Nat) (L : List (Int × Int)) : Prop where
  w2 : 2 ≤ W
  w80 : W ≤ 80
  h1 : 1 ≤ H
  h24 : H ≤ 24
  len : L.length = W * H
  ok : ∀ i, i < L.length → okc (L.getD i (0, 0)).1 (L.getD i (0, 0)).2 = true
  no : ∀ i, i < L.length → ¬ lost W L i
theorem right_R {gw gh : Int} {L : List (Int × Int)} (h : right gw gh L) : ∃ W H : Nat, gw = W ∧ gh = H ∧ R W H L := by
  obtain ⟨⟨h1, h2, h3, h4⟩, h5, h6⟩ := h
  refine ⟨gw.toNat, gh.toNat, by omega, by omega, ?_⟩
  have e1 : gw = gw.toNat := by omega
  have e2 : gh = gh.toNat := by omega
  refine ⟨by omega, by omega, by omega, by omega, ?_, fun i hi => (h6 i hi).1, fun i hi => (h6 i hi).2⟩
  rw [e1, e2] at h5
  exact_mod_cast h5
theorem R_right {W H : Nat} {L : List (Int × Int)} (h : R W H L) : right W H L := by
  refine ⟨⟨by have := h.w2; omega, by have := h.w80; omega, by have := h.h1; omega, by have := h.h24; omega⟩, ?_, fun i hi => ⟨h.ok i hi, by simpa using h.no i hi⟩⟩
  rw [h.len]; simp
theorem R.l1 {W H : Nat} {L : List (Int × Int)} (h : R W H L) {i : Nat} (hi : i < L.length) (hk : (L.getD i (0, 0)).2 = 1) : i % W + 1 ≠ W ∧ L.getD (i + 1) (0, 0) = ((L.getD i (0, 0)).1, 2) ∧ i + 1 < L.length := by
  have := h.no i hi
  unfold lost at this
  simp only [not_or, not_and, Classical.not_not] at this
  obtain ⟨h1, h2⟩ := this.1 hk
  refine ⟨h1, h2, ?_⟩
  apply Classical.byContradiction
  intro h3
  rw [getD_ge (by omega)] at h2
  have := congrArg Prod.snd h2
  simp at this
theorem R.l2 {W H : Nat} {L : List (Int × Int)} (h : R W H L) {i : Nat} (hi : i < L.length) (hk : (L.getD i (0, 0)).2 = 2) : i % W ≠ 0 ∧ L.getD (i - 1) (0, 0) = ((L.getD i (0, 0)).1, 1) ∧ 0 < i := by
  have := h.no i hi
  unfold lost at this
  simp only [not_or, not_and, Classical.not_not] at this
  obtain ⟨h1, h2⟩ := this.2 hk
  refine ⟨h1, h2, ?_⟩
  rcases Nat.eq_zero_or_pos i with rfl | h3
  · simp at h1
  · exact h3
theorem lay_len {L : List (Int × Int)} {fr : Nat} {l : List (Int × Int)} (hf : fr + l.length ≤ L.length) : (lay L fr l).length = L.length := by
  unfold lay
  split
  · rfl
  · simp only
    rw [splice_len]
    · repeat' split
      all_goals simp
    · repeat' split
      all_goals simpa using hf
theorem lay_at {W H : Nat} {L : List (Int × Int)} (h : R W H L) {fr : Nat} {l : List (Int × Int)} (hf : fr + l.length ≤ L.length) (i : Nat) :
    (lay L fr l).getD i (0, 0) = if fr ≤ i ∧ i < fr + l.length then l.getD (i - fr) (0, 0)
      else if 0 < l.length ∧ i + 1 = fr ∧ (L.getD fr (0, 0)).2 = 2 then bl
      else if 0 < l.length ∧ i = fr + l.length ∧ (L.getD (fr + l.length - 1) (0, 0)).2 = 1 then bl else L.getD i (0, 0) := by
  unfold lay
  by_cases h0 : l.length = 0
  · rw [if_pos h0, if_neg (by omega), if_neg (by omega), if_neg (by omega)]
  · rw [if_neg h0]
    simp only
    rw [splice_getD]
    · by_cases h1 : fr ≤ i ∧ i < fr + l.length
      · rw [if_pos h1, if_pos h1]
      · rw [if_neg h1, if_neg h1]
        by_cases hb : (L.getD (fr + l.length - 1) (0, 0)).2 = 1
        · obtain ⟨_, _, hb3⟩ := h.l1 (by omega) hb
          rw [if_pos hb, set_getD _ _ _ _ (by split <;> (try rw [List.length_set]) <;> omega)]
          by_cases ha : (L.getD fr (0, 0)).2 = 2
          · obtain ⟨_, _, ha3⟩ := h.l2 (by omega) ha
            rw [if_pos ha, set_getD _ _ _ _ (by omega)]
            by_cases c1 : i = fr + l.length
            · rw [if_pos c1, if_neg (by omega), if_pos ⟨by omega, c1, hb⟩]
            · rw [if_neg c1]
              by_cases c2 : i = fr - 1
              · rw [if_pos c2, if_pos ⟨by omega, by omega, ha⟩]
              · rw [if_neg c2, if_neg (by omega), if_neg (fun h => c1 h.2.1)]
          · have hm : ¬ (0 < l.length ∧ i + 1 = fr ∧ (L.getD fr (0, 0)).2 = 2) := fun h => ha h.2.2
            rw [if_neg ha, if_neg hm]
            by_cases c1 : i = fr + l.length
            · rw [if_pos c1, if_pos ⟨by omega, c1, hb⟩]
            · rw [if_neg c1, if_neg (fun h => c1 h.2.1)]
        · rw [if_neg hb]
          have hn : ¬ (0 < l.length ∧ i = fr + l.length ∧ (L.getD (fr + l.length - 1) (0, 0)).2 = 1) := fun h => hb h.2.2
          rw [if_neg hn]
          by_cases ha : (L.getD fr (0, 0)).2 = 2
          · obtain ⟨_, _, ha3⟩ := h.l2 (by omega) ha
            rw [if_pos ha, set_getD _ _ _ _ (by omega)]
            by_cases c2 : i = fr - 1
            · rw [if_pos c2, if_pos ⟨by omega, by omega, ha⟩]
            · rw [if_neg c2, if_neg (by omega)]
          · have hm : ¬ (0 < l.length ∧ i + 1 = fr ∧ (L.getD fr (0, 0)).2 = 2) := fun h => ha h.2.2
            rw [if_neg ha, if_neg hm]
    · repeat' split
      all_goals simpa using hf
theorem lay_mend {W H : Nat} {L : List (Int × Int)} (h : R W H L) {fr : Nat} {l : List (Int × Int)} (hf : fr + l.length ≤ L.length) (hs : Self W fr l) :
    lay L fr l = mend W (Go.splice L fr l) := by
  have hW : 0 < W := by have := h.w2; omega
  apply ext_getD
  · rw [lay_len hf, mend_len, splice_len _ _ _ hf]
  intro i hi
  rw [lay_len hf] at hi
  rw [lay_at h hf, mend_at _ _ _ (by rw [splice_len _ _ _ hf]; exact hi)]
  have hM := fun k => splice_getD L fr l k hf
  by_cases hin : fr ≤ i ∧ i < fr + l.length
  · rw [if_pos hin, if_neg, hM, if_pos hin]
    obtain ⟨s1, s2⟩ := hs (i - fr) (by omega)
    have e0 : fr + (i - fr) = i := by omega
    rw [e0] at s1 s2
    unfold lost
    rw [hM i, if_pos hin]
    rintro (⟨c1, c2⟩ | ⟨c1, c2⟩)
    · obtain ⟨d1, d2, d3⟩ := s1 c1
      rcases c2 with c2 | c2
      · exact d3 c2
      · apply c2
        rw [hM, if_pos (by omega), ← d2]
        congr 1; omega
    · obtain ⟨d1, d2, d3⟩ := s2 c1
      rcases c2 with c2 | c2
      · exact d3 c2
      · apply c2
        rw [hM, if_pos (by omega), ← d2]
        congr 1; omega
  · rw [if_neg hin]
    have hMi : (Go.splice L fr l).getD i (0, 0) = L.getD i (0, 0) := by rw [hM, if_neg hin]
    by_cases k1 : (L.getD i (0, 0)).2 = 1
    · obtain ⟨e1, e2, e3⟩ := h.l1 hi k1
      by_cases hn : 0 < l.length ∧ i + 1 = fr
      · have hlo : lost W (Go.splice L fr l) i := by
          left
          rw [hMi]
          refine ⟨k1, .inr ?_⟩
          rw [hM, if_pos (by omega)]
          obtain ⟨s1, s2⟩ := hs (i + 1 - fr) (by omega)
          intro hc
          have := s2 (by rw [hc])
          omega
        rw [if_pos ⟨hn.1, hn.2, by rw [← hn.2, e2]⟩, if_pos hlo]
      · have hlo : ¬ lost W (Go.splice L fr l) i := by
          unfold lost
          rw [hMi]
          rintro (⟨c1, c2⟩ | ⟨c1, c2⟩)
          · rcases c2 with c2 | c2
            · exact e1 c2
            · apply c2
              rw [hM, if_neg (by omega), e2]
          · rw [k1] at c1; omega
        rw [if_neg (fun h => hn ⟨h.1, h.2.1⟩), if_neg, if_neg hlo, hMi]
        rintro ⟨c1, rfl, c3⟩
        obtain ⟨_, f2, _⟩ := h.l1 (by omega) c3
        rw [show fr + l.length - 1 + 1 = fr + l.length by omega] at f2
        rw [f2] at k1
        have k1' : (2 : Int) = 1 := k1
        omega
    · by_cases k2 : (L.getD i (0, 0)).2 = 2
      · obtain ⟨e1, e2, e3⟩ := h.l2 hi k2
        rw [if_neg]
        · by_cases hn : 0 < l.length ∧ i = fr + l.length
          · have hlo : lost W (Go.splice L fr l) i := by
              right
              rw [hMi]
              refine ⟨k2, .inr ?_⟩
              rw [hM, if_pos (by omega)]
              obtain ⟨s1, s2⟩ := hs (i - 1 - fr) (by omega)
              intro hc
              have := s1 (by rw [hc])
              omega
            rw [if_pos ⟨hn.1, hn.2, by rw [← hn.2, e2]⟩, if_pos hlo]
          · have hlo : ¬ lost W (Go.splice L fr l) i := by
              unfold lost
              rw [hMi]
              rintro (⟨c1, c2⟩ | ⟨c1, c2⟩)
              · exact k1 c1
              · rcases c2 with c2 | c2
                · exact e1 c2
                · apply c2
                  rw [hM, if_neg (by omega), e2]
            rw [if_neg (fun h => hn ⟨h.1, h.2.1⟩), if_neg hlo, hMi]
        · rintro ⟨c1, c2, c3⟩
          obtain ⟨_, f2, _⟩ := h.l2 (by omega) c3
          rw [show fr - 1 = i by omega] at f2
          rw [f2] at k2
          have k2' : (1 : Int) = 2 := k2
          omega
      · have hlo : ¬ lost W (Go.splice L fr l) i := by
          unfold lost
          rw [hMi]
          rintro (⟨c1, _⟩ | ⟨c1, _⟩)
          · exact k1 c1
          · exact k2 c1
        rw [if_neg, if_neg, if_neg hlo, hMi]
        · rintro ⟨c1, rfl, c3⟩
          obtain ⟨_, f2, _⟩ := h.l1 (by omega) c3
          rw [show fr + l.length - 1 + 1 = fr + l.length by omega] at f2
          rw [f2] at k2
          exact k2 rfl
        · rintro ⟨c1, c2, c3⟩
          obtain ⟨_, f2, _⟩ := h.l2 (by omega) c3
          rw [show fr - 1 = i by omega] at f2
          rw [f2] at k1
          exact k1 rfl
/-- What was mended is right, if its cells are. -/
theorem mend_R {W H : Nat} {M : List (Int × Int)} (w2 : 2 ≤ W) (w80 : W ≤ 80) (h1 : 1 ≤ H) (h24 : H ≤ 24) (hl : M.length = W * H) (hok : ∀ i, i < M.length → okc (M.getD i (0, 0)).1 (M.getD i (0, 0)).2 = true) : R W H (mend W M) := by
  have hW : 0 < W := by omega
  refine ⟨w2, w80, h1, h24, by rw [mend_len, hl], fun i hi => ?_, fun i hi => ?_⟩
  · rw [mend_len] at hi
    rw [mend_at _ _ _ hi]
    split
    · rfl
    · exact hok i hi
  · rw [mend_len] at hi
    by_cases hlo : lost W M i
    · unfold lost
      rw [mend_at _ _ _ hi, if_pos hlo]
      rintro (⟨c1, _⟩ | ⟨c1, _⟩) <;> cases c1
    · have hlo' := hlo
      unfold lost at hlo ⊢
      rw [mend_at _ _ _ hi, if_neg hlo']
      simp only [not_or, not_and, Classical.not_not] at hlo ⊢
      refine ⟨fun k1 => ?_, fun k2 => ?_⟩
      · obtain ⟨a1, a2⟩ := hlo.1 k1
        refine ⟨a1, ?_⟩
        have hi1 : i + 1 < M.length := by
          apply Classical.byContradiction
          intro h3
          rw [getD_ge (by omega)] at a2
          have := congrArg Prod.snd a2
          simp at this
        rw [mend_at _ _ _ hi1, if_neg, a2]
        unfold lost
        rw [a2]
        rintro (⟨c1, _⟩ | ⟨_, c2 | c2⟩)
        · cases c1
        · rw [mod_succ hW a1] at c2; omega
        · apply c2
          show M.getD i (0, 0) = _
          rw [← k1]
      · obtain ⟨a1, a2⟩ := hlo.2 k2
        refine ⟨a1, ?_⟩
        have hi0 : 0 < i := by rcases Nat.eq_zero_or_pos i with rfl | h1; simp at a1; exact h1
        rw [mend_at _ _ _ (by omega), if_neg, a2]
        unfold lost
        rw [a2]
        rintro (⟨_, c2 | c2⟩ | ⟨c1, _⟩)
        · have := mod_pred hW a1
          have := Nat.mod_lt i hW
          omega
        · apply c2
          rw [Nat.sub_add_cancel hi0]
          show M.getD i (0, 0) = _
          rw [← k2]
        · cases c1
end Gd
end Go.Proofs.YtakokmacfdfjhaaDoor
