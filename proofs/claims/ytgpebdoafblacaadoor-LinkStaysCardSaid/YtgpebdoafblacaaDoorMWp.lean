/- Cells and grids in plain mathematics. -/
import Derived.Test.YtgpebdoafblacaaDoorMGp
import Derived.Laws.CopyOwn
/- Signs in cells, in plain mathematics: which are shown, which are wide, the cells of each. -/
namespace Go.Proofs.YtgpebdoafblacaaDoor
open Go.RowKit Gl
namespace Wd
def spans : List (Int × Int) := [(4352, 4447), (11904, 12350), (12353, 42191), (44032, 55203), (63744, 64255), (65072, 65135), (65281, 65376), (65504, 65510), (127744, 128591), (129280, 129535), (131072, 262141)]
def lo (k : Nat) : Int := (spans.getD k (0, 0)).1
def hi (k : Nat) : Int := (spans.getD k (0, 0)).2
def wid (r : Int) : Bool := decide (4352 ≤ r ∧ r ≤ 4447 ∨ 11904 ≤ r ∧ r ≤ 12350 ∨ 12353 ≤ r ∧ r ≤ 42191 ∨ 44032 ≤ r ∧ r ≤ 55203 ∨ 63744 ≤ r ∧ r ≤ 64255 ∨ 65072 ≤ r ∧ r ≤ 65135 ∨ 65281 ≤ r ∧ r ≤ 65376 ∨ 65504 ≤ r ∧ r ≤ 65510 ∨ 127744 ≤ r ∧ r ≤ 128591 ∨ 129280 ≤ r ∧ r ≤ 129535 ∨ 131072 ≤ r ∧ r ≤ 262141)
def shw (r : Int) : Bool := vld r && decide (32 ≤ r ∧ (r < 127 ∨ 159 < r))
theorem wid_at (r : Int) (k : Nat) (hk : k < 11) (h : k = 0 ∨ hi (k - 1) < r) (h2 : r ≤ hi k) : wid r = decide (lo k ≤ r) := by
  unfold wid
  rw [decide_eq_decide]
  rcases (show k = 0 ∨ k = 1 ∨ k = 2 ∨ k = 3 ∨ k = 4 ∨ k = 5 ∨ k = 6 ∨ k = 7 ∨ k = 8 ∨ k = 9 ∨ k = 10 by omega) with rfl | rfl | rfl | rfl | rfl | rfl | rfl | rfl | rfl | rfl | rfl <;>
    simp [hi, lo, spans] at h h2 ⊢ <;> omega
theorem wid_end (r : Int) (h : hi 10 < r) : wid r = false := by
  simp [hi, spans] at h
  unfold wid
  rw [decide_eq_false_iff_not]
  omega
/-- The cells of a sign, each with its sign and its kind. -/
def cl (r : Int) : List (Int × Int) :=
  if 0 ≤ r ∧ r < 32 then [(94, 0), (r + 64, 0)] else if r = 127 then [(94, 0), (63, 0)] else if shw r = false then [(65533, 0)] else if wid r then [(r, 1), (r, 2)] else [(r, 0)]
def wd (r : Int) : Int := (cl r).length
theorem cl_len (r : Int) : (cl r).length = 1 ∨ (cl r).length = 2 := by
  unfold cl; repeat (split; · simp)
  simp
def row (l : List Int) : List (Int × Int) := l.flatMap cl
/-- Is a cell right? -/
def ok (r k : Int) : Bool := shw r && (if wid r then decide (k = 1 ∨ k = 2) else decide (k = 0))
/-- The cells of a row in memory: of each its sign, and its kind. -/
def flat (l : List (Int × Int)) : List Value := l.flatMap fun c => [.int .i32 c.1, .int .i64 c.2]
end Wd
end Go.Proofs.YtgpebdoafblacaaDoor
/- The cells of a sign, by its kind, in plain mathematics. -/
namespace Go.Proofs.YtgpebdoafblacaaDoor
namespace Wd
theorem cl_ctl {r : Int} (h : 0 ≤ r ∧ r < 32) : cl r = [(94, 0), (r + 64, 0)] := by unfold cl; rw [if_pos h]
theorem cl_del : cl 127 = [(94, 0), (63, 0)] := rfl
theorem cl_bad {r : Int} (h : ¬ (0 ≤ r ∧ r < 32)) (h2 : r ≠ 127) (h3 : shw r = false) : cl r = [(65533, 0)] := by unfold cl; rw [if_neg h, if_neg h2, if_pos h3]
theorem cl_wide {r : Int} (h3 : shw r = true) (h4 : wid r = true) : cl r = [(r, 1), (r, 2)] := by
  have : 32 ≤ r ∧ (r < 127 ∨ 159 < r) := by unfold shw at h3; simp at h3; exact h3.2
  unfold cl; rw [if_neg (by omega), if_neg (by omega), if_neg (by rw [h3]; decide), if_pos h4]
theorem cl_one {r : Int} (h3 : shw r = true) (h4 : wid r = false) : cl r = [(r, 0)] := by
  have : 32 ≤ r ∧ (r < 127 ∨ 159 < r) := by unfold shw at h3; simp at h3; exact h3.2
  unfold cl; rw [if_neg (by omega), if_neg (by omega), if_neg (by rw [h3]; decide), if_neg (by rw [h4]; decide)]
end Wd
end Go.Proofs.YtgpebdoafblacaaDoor
/- Grids of cells, in plain mathematics: which are right, what is mended, what is laid. -/
namespace Go.Proofs.YtgpebdoafblacaaDoor
namespace Gd
abbrev okc := Wd.ok
def bl : Int × Int := (32, 0)
def lost (W : Nat) (L : List (Int × Int)) (i : Nat) : Prop :=
  ((L.getD i (0, 0)).2 = 1 ∧ (i % W + 1 = W ∨ L.getD (i + 1) (0, 0) ≠ ((L.getD i (0, 0)).1, 2))) ∨
  ((L.getD i (0, 0)).2 = 2 ∧ (i % W = 0 ∨ L.getD (i - 1) (0, 0) ≠ ((L.getD i (0, 0)).1, 1)))
instance (W : Nat) (L : List (Int × Int)) (i : Nat) : Decidable (lost W L i) := by unfold lost; infer_instance
def right (gw gh : Int) (L : List (Int × Int)) : Prop :=
  (2 ≤ gw ∧ gw ≤ 80 ∧ 1 ≤ gh ∧ gh ≤ 24) ∧ (L.length : Int) = gw * gh ∧ ∀ i, i < L.length → okc (L.getD i (0, 0)).1 (L.getD i (0, 0)).2 = true ∧ ¬ lost gw.toNat L i
instance (gw gh : Int) (L : List (Int × Int)) : Decidable (right gw gh L) := by unfold right; infer_instance
def mend (W : Nat) (M : List (Int × Int)) : List (Int × Int) := (List.range M.length).map fun i => if lost W M i then bl else M.getD i (0, 0)
theorem ext_getD {l m : List (Int × Int)} (h : l.length = m.length) (h2 : ∀ i, i < l.length → l.getD i (0, 0) = m.getD i (0, 0)) : l = m := by
  apply List.ext_getElem h
  intro i h3 h4
  have := h2 i h3
  simpa [List.getD, h3, h4] using this
theorem map_getD (n : Nat) (f : Nat → Int × Int) (i : Nat) : ((List.range n).map f).getD i (0, 0) = if i < n then f i else (0, 0) := by
  by_cases h : i < n
  · simp [List.getD, h]
  · simp [List.getD, h]
theorem mend_len (W : Nat) (M : List (Int × Int)) : (mend W M).length = M.length := by simp [mend]
theorem mend_at (W : Nat) (M : List (Int × Int)) (i : Nat) (h : i < M.length) : (mend W M).getD i (0, 0) = if lost W M i then bl else M.getD i (0, 0) := by
  unfold mend; rw [map_getD, if_pos h]
theorem getD_ge {L : List (Int × Int)} {i : Nat} (h : L.length ≤ i) : L.getD i (0, 0) = (0, 0) := by
  simp [List.getD, h]
theorem set_getD (L : List (Int × Int)) (j : Nat) (c : Int × Int) (i : Nat) (h : j < L.length) : (L.set j c).getD i (0, 0) = if i = j then c else L.getD i (0, 0) := by
  simp only [List.getD, List.getElem?_set]
  by_cases hij : i = j
  · subst hij; simp [h]
  · rw [if_neg (Ne.symm hij), if_neg hij]
theorem splice_getD (L : List (Int × Int)) (off : Nat) (cs : List (Int × Int)) (i : Nat) (h : off + cs.length ≤ L.length) :
    (Go.splice L off cs).getD i (0, 0) = if off ≤ i ∧ i < off + cs.length then cs.getD (i - off) (0, 0) else L.getD i (0, 0) := by
  unfold Go.splice
  simp only [List.getD]
  by_cases h1 : i < off
  · rw [List.getElem?_append_left (by simp; omega), List.getElem?_take, if_pos h1, if_neg (by omega)]
  · rw [List.getElem?_append_right (by simp; omega), List.length_take, Nat.min_eq_left (by omega)]
    by_cases h2 : i < off + cs.length
    · rw [List.getElem?_append_left (by omega), if_pos (by omega)]
    · rw [List.getElem?_append_right (by omega), List.getElem?_drop, if_neg (by omega)]
      congr 2
      omega
theorem splice_len (L : List (Int × Int)) (off : Nat) (cs : List (Int × Int)) (h : off + cs.length ≤ L.length) : (Go.splice L off cs).length = L.length := Go.length_splice L off cs h
/-- A row of cells that is laid: halves are together within it, and in one row. -/
def Self (W fr : Nat) (l : List (Int × Int)) : Prop := ∀ j, j < l.length →
  ((l.getD j (0, 0)).2 = 1 → j + 1 < l.length ∧ l.getD (j + 1) (0, 0) = ((l.getD j (0, 0)).1, 2) ∧ (fr + j) % W + 1 ≠ W) ∧
  ((l.getD j (0, 0)).2 = 2 → 0 < j ∧ l.getD (j - 1) (0, 0) = ((l.getD j (0, 0)).1, 1) ∧ (fr + j) % W ≠ 0)
def lay (L : List (Int × Int)) (fr : Nat) (l : List (Int × Int)) : List (Int × Int) :=
  if l.length = 0 then L else
    let c1 := if (L.getD fr (0, 0)).2 = 2 then L.set (fr - 1) bl else L
    let c2 := if (L.getD (fr + l.length - 1) (0, 0)).2 = 1 then c1.set (fr + l.length) bl else c1
    Go.splice c2 fr l
theorem mod_succ {W i : Nat} (hW : 0 < W) (h : i % W + 1 ≠ W) : (i + 1) % W = i % W + 1 := by
  have h1 := Nat.mod_lt i hW
  rw [Nat.add_mod]
  by_cases h2 : W = 1
  · omega
  · rw [Nat.mod_eq_of_lt (show 1 < W by omega), Nat.mod_eq_of_lt (by omega)]
theorem mod_pred {W i : Nat} (hW : 0 < W) (h : i % W ≠ 0) : (i - 1) % W + 1 = i % W := by
  have hi : 0 < i := by rcases Nat.eq_zero_or_pos i with rfl | h1; simp at h; exact h1
  by_cases h3 : (i - 1) % W + 1 = W
  · exfalso
    have e : i = (i - 1) + 1 := by omega
    rw [e, Nat.add_mod] at h
    by_cases h2 : W = 1
    · subst h2; omega
    · rw [Nat.mod_eq_of_lt (show 1 < W by omega), h3, Nat.mod_self] at h
      omega
  · have := mod_succ hW h3
    rw [Nat.sub_add_cancel hi] at this
    omega
/-- What is told of a right grid's cells. -/
structure R (W H : Nat) (L : List (Int × Int)) : Prop where
  w2 : 2 ≤ W
  w80 : W ≤ 80
  h1 : 1 ≤ H
  h24 : H ≤ 24
  len : L.length = W * H
  ok : ∀ i, i < L.length → okc (L.getD i (0, 0)).1 (L.getD i (0, 0)).2 = true
  no : ∀ i, i < L.length → ¬ lost W L i
theorem right_R {gw gh : Int} {L : List (Int × Int)} (h : right gw gh L) : ∃ W H : Nat, gw = W ∧ gh = H ∧ R W H L := by
  obtain ⟨⟨h1, h2, h3, h4⟩, h5, h6⟩ := h
  refine ⟨gw.toNat, gh.toNat, by omega, by omega, ?_⟩
  have e1 : gw = gw.toNat := by omega
  have e2 : gh = gh.toNat := by omega
  refine ⟨by omega, by omega, by omega, by omega, ?_, fun i hi => (h6 i hi).1, fun i hi => (h6 i hi).2⟩
  rw [e1, e2] at h5
  exact_mod_cast h5
theorem R_right {W H : Nat} {L : List (Int × Int)} (h : R W H L) : right W H L := by
  refine ⟨⟨by have := h.w2; omega, by have := h.w80; omega, by have := h.h1; omega, by have := h.h24; omega⟩, ?_, fun i hi => ⟨h.ok i hi, by simpa using h.no i hi⟩⟩
  rw [h.len]; simp
theorem R.l1 {W H : Nat} {L : List (Int × Int)} (h : R W H L) {i : Nat} (hi : i < L.length) (hk : (L.getD i (0, 0)).2 = 1) : i % W + 1 ≠ W ∧ L.getD (i + 1) (0, 0) = ((L.getD i (0, 0)).1, 2) ∧ i + 1 < L.length := by
  have := h.no i hi
  unfold lost at this
  simp only [not_or, not_and, Classical.not_not] at this
  obtain ⟨h1, h2⟩ := this.1 hk
  refine ⟨h1, h2, ?_⟩
  apply Classical.byContradiction
  intro h3
  rw [getD_ge (by omega)] at h2
  have := congrArg Prod.snd h2
  simp at this
theorem R.l2 {W H : Nat} {L : List (Int × Int)} (h : R W H L) {i : Nat} (hi : i < L.length) (hk : (L.getD i (0, 0)).2 = 2) : i % W ≠ 0 ∧ L.getD (i - 1) (0, 0) = ((L.getD i (0, 0)).1, 1) ∧ 0 < i := by
  have := h.no i hi
  unfold lost at this
  simp only [not_or, not_and, Classical.not_not] at this
  obtain ⟨h1, h2⟩ := this.2 hk
  refine ⟨h1, h2, ?_⟩
  rcases Nat.eq_zero_or_pos i with rfl | h3
  · simp at h1
  · exact h3
theorem lay_len {L : List (Int × Int)} {fr : Nat} {l : List (Int × Int)} (hf : fr + l.length ≤ L.length) : (lay L fr l).length = L.length := by
  unfold lay
  split
  · rfl
  · simp only
    rw [splice_len]
    · repeat' split
      all_goals simp
    · repeat' split
      all_goals simpa using hf
theorem lay_at {W H : Nat} {L : List (Int × Int)} (h : R W H L) {fr : Nat} {l : List (Int × Int)} (hf : fr + l.length ≤ L.length) (i : Nat) :
    (lay L fr l).getD i (0, 0) = if fr ≤ i ∧ i < fr + l.length then l.getD (i - fr) (0, 0)
      else if 0 < l.length ∧ i + 1 = fr ∧ (L.getD fr (0, 0)).2 = 2 then bl
      else if 0 < l.length ∧ i = fr + l.length ∧ (L.getD (fr + l.length - 1) (0, 0)).2 = 1 then bl else L.getD i (0, 0) := by
  unfold lay
  by_cases h0 : l.length = 0
  · rw [if_pos h0, if_neg (by omega), if_neg (by omega), if_neg (by omega)]
  · rw [if_neg h0]
    simp only
    rw [splice_getD]
    · by_cases h1 : fr ≤ i ∧ i < fr + l.length
      · rw [if_pos h1, if_pos h1]
      · rw [if_neg h1, if_neg h1]
        by_cases hb : (L.getD (fr + l.length - 1) (0, 0)).2 = 1
        · obtain ⟨_, _, hb3⟩ := h.l1 (by omega) hb
          rw [if_pos hb, set_getD _ _ _ _ (by split <;> (try rw [List.length_set]) <;> omega)]
          by_cases ha : (L.getD fr (0, 0)).2 = 2
          · obtain ⟨_, _, ha3⟩ := h.l2 (by omega) ha
            rw [if_pos ha, set_getD _ _ _ _ (by omega)]
            by_cases c1 : i = fr + l.length
            · rw [if_pos c1, if_neg (by omega), if_pos ⟨by omega, c1, hb⟩]
            · rw [if_neg c1]
              by_cases c2 : i = fr - 1
              · rw [if_pos c2, if_pos ⟨by omega, by omega, ha⟩]
              · rw [if_neg c2, if_neg (by omega), if_neg (fun h => c1 h.2.1)]
          · have hm : ¬ (0 < l.length ∧ i + 1 = fr ∧ (L.getD fr (0, 0)).2 = 2) := fun h => ha h.2.2
            rw [if_neg ha, if_neg hm]
            by_cases c1 : i = fr + l.length
            · rw [if_pos c1, if_pos ⟨by omega, c1, hb⟩]
            · rw [if_neg c1, if_neg (fun h => c1 h.2.1)]
        · rw [if_neg hb]
          have hn : ¬ (0 < l.length ∧ i = fr + l.length ∧ (L.getD (fr + l.length - 1) (0, 0)).2 = 1) := fun h => hb h.2.2
          rw [if_neg hn]
          by_cases ha : (L.getD fr (0, 0)).2 = 2
          · obtain ⟨_, _, ha3⟩ := h.l2 (by omega) ha
            rw [if_pos ha, set_getD _ _ _ _ (by omega)]
            by_cases c2 : i = fr - 1
            · rw [if_pos c2, if_pos ⟨by omega, by omega, ha⟩]
            · rw [if_neg c2, if_neg (by omega)]
          · have hm : ¬ (0 < l.length ∧ i + 1 = fr ∧ (L.getD fr (0, 0)).2 = 2) := fun h => ha h.2.2
            rw [if_neg ha, if_neg hm]
    · repeat' split
      all_goals simpa using hf
theorem lay_mend {W H : Nat} {L : List (Int × Int)} (h : R W H L) {fr : Nat} {l : List (Int × Int)} (hf : fr + l.length ≤ L.length) (hs : Self W fr l) :
    lay L fr l = mend W (Go.splice L fr l) := by
  have hW : 0 < W := by have := h.w2; omega
  apply ext_getD
  · rw [lay_len hf, mend_len, splice_len _ _ _ hf]
  intro i hi
  rw [lay_len hf] at hi
  rw [lay_at h hf, mend_at _ _ _ (by rw [splice_len _ _ _ hf]; exact hi)]
  have hM := fun k => splice_getD L fr l k hf
  by_cases hin : fr ≤ i ∧ i < fr + l.length
  · rw [if_pos hin, if_neg, hM, if_pos hin]
    obtain ⟨s1, s2⟩ := hs (i - fr) (by omega)
    have e0 : fr + (i - fr) = i := by omega
    rw [e0] at s1 s2
    unfold lost
    rw [hM i, if_pos hin]
    rintro (⟨c1, c2⟩ | ⟨c1, c2⟩)
    · obtain ⟨d1, d2, d3⟩ := s1 c1
      rcases c2 with c2 | c2
      · exact d3 c2
      · apply c2
        rw [hM, if_pos (by omega), ← d2]
        congr 1; omega
    · obtain ⟨d1, d2, d3⟩ := s2 c1
      rcases c2 with c2 | c2
      · exact d3 c2
      · apply c2
        rw [hM, if_pos (by omega), ← d2]
        congr 1; omega
  · rw [if_neg hin]
    have hMi : (Go.splice L fr l).getD i (0, 0) = L.getD i (0, 0) := by rw [hM, if_neg hin]
    by_cases k1 : (L.getD i (0, 0)).2 = 1
    · obtain ⟨e1, e2, e3⟩ := h.l1 hi k1
      by_cases hn : 0 < l.length ∧ i + 1 = fr
      · have hlo : lost W (Go.splice L fr l) i := by
          left
          rw [hMi]
          refine ⟨k1, .inr ?_⟩
          rw [hM, if_pos (by omega)]
          obtain ⟨s1, s2⟩ := hs (i + 1 - fr) (by omega)
          intro hc
          have := s2 (by rw [hc])
          omega
        rw [if_pos ⟨hn.1, hn.2, by rw [← hn.2, e2]⟩, if_pos hlo]
      · have hlo : ¬ lost W (Go.splice L fr l) i := by
          unfold lost
          rw [hMi]
          rintro (⟨c1, c2⟩ | ⟨c1, c2⟩)
          · rcases c2 with c2 | c2
            · exact e1 c2
            · apply c2
              rw [hM, if_neg (by omega), e2]
          · rw [k1] at c1; omega
        rw [if_neg (fun h => hn ⟨h.1, h.2.1⟩), if_neg, if_neg hlo, hMi]
        rintro ⟨c1, rfl, c3⟩
        obtain ⟨_, f2, _⟩ := h.l1 (by omega) c3
        rw [show fr + l.length - 1 + 1 = fr + l.length by omega] at f2
        rw [f2] at k1
        have k1' : (2 : Int) = 1 := k1
        omega
    · by_cases k2 : (L.getD i (0, 0)).2 = 2
      · obtain ⟨e1, e2, e3⟩ := h.l2 hi k2
        rw [if_neg]
        · by_cases hn : 0 < l.length ∧ i = fr + l.length
          · have hlo : lost W (Go.splice L fr l) i := by
              right
              rw [hMi]
              refine ⟨k2, .inr ?_⟩
              rw [hM, if_pos (by omega)]
              obtain ⟨s1, s2⟩ := hs (i - 1 - fr) (by omega)
              intro hc
              have := s1 (by rw [hc])
              omega
            rw [if_pos ⟨hn.1, hn.2, by rw [← hn.2, e2]⟩, if_pos hlo]
          · have hlo : ¬ lost W (Go.splice L fr l) i := by
              unfold lost
              rw [hMi]
              rintro (⟨c1, c2⟩ | ⟨c1, c2⟩)
              · exact k1 c1
              · rcases c2 with c2 | c2
                · exact e1 c2
                · apply c2
                  rw [hM, if_neg (by omega), e2]
            rw [if_neg (fun h => hn ⟨h.1, h.2.1⟩), if_neg hlo, hMi]
        · rintro ⟨c1, c2, c3⟩
          obtain ⟨_, f2, _⟩ := h.l2 (by omega) c3
          rw [show fr - 1 = i by omega] at f2
          rw [f2] at k2
          have k2' : (1 : Int) = 2 := k2
          omega
      · have hlo : ¬ lost W (Go.splice L fr l) i := by
          unfold lost
          rw [hMi]
          rintro (⟨c1, _⟩ | ⟨c1, _⟩)
          · exact k1 c1
          · exact k2 c1
        rw [if_neg, if_neg, if_neg hlo, hMi]
        · rintro ⟨c1, rfl, c3⟩
          obtain ⟨_, f2, _⟩ := h.l1 (by omega) c3
          rw [show fr + l.length - 1 + 1 = fr + l.length by omega] at f2
          rw [f2] at k2
          exact k2 rfl
        · rintro ⟨c1, c2, c3⟩
          obtain ⟨_, f2, _⟩ := h.l2 (by omega) c3
          rw [show fr - 1 = i by omega] at f2
          rw [f2] at k1
          exact k1 rfl
/-- What was mended is right, if its cells are. -/
theorem mend_R {W H : Nat} {M : List (Int × Int)} (w2 : 2 ≤ W) (w80 : W ≤ 80) (h1 : 1 ≤ H) (h24 : H ≤ 24) (hl : M.length = W * H) (hok : ∀ i, i < M.length → okc (M.getD i (0, 0)).1 (M.getD i (0, 0)).2 = true) : R W H (mend W M) := by
  have hW : 0 < W := by omega
  refine ⟨w2, w80, h1, h24, by rw [mend_len, hl], fun i hi => ?_, fun i hi => ?_⟩
  · rw [mend_len] at hi
    rw [mend_at _ _ _ hi]
    split
    · rfl
    · exact hok i hi
  · rw [mend_len] at hi
    by_cases hlo : lost W M i
    · unfold lost
      rw [mend_at _ _ _ hi, if_pos hlo]
      rintro (⟨c1, _⟩ | ⟨c1, _⟩) <;> cases c1
    · have hlo' := hlo
      unfold lost at hlo ⊢
      rw [mend_at _ _ _ hi, if_neg hlo']
      simp only [not_or, not_and, Classical.not_not] at hlo ⊢
      refine ⟨fun k1 => ?_, fun k2 => ?_⟩
      · obtain ⟨a1, a2⟩ := hlo.1 k1
        refine ⟨a1, ?_⟩
        have hi1 : i + 1 < M.length := by
          apply Classical.byContradiction
          intro h3
          rw [getD_ge (by omega)] at a2
          have := congrArg Prod.snd a2
          simp at this
        rw [mend_at _ _ _ hi1, if_neg, a2]
        unfold lost
        rw [a2]
        rintro (⟨c1, _⟩ | ⟨_, c2 | c2⟩)
        · cases c1
        · rw [mod_succ hW a1] at c2; omega
        · apply c2
          show M.getD i (0, 0) = _
          rw [← k1]
      · obtain ⟨a1, a2⟩ := hlo.2 k2
        refine ⟨a1, ?_⟩
        have hi0 : 0 < i := by rcases Nat.eq_zero_or_pos i with rfl | h1; simp at a1; exact h1
        rw [mend_at _ _ _ (by omega), if_neg, a2]
        unfold lost
        rw [a2]
        rintro (⟨_, c2 | c2⟩ | ⟨c1, _⟩)
        · have := mod_pred hW a1
          have := Nat.mod_lt i hW
          omega
        · apply c2
          rw [Nat.sub_add_cancel hi0]
          show M.getD i (0, 0) = _
          rw [← k2]
        · cases c1
end Gd
end Go.Proofs.YtgpebdoafblacaaDoor
/- Grids of other sides, in plain mathematics; what scrolls. -/
namespace Go.Proofs.YtgpebdoafblacaaDoor
namespace Gd
theorem div_mod {w x : Nat} (y : Nat) (h : x < w) : (y * w + x) / w = y ∧ (y * w + x) % w = x := by
  have hw : 0 < w := by omega
  refine ⟨?_, ?_⟩
  · rw [Nat.add_comm, Nat.add_mul_div_right _ _ hw, Nat.div_eq_of_lt h, Nat.zero_add]
  · rw [Nat.add_comm, Nat.add_mul_mod_self_right, Nat.mod_eq_of_lt h]
theorem parts {w h i : Nat} (hi : i < w * h) : ∃ y x, i = y * w + x ∧ y < h ∧ x < w := by
  have hw : 0 < w := by rcases Nat.eq_zero_or_pos w with rfl | h1; simp at hi; exact h1
  refine ⟨i / w, i % w, ?_, Nat.div_lt_of_lt_mul hi, Nat.mod_lt _ hw⟩
  rw [Nat.mul_comm]; exact (Nat.div_add_mod i w).symm
theorem in_lt {w h y x : Nat} (hy : y < h) (hx : x < w) : y * w + x < w * h := by
  have := Nat.mul_le_mul_right w (show y + 1 ≤ h by omega)
  rw [Nat.add_mul, Nat.mul_comm h w] at this
  omega
/-- A grid of other sides, ahead of mending. -/
def fitM (W H w h : Nat) (L : List (Int × Int)) : List (Int × Int) := (List.range (w * h)).map fun i => if i % w < W ∧ i / w < H then L.getD (i / w * W + i % w) (0, 0) else bl
theorem fitM_len (W H w h : Nat) (L : List (Int × Int)) : (fitM W H w h L).length = w * h := by simp [fitM]
theorem fitM_at (W H : Nat) {w h : Nat} (L : List (Int × Int)) {y x : Nat} (hy : y < h) (hx : x < w) : (fitM W H w h L).getD (y * w + x) (0, 0) = if x < W ∧ y < H then L.getD (y * W + x) (0, 0) else bl := by
  unfold fitM
  obtain ⟨d, m⟩ := div_mod y hx
  rw [map_getD, if_pos (in_lt hy hx), d, m]
theorem fit_lost {W H w h : Nat} {L : List (Int × Int)} (hR : R W H L) {y x : Nat} (hy : y < h) (hx : x < w) : lost w (fitM W H w h L) (y * w + x) ↔ x + 1 = w ∧ ((fitM W H w h L).getD (y * w + x) (0, 0)).2 = 1 := by
  have hF := fitM_at W H L hy hx
  obtain ⟨d, m⟩ := div_mod y hx
  by_cases hin : x < W ∧ y < H
  · rw [if_pos hin] at hF
    have hj : y * W + x < L.length := by rw [hR.len]; exact in_lt hin.2 hin.1
    obtain ⟨dW, mW⟩ := div_mod y hin.1
    unfold lost
    rw [hF, m]
    by_cases k1 : (L.getD (y * W + x) (0, 0)).2 = 1
    · obtain ⟨a1, a2, a3⟩ := hR.l1 hj k1
      rw [mW] at a1
      refine ⟨?_, fun h => .inl ⟨k1, .inl h.1⟩⟩
      rintro (⟨_, c | c⟩ | ⟨c, _⟩)
      · exact ⟨c, k1⟩
      · by_cases hw : x + 1 = w
        · exact ⟨hw, k1⟩
        · exfalso
          apply c
          rw [Nat.add_assoc, fitM_at W H L hy (show x + 1 < w by omega), if_pos ⟨by omega, hin.2⟩, ← Nat.add_assoc]
          exact a2
      · omega
    · refine ⟨?_, fun h => absurd h.2 k1⟩
      rintro (⟨c, _⟩ | ⟨c, c2⟩)
      · exact absurd c k1
      · obtain ⟨a1, a2, a3⟩ := hR.l2 hj c
        rw [mW] at a1
        rcases c2 with c2 | c2
        · exact absurd c2 a1
        · exfalso
          apply c2
          have e1 : y * w + x - 1 = y * w + (x - 1) := by omega
          have e2 : y * W + x - 1 = y * W + (x - 1) := by omega
          rw [e1, fitM_at W H L hy (show x - 1 < w by omega), if_pos ⟨by omega, hin.2⟩, ← e2]
          exact a2
  · rw [if_neg hin] at hF
    unfold lost
    rw [hF]
    constructor
    · rintro (⟨c, _⟩ | ⟨c, _⟩) <;> cases c
    · rintro ⟨_, c⟩; cases c
/-- A grid of other sides. -/
def fitL (W H w h : Nat) (L : List (Int × Int)) : List (Int × Int) := mend w (fitM W H w h L)
theorem fitL_len (W H w h : Nat) (L : List (Int × Int)) : (fitL W H w h L).length = w * h := by rw [fitL, mend_len, fitM_len]
theorem fitL_at {W H w h : Nat} {L : List (Int × Int)} (hR : R W H L) {y x : Nat} (hy : y < h) (hx : x < w) : (fitL W H w h L).getD (y * w + x) (0, 0) = if x + 1 = w ∧ ((fitM W H w h L).getD (y * w + x) (0, 0)).2 = 1 then bl else (fitM W H w h L).getD (y * w + x) (0, 0) := by
  unfold fitL
  rw [mend_at _ _ _ (by rw [fitM_len]; exact in_lt hy hx)]
  by_cases hl : lost w (fitM W H w h L) (y * w + x)
  · rw [if_pos hl, if_pos ((fit_lost hR hy hx).1 hl)]
  · rw [if_neg hl, if_neg (fun h => hl ((fit_lost hR hy hx).2 h))]
/-- The first k rows are laid, and mended. -/
def rowsK (W H w h : Nat) (L : List (Int × Int)) (k : Nat) : List (Int × Int) := (List.range (w * h)).map fun i => if i / w < k then (fitL W H w h L).getD i (0, 0) else bl
theorem rowsK_len (W H w h : Nat) (L : List (Int × Int)) (k : Nat) : (rowsK W H w h L k).length = w * h := by simp [rowsK]
theorem rowsK_at (W H : Nat) {w h : Nat} (L : List (Int × Int)) (k : Nat) {y x : Nat} (hy : y < h) (hx : x < w) : (rowsK W H w h L k).getD (y * w + x) (0, 0) = if y < k then (fitL W H w h L).getD (y * w + x) (0, 0) else bl := by
  unfold rowsK
  obtain ⟨d, m⟩ := div_mod y hx
  rw [map_getD, if_pos (in_lt hy hx), d]
theorem ext_parts {w h : Nat} {A B : List (Int × Int)} (hA : A.length = w * h) (hB : B.length = w * h) (hp : ∀ y x, y < h → x < w → A.getD (y * w + x) (0, 0) = B.getD (y * w + x) (0, 0)) : A = B := by
  apply ext_getD (hA.trans hB.symm)
  intro i hi
  rw [hA] at hi
  obtain ⟨y, x, rfl, hy, hx⟩ := parts hi
  exact hp y x hy hx
theorem rowsK_0 (W H w h : Nat) (L : List (Int × Int)) : rowsK W H w h L 0 = List.replicate (w * h) bl := by
  apply ext_parts (rowsK_len ..) (List.length_replicate ..)
  intro y x hy hx
  rw [rowsK_at W H L 0 hy hx, if_neg (by omega)]
  simp [List.getD, in_lt hy hx]
theorem rowsK_end {W H w h : Nat} {L : List (Int × Int)} (hR : R W H L) {k : Nat} (hk : k = min h H) : rowsK W H w h L k = fitL W H w h L := by
  apply ext_parts (rowsK_len ..) (fitL_len ..)
  intro y x hy hx
  rw [rowsK_at W H L k hy hx]
  by_cases h1 : y < k
  · rw [if_pos h1]
  · rw [if_neg h1, fitL_at hR hy hx, fitM_at W H L hy hx, if_neg (show ¬ (x < W ∧ y < H) by omega), if_neg]
    rintro ⟨_, c⟩; cases c
/-- Behind the copy of one row more. -/
def rowsX (W H w h : Nat) (L : List (Int × Int)) (k : Nat) : List (Int × Int) := Go.splice (rowsK W H w h L k) (k * w) ((L.drop (k * W)).take (min w W))
theorem seg_len {W H w k : Nat} {L : List (Int × Int)} (hl : L.length = W * H) (hk : k < H) : ((L.drop (k * W)).take (min w W)).length = min w W := by
  rw [List.length_take, List.length_drop, hl]
  have := Nat.mul_le_mul_right W (show k + 1 ≤ H by omega)
  rw [Nat.add_mul, Nat.mul_comm H W] at this
  omega
theorem rowsX_fits {W H w h k : Nat} {L : List (Int × Int)} (hl : L.length = W * H) (hk : k < H) (hh : k < h) : k * w + ((L.drop (k * W)).take (min w W)).length ≤ (rowsK W H w h L k).length := by
  rw [rowsK_len, seg_len hl hk]
  have := Nat.mul_le_mul_right w (show k + 1 ≤ h by omega)
  rw [Nat.add_mul, Nat.mul_comm h w] at this
  omega
theorem rowsX_len {W H w h k : Nat} {L : List (Int × Int)} (hl : L.length = W * H) (hk : k < H) (hh : k < h) : (rowsX W H w h L k).length = w * h := by
  unfold rowsX
  rw [splice_len _ _ _ (rowsX_fits hl hk hh), rowsK_len]
theorem rowsX_at {W H w h k : Nat} {L : List (Int × Int)} (hl : L.length = W * H) (hk : k < H) (hh : k < h) {y x : Nat} (hy : y < h) (hx : x < w) :
    (rowsX W H w h L k).getD (y * w + x) (0, 0) = if y = k then (fitM W H w h L).getD (y * w + x) (0, 0) else (rowsK W H w h L k).getD (y * w + x) (0, 0) := by
  unfold rowsX
  rw [splice_getD _ _ _ _ (rowsX_fits hl hk hh), seg_len hl hk]
  by_cases e : y = k
  · subst e
    rw [if_pos rfl, fitM_at W H L hy hx]
    by_cases h2 : x < W
    · rw [if_pos (by omega), if_pos ⟨h2, hk⟩]
      simp only [List.getD, List.getElem?_take, List.getElem?_drop]
      rw [if_pos (by omega)]
      congr 2
      omega
    · rw [if_neg (by omega), if_neg (by omega), rowsK_at W H L _ hy hx, if_neg (by omega)]
  · rw [if_neg e, if_neg]
    rintro ⟨c1, c2⟩
    have hw : 0 < w := by omega
    rcases Nat.lt_or_gt_of_ne e with h3 | h3
    · have := Nat.mul_le_mul_right w (show y + 1 ≤ k by omega)
      rw [Nat.add_mul] at this
      omega
    · have := Nat.mul_le_mul_right w (show k + 1 ≤ y by omega)
      rw [Nat.add_mul] at this
      omega
theorem rowsK_succ {W H w h k : Nat} {L : List (Int × Int)} (hR : R W H L) (hw : 0 < w) (hk : k < H) (hh : k < h) :
    rowsK W H w h L (k + 1) = if ((rowsX W H w h L k).getD (k * w + (w - 1)) (0, 0)).2 = 1 then (rowsX W H w h L k).set (k * w + (w - 1)) bl else rowsX W H w h L k := by
  have hlx := rowsX_len (w := w) hR.len hk hh
  apply ext_parts (rowsK_len ..) (by split <;> (try rw [List.length_set]) <;> exact hlx)
  intro y x hy hx
  rw [rowsK_at W H L _ hy hx]
  have hlast := rowsX_at (w := w) hR.len hk hh hh (show w - 1 < w by omega)
  rw [if_pos rfl] at hlast
  have hat := rowsX_at (w := w) hR.len hk hh hy hx
  have hinj : y * w + x = k * w + (w - 1) ↔ y = k ∧ x = w - 1 := by
    constructor
    · intro e
      obtain ⟨d1, m1⟩ := div_mod y hx
      obtain ⟨d2, m2⟩ := div_mod k (show w - 1 < w by omega)
      rw [e] at d1 m1
      exact ⟨d1.symm.trans d2, m1.symm.trans m2⟩
    · rintro ⟨rfl, rfl⟩; rfl
  by_cases e : y = k
  · subst e
    rw [if_pos rfl] at hat
    rw [if_pos (by omega), fitL_at hR hy hx, hlast]
    by_cases hx1 : x = w - 1
    · subst hx1
      by_cases hc : ((fitM W H w h L).getD (y * w + (w - 1)) (0, 0)).2 = 1
      · rw [if_pos ⟨by omega, hc⟩, if_pos hc, set_getD _ _ _ _ (by rw [hlx]; exact in_lt hy hx), if_pos rfl]
      · rw [if_neg (fun h => hc h.2), if_neg hc, hat]
    · rw [if_neg (by omega)]
      split
      · rw [set_getD _ _ _ _ (by rw [hlx]; exact in_lt hy (by omega)), if_neg (fun h => hx1 (hinj.1 h).2), hat]
      · rw [hat]
  · rw [if_neg e, rowsK_at W H L _ hy hx] at hat
    have hne : ¬ y * w + x = k * w + (w - 1) := fun h => e (hinj.1 h).1
    have e2 : (if y < k + 1 then (fitL W H w h L).getD (y * w + x) (0, 0) else bl) = if y < k then (fitL W H w h L).getD (y * w + x) (0, 0) else bl := by
      by_cases h3 : y < k
      · rw [if_pos h3, if_pos (by omega)]
      · rw [if_neg h3, if_neg (by omega)]
    rw [e2, ← hat]
    split
    · rw [set_getD _ _ _ _ (by rw [hlx]; exact in_lt hh (by omega)), if_neg hne]
    · rfl
/-- Rows ahead of y are laid, and x cells of it: ahead of mending. -/
def cellsK (W H w h : Nat) (L : List (Int × Int)) (y x : Nat) : List (Int × Int) := (List.range (w * h)).map fun i => if i / w < y ∨ i / w = y ∧ i % w < x then (fitM W H w h L).getD i (0, 0) else bl
theorem cellsK_len (W H w h : Nat) (L : List (Int × Int)) (y x : Nat) : (cellsK W H w h L y x).length = w * h := by simp [cellsK]
theorem cellsK_at (W H : Nat) {w h : Nat} (L : List (Int × Int)) (k j : Nat) {y x : Nat} (hy : y < h) (hx : x < w) : (cellsK W H w h L k j).getD (y * w + x) (0, 0) = if y < k ∨ y = k ∧ x < j then (fitM W H w h L).getD (y * w + x) (0, 0) else bl := by
  unfold cellsK
  obtain ⟨d, m⟩ := div_mod y hx
  rw [map_getD, if_pos (in_lt hy hx), d, m]
theorem cellsK_0 (W H w h : Nat) (L : List (Int × Int)) : cellsK W H w h L 0 0 = List.replicate (w * h) bl := by
  apply ext_parts (cellsK_len ..) (List.length_replicate ..)
  intro y x hy hx
  rw [cellsK_at W H L 0 0 hy hx, if_neg (by omega)]
  simp [List.getD, in_lt hy hx]
theorem cellsK_next {W H w h : Nat} {L : List (Int × Int)} {k j : Nat} (hk : k < h) (hkH : k < H) (hj : j < w) (hjW : j < W) : cellsK W H w h L k (j + 1) = (cellsK W H w h L k j).set (k * w + j) (L.getD (k * W + j) (0, 0)) := by
  apply ext_parts (cellsK_len ..) (by rw [List.length_set, cellsK_len])
  intro y x hy hx
  rw [cellsK_at W H L _ _ hy hx, set_getD _ _ _ _ (by rw [cellsK_len]; exact in_lt hk hj), cellsK_at W H L _ _ hy hx]
  have hinj : y * w + x = k * w + j ↔ y = k ∧ x = j := by
    constructor
    · intro e
      obtain ⟨d1, m1⟩ := div_mod y hx
      obtain ⟨d2, m2⟩ := div_mod k hj
      rw [e] at d1 m1
      exact ⟨d1.symm.trans d2, m1.symm.trans m2⟩
    · rintro ⟨rfl, rfl⟩; rfl
  by_cases e : y = k ∧ x = j
  · obtain ⟨rfl, rfl⟩ := e
    rw [if_pos (by omega), if_pos rfl, fitM_at W H L hy hx, if_pos ⟨hjW, hkH⟩]
  · rw [if_neg (fun h => e (hinj.1 h))]
    by_cases h2 : y < k ∨ y = k ∧ x < j
    · rw [if_pos h2, if_pos (by omega)]
    · rw [if_neg h2, if_neg (by omega)]
theorem cellsK_row {W H w h : Nat} {L : List (Int × Int)} {k j : Nat} (hj : j = min w W) : cellsK W H w h L k j = cellsK W H w h L (k + 1) 0 := by
  apply ext_parts (cellsK_len ..) (cellsK_len ..)
  intro y x hy hx
  rw [cellsK_at W H L _ _ hy hx, cellsK_at W H L _ _ hy hx]
  by_cases h1 : y < k ∨ y = k ∧ x < j
  · rw [if_pos h1, if_pos (by omega)]
  · rw [if_neg h1]
    by_cases h2 : y < k + 1 ∨ y = k + 1 ∧ x < 0
    · rw [if_pos h2, fitM_at W H L hy hx, if_neg (by omega)]
    · rw [if_neg h2]
theorem cellsK_end {W H w h : Nat} {L : List (Int × Int)} {k : Nat} (hk : k = min h H) : cellsK W H w h L k 0 = fitM W H w h L := by
  apply ext_parts (cellsK_len ..) (fitM_len ..)
  intro y x hy hx
  rw [cellsK_at W H L _ _ hy hx]
  by_cases h1 : y < k ∨ y = k ∧ x < 0
  · rw [if_pos h1]
  · rw [if_neg h1, fitM_at W H L hy hx, if_neg (by omega)]
end Gd
end Go.Proofs.YtgpebdoafblacaaDoor
/- The calls of a grid in plain mathematics: where each may be, what comes of it, and that it is right. -/
set_option linter.unusedVariables false
namespace Go.Proofs.YtgpebdoafblacaaDoor
open Gl L Wd Gd
namespace Gd
def sidesB (gw gh : Int) : Bool := decide (2 ≤ gw ∧ gw ≤ 80 ∧ 1 ≤ gh ∧ gh ≤ 24)
theorem not_right_sides {gw gh : Int} {L : List (Int × Int)} (h : sidesB gw gh = false) : ¬ right gw gh L := by
  unfold sidesB at h
  rw [decide_eq_false_iff_not] at h
  exact fun h2 => h h2.1
theorem sides_of {gw gh : Int} (h : sidesB gw gh = true) : ∃ W H : Nat, gw = W ∧ gh = H ∧ 2 ≤ W ∧ W ≤ 80 ∧ 1 ≤ H ∧ H ≤ 24 := by
  unfold sidesB at h
  rw [decide_eq_true_iff] at h
  exact ⟨gw.toNat, gh.toNat, by omega, by omega, by omega, by omega, by omega, by omega⟩
def place (gw gh : Int) (L : List (Int × Int)) (x y : Int) : Prop := right gw gh L ∧ (0 ≤ x ∧ x < gw ∧ 0 ≤ y ∧ y < gh)
instance (gw gh : Int) (L : List (Int × Int)) (x y : Int) : Decidable (place gw gh L x y) := by unfold place; infer_instance
theorem place_nat {gw gh : Int} {L : List (Int × Int)} {x y : Int} (h : place gw gh L x y) : ∃ W H X Y : Nat, gw = W ∧ gh = H ∧ x = X ∧ y = Y ∧ R W H L ∧ X < W ∧ Y < H ∧ Y * W + X < L.length ∧ Y * W + W ≤ L.length := by
  obtain ⟨hr, h1, h2, h3, h4⟩ := h
  obtain ⟨W, H, rfl, rfl, r⟩ := right_R hr
  refine ⟨W, H, x.toNat, y.toNat, rfl, rfl, by omega, by omega, r, by omega, by omega, ?_, ?_⟩
  all_goals
    rw [r.len]
    have hY : y.toNat + 1 ≤ H := by omega
    have := Nat.mul_le_mul_right W hY
    rw [Nat.mul_comm W H]
    rw [Nat.add_mul] at this
    omega
/-- A grid and an error are told: a new grid of these sides and cells, or none. -/
def newL (gw gh : Int) : List (Int × Int) := List.replicate (gw.toNat * gh.toNat) bl
/-- May a sign be put there? -/
def putB (gw gh : Int) (L : List (Int × Int)) (x y r : Int) : Bool := decide (place gw gh L x y) && shw r && !(wid r && decide (x = gw - 1))
/-- The cells behind a put, where it may be. -/
def putL (gw : Int) (L : List (Int × Int)) (x y r : Int) : List (Int × Int) := mend gw.toNat (Go.splice L (y.toNat * gw.toNat + x.toNat) (cl r))
theorem cl_shw_len {r : Int} (h : shw r = true) : (cl r).length = if wid r then 2 else 1 := by
  cases h2 : wid r
  · rw [cl_one h h2]; rfl
  · rw [cl_wide h h2]; rfl
theorem cl_self {W fr : Nat} {r : Int} (h : shw r = true) (hW : fr % W + (cl r).length ≤ W) (hW0 : 0 < W) : Self W fr (cl r) := by
  cases h2 : wid r
  · rw [cl_one h h2] at hW ⊢
    intro j hj
    have : j = 0 := by simp at hj; omega
    subst this
    exact ⟨(by intro h; simp at h), (by intro h; simp at h)⟩
  · rw [cl_wide h h2] at hW ⊢
    simp only [List.length_cons, List.length_nil] at hW
    intro j hj
    rcases (show j = 0 ∨ j = 1 by simp at hj; omega) with rfl | rfl
    · exact ⟨fun _ => ⟨by simp, rfl, by show fr % W + 1 ≠ W; omega⟩, (by intro h; simp at h)⟩
    · refine ⟨(by intro h; simp at h), fun _ => ⟨by omega, rfl, ?_⟩⟩
      rw [mod_succ hW0 (by omega)]
      omega
theorem put_fits {r : Int} {W X : Nat} (h : shw r = true) (hX : X < W) : (((X : Int) + ((cl r).length : Int) ≤ (W : Int)) ↔ (wid r && decide ((X : Int) = (W : Int) - 1)) = false) := by
  rw [cl_shw_len h]
  cases h2 : wid r
  · simp; omega
  · simp; omega
def blankB (gw gh : Int) (L : List (Int × Int)) (fr to : Int) : Bool := decide (right gw gh L) && decide (0 ≤ fr ∧ fr ≤ to ∧ to ≤ (L.length : Int))
def blankL (gw : Int) (L : List (Int × Int)) (fr to : Int) : List (Int × Int) := mend gw.toNat (Go.splice L fr.toNat (List.replicate (to - fr).toNat bl))
theorem rep_self (W fr n : Nat) : Self W fr (List.replicate n bl) := by
  intro j hj
  rw [List.length_replicate] at hj
  have e : (List.replicate n bl).getD j (0, 0) = bl := by simp [List.getD, hj]
  rw [e]
  exact ⟨(by intro h; cases h), (by intro h; cases h)⟩
/-- The cells of a right grid, scrolled. -/
def scrollL (W : Nat) (L : List (Int × Int)) : List (Int × Int) := Go.splice (List.replicate L.length bl) 0 (L.drop W)
theorem scrollL_len (W : Nat) (L : List (Int × Int)) : (scrollL W L).length = L.length := by
  unfold scrollL; rw [splice_len _ _ _ (by simp)]; simp
theorem scrollL_at (W : Nat) (L : List (Int × Int)) {i : Nat} (hi : i < L.length) : (scrollL W L).getD i (0, 0) = if i + W < L.length then L.getD (i + W) (0, 0) else bl := by
  unfold scrollL
  rw [splice_getD _ _ _ _ (by simp), List.length_drop]
  by_cases h : i + W < L.length
  · rw [if_pos (by omega), if_pos h]
    simp only [List.getD, List.getElem?_drop]
    congr 2; omega
  · rw [if_neg (by omega), if_neg h]
    simp [List.getD, hi]
def fitB (gw gh : Int) (L : List (Int × Int)) (fw fh : Int) : Bool := decide (right gw gh L) && sidesB fw fh
def fitE (gw gh : Int) (L : List (Int × Int)) : Int := if right gw gh L then 4 else 1
/-- The cells of a row that go over. -/
def seg (W w k : Nat) (L : List (Int × Int)) : List (Int × Int) := (L.drop (k * W)).take (min w W)
def fitV (gw gh : Int) (L : List (Int × Int)) (fw fh : Int) : List (Int × Int) := fitL gw.toNat gh.toNat fw.toNat fh.toNat L
theorem right_len {gw gh : Int} {L : List (Int × Int)} (h : right gw gh L) : L.length ≤ 1920 := by
  obtain ⟨W, H, _, _, r⟩ := right_R h
  rw [r.len]; exact Nat.mul_le_mul r.w80 r.h24
theorem putB_place {gw gh : Int} {L : List (Int × Int)} {x y r : Int} (h : putB gw gh L x y r = true) : place gw gh L x y ∧ shw r = true ∧ (wid r && decide (x = gw - 1)) = false := by
  unfold putB at h
  simp only [Bool.and_eq_true, decide_eq_true_eq, Bool.not_eq_true'] at h
  exact ⟨h.1.1, h.1.2, h.2⟩
/-- What is told of a put that may be. -/
theorem putB_nat {gw gh : Int} {L : List (Int × Int)} {x y r : Int} (h : putB gw gh L x y r = true) : ∃ W H X Y : Nat, gw = W ∧ gh = H ∧ x = X ∧ y = Y ∧ R W H L ∧ X < W ∧ Y < H ∧ shw r = true ∧ X + (cl r).length ≤ W ∧ Y * W + W ≤ L.length := by
  obtain ⟨hp, hs, hw⟩ := putB_place h
  obtain ⟨W, H, X, Y, rfl, rfl, rfl, rfl, hR, hX, hY, _, h2⟩ := place_nat hp
  have := (put_fits (r := r) (X := X) (W := W) hs hX).2 hw
  exact ⟨W, H, X, Y, rfl, rfl, rfl, rfl, hR, hX, hY, hs, by omega, h2⟩
theorem putL_len {gw gh : Int} {L : List (Int × Int)} {x y r : Int} (h : putB gw gh L x y r = true) : (putL gw L x y r).length = L.length := by
  obtain ⟨W, H, X, Y, rfl, rfl, rfl, rfl, _, _, _, _, h1, h2⟩ := putB_nat h
  unfold putL
  simp only [Int.toNat_natCast]
  rw [mend_len, splice_len _ _ _ (by omega)]
theorem blankL_len {gw gh : Int} {L : List (Int × Int)} {fr to : Int} (h : blankB gw gh L fr to = true) : (blankL gw L fr to).length = L.length := by
  unfold blankB at h
  simp only [Bool.and_eq_true, decide_eq_true_eq] at h
  unfold blankL
  rw [mend_len, splice_len _ _ _ (by rw [List.length_replicate]; omega)]
theorem fitV_len {gw gh : Int} {L : List (Int × Int)} {fw fh : Int} (h : fitB gw gh L fw fh = true) : (fitV gw gh L fw fh).length ≤ 1920 := by
  unfold fitB at h
  simp only [Bool.and_eq_true, decide_eq_true_eq] at h
  obtain ⟨w', h', rfl, rfl, g2, g80, g1, g24⟩ := sides_of h.2
  unfold fitV
  rw [fitL_len]
  exact Nat.mul_le_mul g80 g24
theorem splice_ok {L : List (Int × Int)} {fr : Nat} {c : List (Int × Int)} (hf : fr + c.length ≤ L.length) (h1 : ∀ i, i < L.length → Wd.ok (L.getD i (0, 0)).1 (L.getD i (0, 0)).2 = true) (h2 : ∀ i, i < c.length → Wd.ok (c.getD i (0, 0)).1 (c.getD i (0, 0)).2 = true) : ∀ i, i < (Go.splice L fr c).length → Wd.ok ((Go.splice L fr c).getD i (0, 0)).1 ((Go.splice L fr c).getD i (0, 0)).2 = true := by
  intro i hi
  rw [splice_len _ _ _ hf] at hi
  rw [splice_getD _ _ _ _ hf]
  split
  · exact h2 _ (by omega)
  · exact h1 _ hi
theorem cl_ok {r : Int} (h : shw r = true) : ∀ i, i < (cl r).length → Wd.ok ((cl r).getD i (0, 0)).1 ((cl r).getD i (0, 0)).2 = true := by
  cases h2 : wid r
  · rw [cl_one h h2]
    intro i hi
    have : i = 0 := by simp at hi; omega
    subst this
    simp [Wd.ok, h, h2]
  · rw [cl_wide h h2]
    intro i hi
    rcases (show i = 0 ∨ i = 1 by simp at hi; omega) with rfl | rfl <;> simp [Wd.ok, h, h2]
theorem bl_ok : Wd.ok bl.1 bl.2 = true := by decide +kernel
theorem putL_right {gw gh : Int} {L : List (Int × Int)} {x y r : Int} (h : putB gw gh L x y r = true) : right gw gh (putL gw L x y r) := by
  obtain ⟨W, H, X, Y, rfl, rfl, rfl, rfl, hR, hX, hY, hs, h1, h2⟩ := putB_nat h
  unfold putL
  simp only [Int.toNat_natCast]
  have hf : Y * W + X + (cl r).length ≤ L.length := by omega
  exact R_right (mend_R hR.w2 hR.w80 hR.h1 hR.h24 (by rw [splice_len _ _ _ hf]; exact hR.len) (splice_ok hf hR.ok (cl_ok hs)))
theorem blankL_right {gw gh : Int} {L : List (Int × Int)} {fr to : Int} (h : blankB gw gh L fr to = true) : right gw gh (blankL gw L fr to) := by
  unfold blankB at h
  simp only [Bool.and_eq_true, decide_eq_true_eq] at h
  obtain ⟨W, H, rfl, rfl, hR⟩ := right_R h.1
  unfold blankL
  simp only [Int.toNat_natCast]
  have hf : fr.toNat + (List.replicate (to - fr).toNat bl).length ≤ L.length := by rw [List.length_replicate]; omega
  refine R_right (mend_R hR.w2 hR.w80 hR.h1 hR.h24 (by rw [splice_len _ _ _ hf]; exact hR.len) (splice_ok hf hR.ok fun i hi => ?_))
  rw [List.length_replicate] at hi
  have e : (List.replicate (to - fr).toNat bl).getD i (0, 0) = bl := by simp [List.getD, hi]
  rw [e]; exact bl_ok
theorem fitV_right {gw gh : Int} {L : List (Int × Int)} {fw fh : Int} (h : fitB gw gh L fw fh = true) : right fw fh (fitV gw gh L fw fh) := by
  unfold fitB at h
  simp only [Bool.and_eq_true, decide_eq_true_eq] at h
  obtain ⟨W, H, rfl, rfl, hR⟩ := right_R h.1
  obtain ⟨w', h', rfl, rfl, g2, g80, g1, g24⟩ := sides_of h.2
  unfold fitV fitL
  simp only [Int.toNat_natCast]
  refine R_right (mend_R g2 g80 g1 g24 (fitM_len ..) fun i hi => ?_)
  rw [fitM_len] at hi
  obtain ⟨q, p, rfl, hq, hp⟩ := parts hi
  rw [fitM_at W H L hq hp]
  split
  · rename_i hin
    exact hR.ok _ (by rw [hR.len]; exact in_lt hin.2 hin.1)
  · exact bl_ok
theorem newL_right {gw gh : Int} (h : sidesB gw gh = true) : right gw gh (newL gw gh) := by
  obtain ⟨w', h', rfl, rfl, g2, g80, g1, g24⟩ := sides_of h
  unfold newL
  simp only [Int.toNat_natCast]
  have e : ∀ i, i < w' * h' → (List.replicate (w' * h') bl).getD i (0, 0) = bl := fun i hi => by simp [List.getD, hi]
  refine R_right ⟨g2, g80, g1, g24, List.length_replicate .., fun i hi => ?_, fun i hi => ?_⟩
  · rw [List.length_replicate] at hi
    rw [e i hi]; exact bl_ok
  · rw [List.length_replicate] at hi
    unfold lost
    rw [e i hi]
    rintro (⟨c, _⟩ | ⟨c, _⟩) <;> cases c
theorem scrollL_right {gw gh : Int} {L : List (Int × Int)} (h : right gw gh L) : right gw gh (scrollL gw.toNat L) := by
  obtain ⟨W, H, rfl, rfl, hR⟩ := right_R h
  rw [Int.toNat_natCast]
  have hW2 := hR.w2
  refine R_right ⟨hR.w2, hR.w80, hR.h1, hR.h24, by rw [scrollL_len]; exact hR.len, fun i hi => ?_, fun i hi => ?_⟩
  · rw [scrollL_len] at hi
    rw [scrollL_at W L hi]
    split
    · rename_i h2; exact hR.ok _ h2
    · exact bl_ok
  · rw [scrollL_len] at hi
    unfold lost
    rw [scrollL_at W L hi]
    by_cases h2 : i + W < L.length
    · rw [if_pos h2]
      have hmod : (i + W) % W = i % W := Nat.add_mod_right i W
      rintro (⟨c, d⟩ | ⟨c, d⟩)
      · obtain ⟨a1, a2, a3⟩ := hR.l1 h2 c
        rw [hmod] at a1
        rcases d with d | d
        · exact a1 d
        · apply d
          rw [scrollL_at W L (by omega), if_pos (by omega), ← a2]
          congr 1; omega
      · obtain ⟨a1, a2, a3⟩ := hR.l2 h2 c
        rw [hmod] at a1
        rcases d with d | d
        · exact a1 d
        · have hi0 : 0 < i := by rcases Nat.eq_zero_or_pos i with rfl | h0; simp at a1; exact h0
          apply d
          rw [scrollL_at W L (by omega), if_pos (by omega), ← a2]
          congr 1; omega
    · rw [if_neg h2]
      rintro (⟨c, _⟩ | ⟨c, _⟩) <;> cases c
end Gd
end Go.Proofs.YtgpebdoafblacaaDoor
