/- Grids of other sides, in plain mathematics; what scrolls. -/
import Derived.Test.YtakokmacfdfjhaaDoorGdP
namespace Go.Proofs.YtakokmacfdfjhaaDoor
namespace Gd
theorem div_mod {w x : Nat} (y : Nat) (h : x < w) : (y * w + x) / w = y ∧ (y * w + x) % w = x := by
  have hw : 0 < w := by omega
  refine ⟨?_, ?_⟩
  · rw [Nat.add_comm, Nat.add_mul_div_right _ _ hw, Nat.div_eq_of_lt h, Nat.zero_add]
  · rw [Nat.add_comm, Nat.add_mul_mod_self_right, Nat.mod_eq_of_lt h]
theorem parts {w h i : Nat} (hi : i < w * h) : ∃ y x, i = y * w + x ∧ y < h ∧ x < w := by
  have hw : 0 < w := by rcases Nat.eq_zero_or_pos w with rfl | h1; simp at hi; exact h1
  refine ⟨i / w, i % w, ?_, Nat.div_lt_of_lt_mul hi, Nat.mod_lt _ hw⟩
  rw [Nat.mul_comm]; exact (Nat.div_add_mod i w).symm
theorem in_lt {w h y x : Nat} (hy : y < h) (hx : x < w) : y * w + x < w * h := by
  have := Nat.mul_le_mul_right w (show y + 1 ≤ h by omega)
  rw [Nat.add_mul, Nat.mul_comm h w] at this
  omega
/-- A grid of other sides, ahead of mending. -/
def fitM (W H w h : Nat) (L : List (Int × Int)) : List (Int × Int) := (List.range (w * h)).map fun i => if i % w < W ∧ i / w < H then L.getD (i / w * W + i % w) (0, 0) else bl
theorem fitM_len (W H w h : Nat) (L : List (Int × Int)) : (fitM W H w h L).length = w * h := by simp [fitM]
theorem fitM_at (W H : Nat) {w h : Nat} (L : List (Int × Int)) {y x : Nat} (hy : y < h) (hx : x < w) : (fitM W H w h L).getD (y * w + x) (0, 0) = if x < W ∧ y < H then L.getD (y * W + x) (0, 0) else bl := by
  unfold fitM
  obtain ⟨d, m⟩ := div_mod y hx
  rw [map_getD, if_pos (in_lt hy hx), d, m]
theorem fit_lost {W H w h : Nat} {L : List (Int × Int)} (hR : R W H L) {y x : Nat} (hy : y < h) (hx : x < w) : lost w (fitM W H w h L) (y * w + x) ↔ x + 1 = w ∧ ((fitM W H w h L).getD (y * w + x) (0, 0)).2 = 1 := by
  have hF := fitM_at W H L hy hx
  obtain ⟨d, m⟩ := div_mod y hx
  by_cases hin : x < W ∧ y < H
  · rw [if_pos hin] at hF
    have hj : y * W + x < L.length := by rw [hR.len]; exact in_lt hin.2 hin.1
    obtain ⟨dW, mW⟩ := div_mod y hin.1
    unfold lost
    rw [hF, m]
    by_cases k1 : (L.getD (y * W + x) (0, 0)).2 = 1
    · obtain ⟨a1, a2, a3⟩ := hR.l1 hj k1
      rw [mW] at a1
      refine ⟨?_, fun h => .inl ⟨k1, .inl h.1⟩⟩
      rintro (⟨_, c | c⟩ | ⟨c, _⟩)
      · exact ⟨c, k1⟩
      · by_cases hw : x + 1 = w
        · exact ⟨hw, k1⟩
        · exfalso
          apply c
          rw [Nat.add_assoc, fitM_at W H L hy (show x + 1 < w by omega), if_pos ⟨by omega, hin.2⟩, ← Nat.add_assoc]
          exact a2
      · omega
    · refine ⟨?_, fun h => absurd h.2 k1⟩
      rintro (⟨c, _⟩ | ⟨c, c2⟩)
      · exact absurd c k1
      · obtain ⟨a1, a2, a3⟩ := hR.l2 hj c
        rw [mW] at a1
        rcases c2 with c2 | c2
        · exact absurd c2 a1
        · exfalso
          apply c2
          have e1 : y * w + x - 1 = y * w + (x - 1) := by omega
          have e2 : y * W + x - 1 = y * W + (x - 1) := by omega
          rw [e1, fitM_at W H L hy (show x - 1 < w by omega), if_pos ⟨by omega, hin.2⟩, ← e2]
          exact a2
  · rw [if_neg hin] at hF
    unfold lost
    rw [hF]
    constructor
    · rintro (⟨c, _⟩ | ⟨c, _⟩) <;> cases c
    · rintro ⟨_, c⟩; cases c
/-- A grid of other sides. -/
def fitL (W H w h : Nat) (L : List (Int × Int)) : List (Int × Int) := mend w (fitM W H w h L)
theorem fitL_len (W H w h : Nat) (L : List (Int × Int)) : (fitL W H w h L).length = w * h := by rw [fitL, mend_len, fitM_len]
theorem fitL_at {W H w h : Nat} {L : List (Int × Int)} (hR : R W H L) {y x : Nat} (hy : y < h) (hx : x < w) : (fitL W H w h L).getD (y * w + x) (0, 0) = if x + 1 = w ∧ ((fitM W H w h L).getD (y * w + x) (0, 0)).2 = 1 then bl else (fitM W H w h L).getD (y * w + x) (0, 0) := by
  unfold fitL
  rw [mend_at _ _ _ (by rw [fitM_len]; exact in_lt hy hx)]
  by_cases hl : lost w (fitM W H w h L) (y * w + x)
  · rw [if_pos hl, if_pos ((fit_lost hR hy hx).1 hl)]
  · rw [if_neg hl, if_neg (fun h => hl ((fit_lost hR hy hx).2 h))]
/-- The first k rows are laid, and mended. -/
def rowsK (W H w h : Nat) (L : List (Int × Int)) (k : Nat) : List (Int × Int) := (List.range (w * h)).map fun i => if i / w < k then (fitL W H w h L).getD i (0, 0) else bl
theorem rowsK_len (W H w h : Nat) (L : List (Int × Int)) (k : Nat) : (rowsK W H w h L k).length = w * h := by simp [rowsK]
theorem rowsK_at (W H : Nat) {w h : Nat} (L : List (Int × Int)) (k : Nat) {y x : Nat} (hy : y < h) (hx : x < w) : (rowsK W H w h L k).getD (y * w + x) (0, 0) = if y < k then (fitL W H w h L).getD (y * w + x) (0, 0) else bl := by
  unfold rowsK
  obtain ⟨d, m⟩ := div_mod y hx
  rw [map_getD, if_pos (in_lt hy hx), d]
theorem ext_parts {w h : Nat} {A B : List (Int × Int)} (hA : A.length = w * h) (hB : B.length = w * h) (hp : ∀ y x, y < h → x < w → A.getD (y * w + x) (0, 0) = B.getD (y * w + x) (0, 0)) : A = B := by
  apply ext_getD (hA.trans hB.symm)
  intro i hi
  rw [hA] at hi
  obtain ⟨y, x, rfl, hy, hx⟩ := parts hi
  exact hp y x hy hx
theorem rowsK_0 (W H w h : Nat) (L : List (Int × Int)) : rowsK W H w h L 0 = List.replicate (w * h) bl := by
  apply ext_parts (rowsK_len ..) (List.length_replicate ..)
  intro y x hy hx
  rw [rowsK_at W H L 0 hy hx, if_neg (by omega)]
  simp [List.getD, in_lt hy hx]
theorem rowsK_end {W H w h : Nat} {L : List (Int × Int)} (hR : R W H L) {k : Nat} (hk : k = min h H) : rowsK W H w h L k = fitL W H w h L := by
  apply ext_parts (rowsK_len ..) (fitL_len ..)
  intro y x hy hx
  rw [rowsK_at W H L k hy hx]
  by_cases h1 : y < k
  · rw [if_pos h1]
  · rw [if_neg h1, fitL_at hR hy hx, fitM_at W H L hy hx, if_neg (show ¬ (x < W ∧ y < H) by omega), if_neg]
    rintro ⟨_, c⟩; cases c
/-- Behind the copy of one row more. -/
def rowsX (W H w h : Nat) (L : List (Int × Int)) (k : Nat) : List (Int × Int) := Go.splice (rowsK W H w h L k) (k * w) ((L.drop (k * W)).take (min w W))
theorem seg_len {W H w k : Nat} {L : List (Int × Int)} (hl : L.length = W * H) (hk : k < H) : ((L.drop (k * W)).take (min w W)).length = min w W := by
  rw [List.length_take, List.length_drop, hl]
  have := Nat.mul_le_mul_right W (show k + 1 ≤ H by omega)
  rw [Nat.add_mul, Nat.mul_comm H W] at this
  omega
theorem rowsX_fits {W H w h k : Nat} {L : List (Int × Int)} (hl : L.length = W * H) (hk : k < H) (hh : k < h) : k * w + ((L.drop (k * W)).take (min w W)).length ≤ (rowsK W H w h L k).length := by
  rw [rowsK_len, seg_len hl hk]
  have := Nat.mul_le_mul_right w (show k + 1 ≤ h by omega)
  rw [Nat.add_mul, Nat.mul_comm h w] at this
  omega
theorem rowsX_len {W H w h k : Nat} {L : List (Int × Int)} (hl : L.length = W * H) (hk : k < H) (hh : k < h) : (rowsX W H w h L k).length = w * h := by
  unfold rowsX
  rw [splice_len _ _ _ (rowsX_fits hl hk hh), rowsK_len]
theorem rowsX_at {W H w h k : Nat} {L : List (Int × Int)} (hl : L.length = W * H) (hk : k < H) (hh : k < h) {y x : Nat} (hy : y < h) (hx : x < w) :
    (rowsX W H w h L k).getD (y * w + x) (0, 0) = if y = k then (fitM W H w h L).getD (y * w + x) (0, 0) else (rowsK W H w h L k).getD (y * w + x) (0, 0) := by
  unfold rowsX
  rw [splice_getD _ _ _ _ (rowsX_fits hl hk hh), seg_len hl hk]
  by_cases e : y = k
  · subst e
    rw [if_pos rfl, fitM_at W H L hy hx]
    by_cases h2 : x < W
    · rw [if_pos (by omega), if_pos ⟨h2, hk⟩]
      simp only [List.getD, List.getElem?_take, List.getElem?_drop]
      rw [if_pos (by omega)]
      congr 2
      omega
    · rw [if_neg (by omega), if_neg (by omega), rowsK_at W H L _ hy hx, if_neg (by omega)]
  · rw [if_neg e, if_neg]
    rintro ⟨c1, c2⟩
    have hw : 0 < w := by omega
    rcases Nat.lt_or_gt_of_ne e with h3 | h3
    · have := Nat.mul_le_mul_right w (show y + 1 ≤ k by omega)
      rw [Nat.add_mul] at this
      omega
    · have := Nat.mul_le_mul_right w (show k + 1 ≤ y by omega)
      rw [Nat.add_mul] at this
      omega
theorem rowsK_succ {W H w h k : Nat} {L : List (Int × Int)} (hR : R W H L) (hw : 0 < w) (hk : k < H) (hh : k < h) :
    rowsK W H w h L (k + 1) = if ((rowsX W H w h L k).getD (k * w + (w - 1)) (0, 0)).2 = 1 then (rowsX W H w h L k).set (k * w + (w - 1)) bl else rowsX W H w h L k := by
  have hlx := rowsX_len (w := w) hR.len hk hh
  apply ext_parts (rowsK_len ..) (by split <;> (try rw [List.length_set]) <;> exact hlx)
  intro y x hy hx
  rw [rowsK_at W H L _ hy hx]
  have hlast := rowsX_at (w := w) hR.len hk hh hh (show w - 1 < w by omega)
  rw [if_pos rfl] at hlast
  have hat := rowsX_at (w := w) hR.len hk hh hy hx
  have hinj : y * w + x = k * w + (w - 1) ↔ y = k ∧ x = w - 1 := by
    constructor
    · intro e
      obtain ⟨d1, m1⟩ := div_mod y hx
      obtain ⟨d2, m2⟩ := div_mod k (show w - 1 < w by omega)
      rw [e] at d1 m1
      exact ⟨d1.symm.trans d2, m1.symm.trans m2⟩
    · rintro ⟨rfl, rfl⟩; rfl
  by_cases e : y = k
  · subst e
    rw [if_pos rfl] at hat
    rw [if_pos (by omega), fitL_at hR hy hx, hlast]
    by_cases hx1 : x = w - 1
    · subst hx1
      by_cases hc : ((fitM W H w h L).getD (y * w + (w - 1)) (0, 0)).2 = 1
      · rw [if_pos ⟨by omega, hc⟩, if_pos hc, set_getD _ _ _ _ (by rw [hlx]; exact in_lt hy hx), if_pos rfl]
      · rw [if_neg (fun h => hc h.2), if_neg hc, hat]
    · rw [if_neg (by omega)]
      split
      · rw [set_getD _ _ _ _ (by rw [hlx]; exact in_lt hy (by omega)), if_neg (fun h => hx1 (hinj.1 h).2), hat]
      · rw [hat]
  · rw [if_neg e, rowsK_at W H L _ hy hx] at hat
    have hne : ¬ y * w + x = k * w + (w - 1) := fun h => e (hinj.1 h).1
    have e2 : (if y < k + 1 then (fitL W H w h L).getD (y * w + x) (0, 0) else bl) = if y < k then (fitL W H w h L).getD (y * w + x) (0, 0) else bl := by
      by_cases h3 : y < k
      · rw [if_pos h3, if_pos (by omega)]
      · rw [if_neg h3, if_neg (by omega)]
    rw [e2, ← hat]
    split
    · rw [set_getD _ _ _ _ (by rw [hlx]; exact in_lt hh (by omega)), if_neg hne]
    · rfl
/-- Rows ahead of y are laid, and x cells of it: ahead of mending. -/
def cellsK (W H w h : Nat) (L : List (Int × Int)) (y x : Nat) : List (Int × Int) := (List.range (w * h)).map fun i => if i / w < y ∨ i / w = y ∧ i % w < x then (fitM W H w h L).getD i (0, 0) else bl
theorem cellsK_len (W H w h : Nat) (L : List (Int × Int)) (y x : Nat) : (cellsK W H w h L y x).length = w * h := by simp [cellsK]
theorem cellsK_at (W H : Nat) {w h : Nat} (L : List (Int × Int)) (k j : Nat) {y x : Nat} (hy : y < h) (hx : x < w) : (cellsK W H w h L k j).getD (y * w + x) (0, 0) = if y < k ∨ y = k ∧ x < j then (fitM W H w h L).getD (y * w + x) (0, 0) else bl := by
  unfold cellsK
  obtain ⟨d, m⟩ := div_mod y hx
  rw [map_getD, if_pos (in_lt hy hx), d, m]
theorem cellsK_0 (W H w h : Nat) (L : List (Int × Int)) : cellsK W H w h L 0 0 = List.replicate (w * h) bl := by
  apply ext_parts (cellsK_len ..) (List.length_replicate ..)
  intro y x hy hx
  rw [cellsK_at W H L 0 0 hy hx, if_neg (by omega)]
  simp [List.getD, in_lt hy hx]
theorem cellsK_next {W H w h : Nat} {L : List (Int × Int)} {k j : Nat} (hk : k < h) (hkH : k < H) (hj : j < w) (hjW : j < W) : cellsK W H w h L k (j + 1) = (cellsK W H w h L k j).set (k * w + j) (L.getD (k * W + j) (0, 0)) := by
  apply ext_parts (cellsK_len ..) (by rw [List.length_set, cellsK_len])
  intro y x hy hx
  rw [cellsK_at W H L _ _ hy hx, set_getD _ _ _ _ (by rw [cellsK_len]; exact in_lt hk hj), cellsK_at W H L _ _ hy hx]
  have hinj : y * w + x = k * w + j ↔ y = k ∧ x = j := by
    constructor
    · intro e
      obtain ⟨d1, m1⟩ := div_mod y hx
      obtain ⟨d2, m2⟩ := div_mod k hj
      rw [e] at d1 m1
      exact ⟨d1.symm.trans d2, m1.symm.trans m2⟩
    · rintro ⟨rfl, rfl⟩; rfl
  by_cases e : y = k ∧ x = j
  · obtain ⟨rfl, rfl⟩ := e
    rw [if_pos (by omega), if_pos rfl, fitM_at W H L hy hx, if_pos ⟨hjW, hkH⟩]
  · rw [if_neg (fun h => e (hinj.1 h))]
    by_cases h2 : y < k ∨ y = k ∧ x < j
    · rw [if_pos h2, if_pos (by omega)]
    · rw [if_neg h2, if_neg (by omega)]
theorem cellsK_row {W H w h : Nat} {L : List (Int × Int)} {k j : Nat} (hj : j = min w W) : cellsK W H w h L k j = cellsK W H w h L (k + 1) 0 := by
  apply ext_parts (cellsK_len ..) (cellsK_len ..)
  intro y x hy hx
  rw [cellsK_at W H L _ _ hy hx, cellsK_at W H L _ _ hy hx]
  by_cases h1 : y < k ∨ y = k ∧ x < j
  · rw [if_pos h1, if_pos (by omega)]
  · rw [if_neg h1]
    by_cases h2 : y < k + 1 ∨ y = k + 1 ∧ x < 0
    · rw [if_pos h2, fitM_at W H L hy hx, if_neg (by omega)]
    · rw [if_neg h2]
theorem cellsK_end {W H w h : Nat} {L : List (Int × Int)} {k : Nat} (hk : k = min h H) : cellsK W H w h L k 0 = fitM W H w h L := by
  apply ext_parts (cellsK_len ..) (fitM_len ..)
  intro y x hy hx
  rw [cellsK_at W H L _ _ hy hx]
  by_cases h1 : y < k ∨ y = k ∧ x < 0
  · rw [if_pos h1]
  · rw [if_neg h1, fitM_at W H L hy hx, if_neg (by omega)]
end Gd
end Go.Proofs.YtakokmacfdfjhaaDoor
