/- Lemmas of no program on rows of integers: one that came in, one that the call made; append; iterators. -/
import Derived.Test.YteafbfgmdknaeaaDoorLibA
import Derived.Lib.OthersKept
import Derived.WalkSmall
namespace Go.Proofs.YteafbfgmdknaeaaDoor
open Go.RowKit
namespace L
theorem new1 (w : World) (x : Value) (t : TypeId) : ∀ j u, [x][j]? = some u → (w.alloc (.cells #[x] t)).cell? ((⟨w.heap.size, 0, none⟩ : Addr).add j) = some u := by
  intro j u hu
  rcases j with _ | j
  · simp at hu; subst hu
    have hb : (w.alloc (.cells #[x] t)).heap[w.heap.size]? = some (.cells #[x] t) := by
      show (w.heap.push _)[w.heap.size]? = _
      simp
    show (w.alloc (.cells #[x] t)).cell? ⟨w.heap.size, 0 + 0, none⟩ = _
    unfold World.cell?
    simp only [Nat.zero_add]
    rw [hb]
    rfl
  · simp at hu
theorem one1 (x : Value) (h : x.oneCell' = true) : ∀ u ∈ [x], u.oneCell' = true := by
  intro u hu; simp at hu; subst hu; exact h
theorem ownsRow_iterAt' {w : World} {base : Nat} {e : TypeId} {size : Nat} {v : Value} {n : Nat} {xs : List Value} (h : w.ownsRow base e size v n xs) {k : Nat} {s : ByteArray} {p : Nat} (hk : w.heap[k]? = some (.stringIter s p)) (q : Nat) :
    (w.iterAt k s q).ownsRow base e size v n xs := by
  obtain ⟨h1, h2⟩ := h
  refine ⟨h1, ?_⟩
  rcases h2 with h2 | ⟨g, cap, cur, hv, hg, hh, r⟩
  · exact .inl h2
  · refine .inr ⟨g, cap, cur, hv, hg, ?_, r⟩
    rw [Lib.iterAt_other _ _ _ _ _ (by rintro rfl; rw [hk] at hh; cases hh)]; exact hh
theorem ownsRow_mono {w : World} {b b' : Nat} {e : TypeId} {size : Nat} {v : Value} {n : Nat} {xs : List Value} (h : w.ownsRow b e size v n xs) (hb : b' ≤ b) : w.ownsRow b' e size v n xs := by
  obtain ⟨h1, h2⟩ := h
  refine ⟨h1, ?_⟩
  rcases h2 with h2 | ⟨g, cap, cur, hv, hg, r⟩
  · exact .inl h2
  · exact .inr ⟨g, cap, cur, hv, Nat.le_trans hb hg, r⟩
def ints (k : IntKind) (l : List Int) : List Value := l.map (Value.int k)
theorem ints_snoc (k : IntKind) (l : List Int) (x : Int) : ints k l ++ [Value.int k x] = ints k (l ++ [x]) := by simp [ints]
theorem ints_len (k : IntKind) (l : List Int) : (ints k l).length = l.length := by simp [ints]
/-- v is a row whose elements are the integers xs. -/
def IsRow (w : World) (v : Value) (k : IntKind) (xs : List Int) : Prop :=
  ∃ A cap, v = .slice A xs.length cap ∧ (xs = [] ∨ ∃ b off, A = some ⟨b, off, none⟩ ∧ ∀ j, j < xs.length → w.cell? ⟨b, off + j, none⟩ = some (.int k (xs.getD j 0)))
theorem IsRow.below {w w' : World} {v : Value} {k : IntKind} {xs : List Int} (h : IsRow w v k xs) (hb : Below w.heap.size w w') : IsRow w' v k xs := by
  obtain ⟨A, cap, rfl, h⟩ := h
  refine ⟨A, cap, rfl, ?_⟩
  rcases h with h | ⟨b, off, rfl, hc⟩
  · exact .inl h
  · refine .inr ⟨b, off, rfl, fun j hj => ?_⟩
    rw [hb.cell (World.block_lt_of_cell? w _ (hc j hj))]
    exact hc j hj
theorem IsRow.of_owns {w : World} {base : Nat} {e : TypeId} {v : Value} {k : IntKind} {xs : List Int} (h : w.ownsRow base e 1 v xs.length (ints k xs)) : IsRow w v k xs := by
  obtain ⟨h1, h2⟩ := h
  rcases h2 with ⟨rfl, h0⟩ | ⟨g, cap, cur, rfl, hg, hh, h3, h4, h5, h6⟩
  · exact ⟨none, 0, by rw [h0], .inl (List.eq_nil_of_length_eq_zero h0)⟩
  · refine ⟨_, cap, rfl, ?_⟩
    by_cases hx : xs = []
    · exact .inl hx
    · refine .inr ⟨g, 0, rfl, fun j hj => ?_⟩
      unfold World.cell?
      simp only [Nat.zero_add]
      rw [hh]
      show cur[j]? = _
      have e1 : (cur.toList.take (xs.length * 1))[j]? = cur.toList[j]? := by rw [List.getElem?_take, if_pos (by omega)]
      rw [h6] at e1
      rw [← Array.getElem?_toList, ← e1]
      simp [ints, List.getD, hj]
theorem ownsRow_below {w w' : World} {base : Nat} {e : TypeId} {size : Nat} {v : Value} {n : Nat} {xs : List Value} (h : w.ownsRow base e size v n xs) (hb : Below w.heap.size w w') : w'.ownsRow base e size v n xs := by
  obtain ⟨h1, h2⟩ := h
  refine ⟨h1, ?_⟩
  rcases h2 with h2 | ⟨g, cap, cur, hv, hg, hh, r⟩
  · exact .inl h2
  · exact .inr ⟨g, cap, cur, hv, hg, by rw [hb.block g (Array.getElem?_eq_some_iff.1 hh).1]; exact hh, r⟩
theorem IsRow.new (w : World) (k : IntKind) (xs : List Int) (t : TypeId) (cap : Nat) : IsRow (w.alloc (.cells (xs.map (Value.int k)).toArray t)) (.slice (some ⟨w.heap.size, 0, none⟩) xs.length cap) k xs := by
  refine ⟨_, cap, rfl, .inr ⟨w.heap.size, 0, rfl, fun j hj => ?_⟩⟩
  have hb : (w.alloc (.cells (xs.map (Value.int k)).toArray t)).heap[w.heap.size]? = some (.cells (xs.map (Value.int k)).toArray t) := by
    show (w.heap.push _)[w.heap.size]? = _
    simp
  unfold World.cell?
  simp only [Nat.zero_add]
  rw [hb]
  simp [List.getD, hj]
end L
end Go.Proofs.YteafbfgmdknaeaaDoor
