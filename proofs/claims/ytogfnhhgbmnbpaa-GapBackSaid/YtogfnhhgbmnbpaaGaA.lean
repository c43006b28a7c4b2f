/- Of no program: rows of 32-bit numbers whose room is no less than their length; cuts of them. -/
import Derived.Test.YtogfnhhgbmnbpaaLaS
import Derived.Test.YtogfnhhgbmnbpaaCpy
set_option linter.unusedVariables false
namespace Go.Proofs.Ytogfnhhgbmnbpaa
open Go.RowKit L
/-- v is a row of these numbers, whose room is no less than its length. -/
structure Rr (w : World) (v : Value) (l : List Int) : Prop where
  rw : Rw w v 1 l.length (ints .i32 l)
  room : ∃ A cap, v = .slice A l.length cap ∧ l.length ≤ cap
namespace Rr
theorem below {w w' : World} {v : Value} {l : List Int} (h : Rr w v l) (hb : Below w.heap.size w w') : Rr w' v l := ⟨h.rw.below hb, h.room⟩
theorem row {w : World} {v : Value} {l : List Int} (h : Rr w v l) : IsRow w v .i32 l := IsRow.of_rw h.rw
theorem nil (w : World) : Rr w (.slice none 0 0) [] := ⟨⟨rfl, none, 0, rfl, .inl ⟨rfl, fun _ => rfl⟩⟩, none, 0, rfl, Nat.le_refl _⟩
theorem of_owns {w : World} {base : Nat} {e : TypeId} {v : Value} {n : Nat} {l : List Int} (h : w.ownsRow base e 1 v n (ints .i32 l)) (hn : n = l.length) : Rr w v l := by
  subst hn
  refine ⟨Rw.of_owns h, ?_⟩
  rcases Rw.form h with ⟨rfl, h0⟩ | ⟨g, cap, rfl, hc⟩
  · exact ⟨none, 0, by rw [h0], by omega⟩
  · exact ⟨_, cap, rfl, hc⟩
theorem cut {w : World} {A : Option Addr} {cap : Nat} {l : List Int} (h : Rr w (.slice A l.length cap) l) (a b m : Nat) (hab : a ≤ b) (hb : b ≤ l.length) (hbm : b ≤ m) (hm : m ≤ cap) :
    Rr w (.slice (if m = a then A else A.map (·.add (a * 1))) (b - a) (m - a)) ((l.take b).drop a) := by
  have hl : ((l.take b).drop a).length = b - a := by rw [List.length_drop, List.length_take]; omega
  obtain ⟨h1, A', cap', e, h⟩ := h.rw
  cases e
  refine ⟨⟨by rw [ints_len]; omega, _, m - a, by rw [hl], ?_⟩, _, _, by rw [hl], by rw [hl]; omega⟩
  by_cases h0 : b = a
  · refine .inl ⟨by rw [hl]; omega, fun hA => ?_⟩
    by_cases hma : m = a
    · omega
    · rw [if_neg hma] at hA
      rcases h with ⟨_, hc⟩ | ⟨_, _, rfl, _⟩
      · cases A with
        | none => have := hc rfl; omega
        | some _ => cases hA
      · cases hA
  · rcases h with ⟨h', _⟩ | ⟨g, off, rfl, hc⟩
    · omega
    · rw [if_neg (by omega)]
      refine .inr ⟨g, off + a, by rw [Option.map_some, add_none, Nat.mul_one], fun j u hu => ?_⟩
      rw [Nat.add_assoc]
      refine hc (a + j) u ?_
      simp only [ints, List.getElem?_map, List.getElem?_drop, List.getElem?_take] at hu ⊢
      split at hu
      · exact hu
      · cases hu
/-- A block of two slices. -/
def TwoS (w : World) (k : Nat) : Prop := ∃ A n c B m d t, w.heap[k]? = some (.cells #[.slice A n c, .slice B m d] t (0, 0))
/-- What is stored into blocks of two slices leaves a row of numbers as it was. -/
theorem upd {w w' : World} {S : Nat → Prop} {v : Value} {l : List Int} (h : Rr w v l) (hs : ∀ k, S k → TwoS w k) (hu : Upd S w w') : Rr w' v l := by
  refine ⟨⟨h.rw.1, ?_⟩, h.room⟩
  obtain ⟨_, A, c, rfl, hc⟩ := h.rw
  refine ⟨A, c, rfl, ?_⟩
  rcases hc with hc | ⟨g, o, rfl, hc⟩
  · exact .inl hc
  · refine .inr ⟨g, o, rfl, fun j u hu' => ?_⟩
    have h1 := hc j u hu'
    have hn : ¬ S g := fun hS => by
      obtain ⟨A, n, c, B, m, d, t, hg⟩ := hs g hS
      rw [cell_of_row w g (o + j) _ t (0, 0) hg] at h1
      simp only [ints, List.getElem?_map, Option.map_eq_some_iff] at hu'
      obtain ⟨x, _, rfl⟩ := hu'
      match hk : o + j, h1 with
      | 0, h1 => simp at h1
      | 1, h1 => simp at h1
      | k + 2, h1 => simp at h1
    have hb := World.block_lt_of_cell? w _ h1
    have := hu.block g hb hn
    exact (World.cell?_of_block this).trans h1
end Rr
theorem Stb.rr (v : Value) (l : List Int) : Stb fun w => Rr w v l := fun w w' h hb => h.below hb
end Go.Proofs.Ytogfnhhgbmnbpaa
