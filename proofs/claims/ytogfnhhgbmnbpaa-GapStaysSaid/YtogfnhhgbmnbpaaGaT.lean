/- Lines with a point that came in: rows of 32-bit numbers, the struct of two of them. -/
import Derived.Test.YtogfnhhgbmnbpaaCr
import Derived.Test.YtogfnhhgbmnbpaaGaA
set_option linter.unusedVariables false
namespace Go.Proofs.Ytogfnhhgbmnbpaa
open Go.ChangeShapes Go.WideShapes Go.ChangeAt Go.RowKit L
section
variable {H : Type} {enc : TypeId × Value → H} {P : Program}
/-- A slice of 32-bit numbers that came in. -/
theorem open_rr {t e : TypeId} {base : Nat} {W : World} {held : Bool} {fuel : Nat} {v : Value} {x : DataW H × List MemPlace} (ht : P.underlying t = some (.slice e)) (he : P.underlying e = some (.int .i32)) (hc : P.cellsOf e = 1)
    (h : DataW.trod enc P W base (fun _ => true) held fuel t [v] = some x) : ∃ (A : Option Addr) (cap : Nat) (l : List Int), v = .slice A l.length cap ∧ Rr W (.slice A l.length cap) l ∧ l.length ≤ maxLen := by
  rcases open_ints ht he hc h with ⟨hcs, _⟩ | ⟨a, len, cap, zs, hcs, _, hl, hm, hz, _, hcell, _⟩
  · obtain rfl : v = .slice none 0 0 := by simpa using hcs
    exact ⟨none, 0, [], rfl, Rr.nil W, Nat.zero_le _⟩
  · obtain rfl : v = .slice (some a) len cap := by simpa using hcs
    have hzl : zs.length = cap := by simpa using hz
    have hlen : (zs.take len).length = len := by rw [List.length_take]; omega
    refine ⟨some a, cap, zs.take len, by rw [hlen], ⟨⟨by rw [ints_len, Nat.mul_one], _, cap, rfl, ?_⟩, _, cap, rfl, by omega⟩, by omega⟩
    by_cases h0 : len = 0
    · exact .inl ⟨by omega, fun h => by cases h⟩
    · obtain ⟨b, off, rfl⟩ := addr_plain (w := W) (a := a) (by have := hcell 0 (by omega); simpa [Addr.add] using this)
      refine .inr ⟨b, off, rfl, fun j u hu => ?_⟩
      simp only [ints, List.getElem?_map, Option.map_eq_some_iff] at hu
      obtain ⟨y, hy, rfl⟩ := hu
      rw [List.getElem?_take] at hy
      split at hy
      · have hj : j < zs.length := (List.getElem?_eq_some_iff.1 hy).1
        have := hcell j hj
        rw [add_none] at this
        rw [this, List.getD_eq_getElem?_getD, hy]
        rfl
      · cases hy
/-- The same, of what is handed in by itself. -/
theorem open_rr1 {t e : TypeId} {base b0 : Nat} {W : World} {held : Bool} {r : Reach} {v : Value} {d : DataW H} {p : List MemPlace} (ht : P.underlying t = some (.slice e)) (he : P.underlying e = some (.int .i32)) (hc : P.cellsOf e = 1)
    (hok : Value.okWide P W r b0 t v) (h : DataW.Trod enc P W base (fun _ => true) held t v d p) : ∃ (A : Option Addr) (cap : Nat) (l : List Int), v = .slice A l.length cap ∧ Rr W (.slice A l.length cap) l ∧ l.length ≤ maxLen := by
  obtain ⟨a0, len, cap, rfl⟩ := okWide_slice ht hok
  obtain ⟨fuel, hf⟩ := h
  exact open_rr ht he hc hf
end
end Go.Proofs.Ytogfnhhgbmnbpaa
