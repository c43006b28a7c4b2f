/- The contracts of glyph: what is told next. -/
import Derived.Test.YtogfnhhgbmnbpaaMGi
import Derived.Test.YtogfnhhgbmnbpaaMGp
import Derived.BigQuiet
/- The contracts of the reference's value and whole: strings of 1 to 4 bytes. -/
namespace Go.Proofs.Ytogfnhhgbmnbpaa
open Go.RowKit Go.PlainAid Gl L
end Go.Proofs.Ytogfnhhgbmnbpaa
/- The contracts of the reference's whole, more and Next. -/
namespace Go.Proofs.Ytogfnhhgbmnbpaa
open Go.RowKit Go.PlainAid Gl L
end Go.Proofs.Ytogfnhhgbmnbpaa
/- The contract of glyph.Next: any string, the two tables of the library laid. -/
namespace Go.Proofs.Ytogfnhhgbmnbpaa
open Go.RowKit Go.PlainAid Gl L
end Go.Proofs.Ytogfnhhgbmnbpaa
/- The two tables of the library last as long as what is below stays. -/
set_option linter.unusedVariables false
namespace Go.Proofs.Ytogfnhhgbmnbpaa
open Go.RowKit Go.PlainAid
namespace Gl
theorem Tabs.below {w w' : World} {f a : Nat} (h : Tabs w f a) (hb : Below w.heap.size w w') : Tabs w' f a := by
  have g : ∀ {p : Addr} {v : Value}, w.cell? p = some v → w'.cell? p = some v := fun {p v} h => by
    rw [hb.cell (World.block_lt_of_cell? w _ h)]; exact h
  exact ⟨fun b h0 h1 => g (h.x b h0 h1), g h.a0, g h.a1, g h.a2, g h.a3, g h.a4, g h.a5, g h.a6, g h.a7, g h.a8, g h.a9⟩
end Gl
end Go.Proofs.Ytogfnhhgbmnbpaa
