/- The statements' example holds. -/
import Derived.Test.YtkkioajmfkcloaaDoorGdX
import Derived.Test.YtkkioajmfkcloaaDoorMGu
import Derived.Test.YtkkioajmfkcloaaDoorGdN
import Derived.Test.YtkkioajmfkcloaaDoorMGe
import Derived.Test.YtkkioajmfkcloaaDoorMm
set_option linter.unusedVariables false
namespace Go.Proofs.YtkkioajmfkcloaaDoor
open Go.RowKit Gl L Wd Gd
namespace Gd
def l0 : List (Int × Int) := [(32, 0), (32, 0), (32, 0), (32, 0), (32, 0), (32, 0)]
def la : List (Int × Int) := [(32, 0), (20013, 1), (20013, 2), (32, 0), (32, 0), (32, 0)]
def lb : List (Int × Int) := [(32, 0), (32, 0), (97, 0), (32, 0), (32, 0), (32, 0)]
def lt : List (Int × Int) := [(32, 0), (32, 0)]
theorem ex_lists : newL 3 2 = l0 ∧ putL 3 l0 1 0 20013 = la ∧ putL 3 la 2 0 97 = lb ∧ blankL 3 la 0 2 = l0 ∧ scrollL 3 lb = l0 ∧ fitV 3 2 la 2 1 = lt := by decide +kernel
theorem ex_conds : sidesB 3 2 = true ∧ putB 3 2 l0 1 0 20013 = true ∧ putB 3 2 la 2 0 97 = true ∧ putB 3 2 l0 2 0 20013 = false ∧ atV 3 2 la 2 0 = (20013, 2) ∧ atE 3 2 la 2 0 = 0 ∧ blankB 3 2 la 0 2 = true ∧ fitB 3 2 la 2 1 = true ∧ sidesB 1 1 = false := by decide +kernel
theorem ex_right : right 3 2 lb ∧ right 3 2 la ∧ ¬ right 0 0 [] := by decide +kernel
end Gd
theorem GridOK.op {B : Nat} {w' : World} {e : Ending} {gw gh : Int} {l : List (Int × Int)} (h : GridOK B w' e gw gh l) {n : Nat} (hn : l.length = n) : ∃ g cap, e = .returned (.tuple #[.agg #[.int .i64 gw, .int .i64 gh, .slice (some ⟨g, 0, none⟩) n cap], .int .i64 0]) ∧ n ≤ cap ∧ Rw w' (.slice (some ⟨g, 0, none⟩) n cap) 2 l.length (flat l) := by
  obtain ⟨v, rfl, ho⟩ := h
  obtain ⟨g, cap, rfl, hc, hr⟩ := ho.op hn
  exact ⟨g, cap, rfl, hc, by rw [hn]; exact Rw.of_owns hr⟩
theorem capped_slice {A : Option Addr} {n cap : Nat} (h : n ≤ cap) : Capped (.slice A n cap) := fun A' n' c' he => by
  injection he with h1 h2 h3
  omega
theorem lit_lb (w : World) : Rw (w.alloc (.cells #[.int .i32 32, .int .i64 0, .int .i32 32, .int .i64 0, .int .i32 97, .int .i64 0, .int .i32 32, .int .i64 0, .int .i32 32, .int .i64 0, .int .i32 32, .int .i64 0] 48)) (.slice (some ⟨w.heap.size, 0, none⟩) 6 6) 2 lb.length (flat lb) :=
  Rw.lit w #[.int .i32 32, .int .i64 0, .int .i32 32, .int .i64 0, .int .i32 97, .int .i64 0, .int .i32 32, .int .i64 0, .int .i32 32, .int .i64 0, .int .i32 32, .int .i64 0] 48 2 6 6 (by simp)
theorem lit_lt (w : World) : Rw (w.alloc (.cells #[.int .i32 32, .int .i64 0, .int .i32 32, .int .i64 0] 48)) (.slice (some ⟨w.heap.size, 0, none⟩) 2 2) 2 lt.length (flat lt) :=
  Rw.lit w #[.int .i32 32, .int .i64 0, .int .i32 32, .int .i64 0] 48 2 2 2 (by simp)
end Go.Proofs.YtkkioajmfkcloaaDoor
