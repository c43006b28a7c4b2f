/- The walk of VtSums. Condition: the table of the kinds with one form as the program lays it. -/
import Derived.Test.YtmgckdicccpfoaaDoorVtZ
set_option linter.unusedVariables false
namespace Go.Proofs.YtmgckdicccpfoaaDoor
open Go.RowKit Go.PlainAid Gl L Vt
set_option maxHeartbeats 4000000 in
theorem sums_far (va vb : Value) (p q : List Cmd) (k a b r : Int) (w : World) (hp : Rw w va 4 p.length (flatC p)) (hq : Rw w vb 4 q.length (flatC q)) (hx : p.length ≤ maxLen) (hy : q.length ≤ maxLen) (h : 1000 < p.length ∨ 1000 < q.length) :
    Calls Tryd.prog 7 #[va, vb, .agg #[.int .i64 k, .int .i64 a, .int .i64 b, .int .i32 r]] w fun e w' => e = .returned (.bool true) ∧ Below w.heap.size w w' := by
  obtain ⟨A, capa, rfl⟩ : ∃ A cap, va = .slice A p.length cap := by obtain ⟨_, A, cap, e, _⟩ := hp; exact ⟨A, cap, e⟩
  obtain ⟨B, capb, rfl⟩ : ∃ A cap, vb = .slice A q.length cap := by obtain ⟨_, A, cap, e, _⟩ := hq; exact ⟨A, cap, e⟩
  clear hp hq
  have m1 : p.length ≤ 9223372036854775807 := Nat.le_trans hx (by decide)
  have m2 : q.length ≤ 9223372036854775807 := Nat.le_trans hy (by decide)
  clear hx hy
  by_cases hl : 1000 < p.length
  · have d1 : decide ((1000 : Int) < (p.length : Int)) = true := decide_eq_true (by omega)
    clear h
    go_enter Tryd.func7, Tryd.ntmps7
    go_wp2
    go_ret
    exact ⟨rfl, (Below.refl _ _).alloc (Nat.le_refl _) _⟩
  · have d1 : decide ((1000 : Int) < (p.length : Int)) = false := decide_eq_false (by omega)
    have d2 : decide ((1000 : Int) < (q.length : Int)) = true := decide_eq_true (by omega)
    clear h hl
    go_enter Tryd.func7, Tryd.ntmps7
    go_wp2
    go_ret
    exact ⟨rfl, (Below.refl _ _).alloc (Nat.le_refl _) _⟩
theorem sums_law (va vb : Value) (p q : List Cmd) (k a b r : Int) (w : World) (hp : Rw w va 4 p.length (flatC p)) (hx : p.length ≤ maxLen) (hq : Rw w vb 4 q.length (flatC q)) (hy : q.length ≤ maxLen) (F : Forms w 0) :
    Calls Tryd.prog 7 #[va, vb, .agg #[.int .i64 k, .int .i64 a, .int .i64 b, .int .i32 r]] w fun e w' => e = .returned (.bool true) ∧ Below w.heap.size w w' := by
  by_cases h : 1000 < p.length ∨ 1000 < q.length
  · exact sums_far va vb p q k a b r w hp hq hx hy h
  · exact sums_core va vb p q k a b r w hp hq (by omega) (by omega) F
end Go.Proofs.YtmgckdicccpfoaaDoor
