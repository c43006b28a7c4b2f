/- The contracts of wide: Shown, Wide, shape. -/
import Derived.Test.YtgpebdoafblacaaDoorMGi
import Derived.Test.YtgpebdoafblacaaDoorMWp
/- The contracts of wide's and the reference's Shown: any number. -/
set_option linter.unusedVariables false
namespace Go.Proofs.YtgpebdoafblacaaDoor
open Go.RowKit Gl L Wd
theorem shown_any (r : Int) (w : World) : Calls Tryd.prog 52 #[.int .i32 r] w fun e w' => e = .returned (.bool (shw r)) ∧ w = w' := by
  cases hv : vld r
  all_goals
    have H := Lib.hid hv
    clear hv
    go_enter Tryd.func52, Tryd.ntmps52
    go_wp2_with fail
    refine (is_any _ _).mono ?_
    rintro e w' ⟨rfl, rfl⟩
    rw [H.out]
    go_wp2
  all_goals go_ret
  all_goals refine ⟨ret_bool ?_, rfl⟩
  all_goals unfold shw
  all_goals rw [H.out, Bool.eq_iff_iff]
  all_goals simp
  all_goals omega
theorem rshown_any (r : Int) (w : World) : Calls Tryd.prog 43 #[.int .i32 r] w fun e w' => e = .returned (.bool (shw r)) ∧ w = w' := by
  cases hv : vld r
  all_goals
    have H := Lib.hid hv
    clear hv
    go_enter Tryd.func43, Tryd.ntmps43
    go_wp2_with fail
    refine (ris_any _ _).mono ?_
    rintro e w' ⟨rfl, rfl⟩
    rw [H.out]
    go_wp2
  all_goals go_ret
  all_goals refine ⟨ret_bool ?_, rfl⟩
  all_goals unfold shw
  all_goals rw [H.out, Bool.eq_iff_iff]
  all_goals simp
  all_goals omega
end Go.Proofs.YtgpebdoafblacaaDoor
/- The contracts of wide's Shown, Wide and shape, and of the reference's Shown: any number. Condition: the table of spans as the program lays it. -/
set_option linter.unusedVariables false
namespace Go.Proofs.YtgpebdoafblacaaDoor
open Go.RowKit Gl L Wd
theorem bcell {W w1 : World} (hb : Below W.heap.size W w1) : (∀ b o, b < W.heap.size → w1.cell? ⟨b, o, none⟩ = W.cell? ⟨b, o, none⟩) ∧ (∀ b o, b < W.heap.size → w1.frozen? ⟨b, o, none⟩ = W.frozen? ⟨b, o, none⟩) :=
  ⟨fun b o h => hb.cell (p := ⟨b, o, none⟩) h, fun b o h => hb.frozen (p := ⟨b, o, none⟩) h⟩
def Spans (w : World) (g : Nat) : Prop := ∃ b off cap, w.cell? ⟨g, 0, none⟩ = some (.slice (some ⟨b, off, none⟩) 11 cap) ∧ ∀ k, k < 11 → w.cell? ⟨b, off + k * 2, none⟩ = some (.int .i32 (lo k)) ∧ w.cell? ⟨b, off + k * 2 + 1, none⟩ = some (.int .i32 (hi k))
theorem Spans.below {w w' : World} {g : Nat} (h : Spans w g) (hb : Below w.heap.size w w') : Spans w' g := by
  obtain ⟨b, off, cap, h1, h2⟩ := h
  refine ⟨b, off, cap, ?_, fun k hk => ?_⟩
  · rw [hb.cell (World.block_lt_of_cell? w _ h1)]; exact h1
  · rw [hb.cell (World.block_lt_of_cell? w _ (h2 k hk).1), hb.cell (World.block_lt_of_cell? w _ (h2 k hk).2)]; exact h2 k hk
namespace Wd
def c0 (r : Int) : Int := ((cl r).getD 0 (0, 0)).1
def k0 (r : Int) : Int := ((cl r).getD 0 (0, 0)).2
def c1 (r : Int) : Int := ((cl r).getD 1 (0, 0)).1
def k1 (r : Int) : Int := ((cl r).getD 1 (0, 0)).2
/-- The value of two cells, by a sign. -/
def two (r : Int) : Value := .agg #[.int .i32 (c0 r), .int .i64 (k0 r), .int .i32 (c1 r), .int .i64 (k1 r)]
theorem two_flat (r : Int) : flat (cl r) = ([.int .i32 (c0 r), .int .i64 (k0 r), .int .i32 (c1 r), .int .i64 (k1 r)] : List Value).take ((cl r).length * 2) := by
  unfold c0 k0 c1 k1 flat
  rcases cl_len r with h | h
  · match hc : cl r, h with
    | [x], _ => rfl
  · match hc : cl r, h with
    | [x, y], _ => rfl
end Wd
end Go.Proofs.YtgpebdoafblacaaDoor
