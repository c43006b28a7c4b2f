/- The contract of the reference's Same of rows of commands. -/
import Derived.Test.YtgpebdoafblacaaDoorVtEb
import Derived.BigQuiet
import Derived.WalkSmall
set_option linter.unusedVariables false
namespace Go.Proofs.YtgpebdoafblacaaDoor
open Go.RowKit Gl L Vt
namespace Vt
theorem getD_eq (l m : List Cmd) (k : Nat) (h0 : cK l k = cK m k) (h1 : cA l k = cA m k) (h2 : cB l k = cB m k) (h3 : cR l k = cR m k) : l.getD k d0 = m.getD k d0 := Prod.ext h0 (Prod.ext h1 (Prod.ext h2 h3))
theorem beq_no {x y : Int} (h : x ≠ y) : (x == y) = false := by simpa using h
/-- So far the rows are the same. -/
def Likely (l m : List Cmd) (k : Nat) : Prop := ∀ j, j < k → l.getD j d0 = m.getD j d0
theorem Likely.next {l m : List Cmd} {k : Nat} (h : Likely l m k) (h' : l.getD k d0 = m.getD k d0) : Likely l m (k + 1) := fun j hj => by
  by_cases e : j = k
  · rw [e]; exact h'
  · exact h j (by omega)
theorem Likely.all {l m : List Cmd} (h : Likely l m l.length) (hl : l.length = m.length) : l = m := by
  refine List.ext_getElem hl fun j h1 h2 => ?_
  have := h j h1
  simpa [List.getD, h1, h2] using this
end Vt
set_option maxHeartbeats 4000000 in
theorem rsame_any (va vb : Value) (l m : List Cmd) (w : World) (ha : Rw w va 4 l.length (flatC l)) (hb : Rw w vb 4 m.length (flatC m)) (hl : l.length ≤ 100000) (hm : m.length ≤ 100000) :
    Calls Tryd.prog 25 #[va, vb] w fun e w' => e = .returned (.bool (decide (l = m))) ∧ Below w.heap.size w w' := by
  obtain ⟨A, ca, rfl, hA⟩ := cmds_row ha
  obtain ⟨B, cb, rfl, hB⟩ := cmds_row hb
  clear ha hb
  by_cases hlm : l.length = m.length
  · have HL := Lib.hid hlm
    have bq : ((l.length : Int) == (m.length : Int)) = true := by simp; omega
    have bq2 : ((l.length : Int) != (m.length : Int)) = false := by rw [bne, bq]; rfl
    have HA := Lib.hid hA
    have HB := Lib.hid hB
    clear hlm hA hB
    go_enter Tryd.func25, Tryd.ntmps25
    go_wp2
    go_loopw [5] (fun i wr => ∃ k : Nat, k ≤ l.length ∧ i = .int .i64 k ∧ Likely l m k ∧ Below w.heap.size w wr) (fun i _ => l.length - (intOf i).toNat)
    case atStart => exact ⟨0, Nat.zero_le _, rfl, fun j hj => absurd hj (Nat.not_lt_zero j), Below.refl _ _⟩
    case round =>
      obtain ⟨k, hk, rfl, hal, hw⟩ := hrel
      by_cases hlt : k < l.length
      · have hlt2 : k < m.length := by have := HL.out; omega
        have hdif : ¬ (l.getD k d0 = m.getD k d0) → l ≠ m := fun h e => h (by rw [e])
        have hget := getD_eq l m k
        rcases HA.out with h0 | ⟨g, off, rfl, hcc⟩
        · omega
        obtain ⟨e0, e1, e2, e3⟩ := hcc k hlt
        clear hcc
        rcases HB.out with h0 | ⟨g', off', rfl, hcc⟩
        · omega
        obtain ⟨f0, f1, f2, f3⟩ := hcc k hlt2
        clear hcc
        have g0 := World.block_lt_of_cell? w _ e0
        have g1 := World.block_lt_of_cell? w _ f0
        rw [← old_cell hw _ _ g0] at e0 e1 e2 e3
        rw [← old_cell hw _ _ g1] at f0 f1 f2 f3
        have hN := Lib.hid (fun h => hal.next (k := k) h)
        have hW := Lib.hid hw
        clear hal hw g0 g1
        by_cases heq : l.getD k d0 = m.getD k d0
        · have hN' := Lib.hid (hN.out heq)
          have c0 : cK l k = cK m k := by unfold cK; rw [heq]
          have c1 : cA l k = cA m k := by unfold cA; rw [heq]
          have c2 : cB l k = cB m k := by unfold cB; rw [heq]
          have c3 : cR l k = cR m k := by unfold cR; rw [heq]
          rw [← c0] at f0
          rw [← c1] at f1
          rw [← c2] at f2
          rw [← c3] at f3
          clear c0 c1 c2 c3 heq hN hdif hget
          generalize cK l k = x0 at *
          generalize cA l k = x1 at *
          generalize cB l k = x2 at *
          generalize cR l k = x3 at *
          go_wp2
          go_quiet (fail)
          go_wp2
          go_roundw
          case rel => exact ⟨k + 1, by omega, by go_num, hN'.out, below_drewN hW.out _⟩
          case measure => simp [intOf]; omega
        · have E := Lib.hid (decide_eq_false (hdif heq))
          have hor : cK l k ≠ cK m k ∨ cK l k = cK m k ∧ cA l k ≠ cA m k ∨ cK l k = cK m k ∧ cA l k = cA m k ∧ cB l k ≠ cB m k ∨ cK l k = cK m k ∧ cA l k = cA m k ∧ cB l k = cB m k ∧ cR l k ≠ cR m k := by
            by_cases h0 : cK l k = cK m k
            · by_cases h1 : cA l k = cA m k
              · by_cases h2 : cB l k = cB m k
                · by_cases h3 : cR l k = cR m k
                  · exact absurd (hget h0 h1 h2 h3) heq
                  · exact .inr (.inr (.inr ⟨h0, h1, h2, h3⟩))
                · exact .inr (.inr (.inl ⟨h0, h1, h2⟩))
              · exact .inr (.inl ⟨h0, h1⟩)
            · exact .inl h0
          clear heq hN hdif hget
          generalize cK l k = x0 at *
          generalize cA l k = x1 at *
          generalize cB l k = x2 at *
          generalize cR l k = x3 at *
          generalize cK m k = y0 at *
          generalize cA m k = y1 at *
          generalize cB m k = y2 at *
          generalize cR m k = y3 at *
          rcases hor with h | ⟨rfl, h⟩ | ⟨rfl, rfl, h⟩ | ⟨rfl, rfl, rfl, h⟩
          all_goals
            have q0 := beq_no h
            clear h
            go_wp2
            go_quiet (fail)
            go_wp2
            go_ret
            refine ⟨by rw [E.out]; rfl, below_drewN hW.out _⟩
      · obtain rfl : k = l.length := by omega
        have E := Lib.hid (decide_eq_true (hal.all HL.out))
        have hW := Lib.hid hw
        clear hal hw hlt
        go_wp2
        go_ret
        exact ⟨by rw [E.out]; rfl, hW.out⟩
  · have E := Lib.hid (decide_eq_false (show ¬ l = m from fun e => hlm (by rw [e])))
    have bq : ((l.length : Int) == (m.length : Int)) = false := by rw [Bool.eq_false_iff]; intro h; have h' := eq_of_beq h; omega
    have bq2 : ((l.length : Int) != (m.length : Int)) = true := by rw [bne, bq]; rfl
    clear hlm hA hB
    go_enter Tryd.func25, Tryd.ntmps25
    go_wp2
    go_ret
    exact ⟨by rw [E.out]; rfl, Below.refl _ _⟩
end Go.Proofs.YtgpebdoafblacaaDoor
