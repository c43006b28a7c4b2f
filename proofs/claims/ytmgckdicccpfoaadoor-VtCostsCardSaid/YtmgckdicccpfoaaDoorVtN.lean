/- The walk of VtCosts. Condition: the table of the kinds with one form as the program lays it. -/
import Derived.Test.YtmgckdicccpfoaaDoorVtM
set_option linter.unusedVariables false
namespace Go.Proofs.YtmgckdicccpfoaaDoor
open Go.RowKit Gl L Vt
set_option maxHeartbeats 4000000 in
theorem costs_law (v : Value) (l : List Cmd) (w : World) (hr : Rw w v 4 l.length (flatC l)) (hm : l.length ≤ maxLen) (F : Forms w 0) : Calls Tryd.prog 4 #[v] w fun e w' => e = .returned (.bool true) ∧ Below w.heap.size w w' := by
  have hr2 := hr
  obtain ⟨_, A, cap, rfl, _⟩ := hr2
  have HR := Lib.hid hr
  have hm2 : l.length ≤ 9223372036854775807 := Nat.le_trans hm (by decide)
  clear hr hm
  by_cases hg : 1000 < l.length
  · have hd : decide ((1000 : Int) < (l.length : Int)) = true := decide_eq_true (by omega)
    go_enter Tryd.func4, Tryd.ntmps4
    go_wp2
    go_ret
    exact ⟨rfl, Below.refl _ _⟩
  · have hd : decide ((1000 : Int) < (l.length : Int)) = false := decide_eq_false (by omega)
    have HL := Lib.hid (show l.length ≤ 100000 by omega)
    have HF := Lib.hid F
    clear F hg
    go_enter Tryd.func4, Tryd.ntmps4
    go_wp2_with fail
    refine (ex_any _ HF.out).mono ?_
    rintro e w1 ⟨rfl, h1⟩
    have F1 := Lib.hid (HF.out.below h1)
    have R1 := Lib.hid (HR.out.below h1)
    go_wp2_with fail
    refine (vcost_any _ l _ F1.out R1.out HL.out).mono ?_
    rintro e w2 ⟨rfl, hb2⟩
    have h2 := h1.trans (hb2.mono h1.size)
    have F2 := Lib.hid (F1.out.below hb2)
    have R2 := Lib.hid (R1.out.below hb2)
    go_wp2_with fail
    refine (rcost_any _ l _ R2.out HL.out).mono ?_
    rintro e w3 ⟨rfl, hb3⟩
    have h3 := h2.trans (hb3.mono h2.size)
    have F3 := Lib.hid (F2.out.below hb3)
    have R3 := Lib.hid (R2.out.below hb3)
    go_wp2_with fail
    refine (vpads_any _ l _ F3.out R3.out HL.out).mono ?_
    rintro e w4 ⟨rfl, hb4⟩
    have h4 := h3.trans (hb4.mono h3.size)
    have R4 := Lib.hid (R3.out.below hb4)
    go_wp2_with fail
    refine (rpads_any _ l _ R4.out HL.out).mono ?_
    rintro e w5 ⟨rfl, hb5⟩
    have h5 := h4.trans (hb5.mono h4.size)
    go_wp2
    go_ret
    exact ⟨by simp, h5⟩
end Go.Proofs.YtmgckdicccpfoaaDoor
