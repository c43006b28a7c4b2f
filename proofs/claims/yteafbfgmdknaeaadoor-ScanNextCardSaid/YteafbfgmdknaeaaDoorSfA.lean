/- The walks of ScanNext and ScanAll. Condition: the two tables of the library laid. -/
import Derived.Test.YteafbfgmdknaeaaDoorMgC
set_option linter.unusedVariables false
namespace Go.Proofs.YteafbfgmdknaeaaDoor
open Go.RowKit Go.PlainAid Gl L Vt
theorem rsame_yes (va vb : Value) (l : List Cmd) (w : World) (ha : Rw w va 4 l.length (flatC l)) (hb : Rw w vb 4 l.length (flatC l)) (hl : l.length ≤ 100000) :
    Calls Tryd.prog 13 #[va, vb] w fun e w' => e = .returned (.bool true) ∧ Below w.heap.size w w' :=
  (rsame_any va vb l l w ha hb hl hl).mono fun e w' ⟨he, hw⟩ => ⟨by rw [he, decide_eq_true (rfl : l = l)], hw⟩
set_option maxHeartbeats 4000000 in
theorem scanNext_law (s : ByteArray) (W : World) (T : Tabs W 1 2) : Calls Tryd.prog 3 #[.string s] W fun e w' => e = .returned (.bool true) ∧ Below W.heap.size W w' := by
  by_cases h1 : 1000 < s.size
  · have d1 : decide ((1000 : Int) < (s.size : Int)) = true := decide_eq_true (by omega)
    clear h1
    go_enter Tryd.func3, Tryd.ntmps3
    go_wp2
    go_ret
    exact ⟨rfl, Below.refl _ _⟩
  · have d1 : decide ((1000 : Int) < (s.size : Int)) = false := decide_eq_false (by omega)
    have HT := Lib.hid (fun w' hb => T.below (w' := w') hb)
    have HN := Lib.hid (snext_any s W T (by unfold maxLen; omega))
    have HR := Lib.hid (fun wz => rnext6_any s wz (by omega))
    have HE := Lib.hid (fun wz Tz => ex6_any wz Tz)
    clear T h1
    generalize nxS s = q at *
    obtain ⟨c, x, k⟩ := q
    go_enter Tryd.func3, Tryd.ntmps3
    go_wp2_with fail
    refine HN.out.mono ?_
    rintro e w1 ⟨rfl, hw1⟩
    unfold vN vC
    go_wp2_with fail
    refine (HR.out _).mono ?_
    rintro e w2 ⟨rfl, hw2⟩
    unfold vN vC
    have hz1 := (made4 hw2).2.2
    have hY := Lib.hid (made4 hw2)
    have hb2 := Lib.hid (hw1.trans ((bl1 hw2).mono hw1.size))
    clear hw1 hw2
    go_wp2_with fail
    refine (HE.out _ (HT.out _ (hb2.out.alloc hb2.out.size _))).mono ?_
    rintro e w3 ⟨rfl, hw3⟩
    obtain ⟨⟨y0, y1, y2, y3⟩, -, -⟩ := hY.out
    obtain ⟨⟨z0, z1, z2, z3⟩, -, -⟩ := made4 hw3
    have hb3 := Lib.hid (hb2.out.trans ((bl1 hw3).mono hb2.out.size))
    have B := old_cell (bl1 hw3)
    have x0 := (B w1.heap.size 0 hz1).trans y0
    have x1 := (B w1.heap.size 1 hz1).trans y1
    have x2 := (B w1.heap.size 2 hz1).trans y2
    have x3 := (B w1.heap.size 3 hz1).trans y3
    clear B y0 y1 y2 y3 hw3
    go_wp2
    go_ret
    exact ⟨rfl, hb3.out⟩
set_option maxHeartbeats 4000000 in
theorem scanAll_law (s : ByteArray) (W : World) (T : Tabs W 1 2) : Calls Tryd.prog 4 #[.string s] W fun e w' => e = .returned (.bool true) ∧ Below W.heap.size W w' := by
  by_cases h1 : 1000 < s.size
  · have d1 : decide ((1000 : Int) < (s.size : Int)) = true := decide_eq_true (by omega)
    clear h1
    go_enter Tryd.func4, Tryd.ntmps4
    go_wp2
    go_ret
    exact ⟨rfl, Below.refl _ _⟩
  · have d1 : decide ((1000 : Int) < (s.size : Int)) = false := decide_eq_false (by omega)
    have HT := Lib.hid (fun w' hb => T.below (w' := w') hb)
    have HN := Lib.hid (sall_any s W T (by omega))
    have HR := Lib.hid (fun wz => rall_any s wz (by omega))
    have HE := Lib.hid (fun wz Tz => ex6_any wz Tz)
    rcases all_some s.size s (Nat.le_refl _) with ⟨l, x, hA⟩ | hB
    · have hl : l.length ≤ 1000 := by
        have := btsL_one l hA.1
        have := congrArg ByteArray.size hA.2.1
        rw [size_app] at this; omega
      clear T h1
      go_enter Tryd.func4, Tryd.ntmps4
      go_wp2_with fail
      refine HN.out.mono ?_
      intro e w1 h
      obtain ⟨v, rfl, hr1, hw1⟩ := h.ok hA
      have HR1 := Lib.hid hr1
      clear h hr1
      go_wp2_with fail
      refine (HR.out _).mono ?_
      intro e w2 h
      obtain ⟨v2, rfl, hr2, hw2⟩ := h.ok hA
      have HR2 := Lib.hid hr2
      have HR1' := Lib.hid (HR1.out.below hw2)
      have hb2 := Lib.hid (hw1.trans (hw2.mono hw1.size))
      clear h hr2 hw1 hw2 HR1
      go_wp2_with fail
      refine (HE.out _ (HT.out _ hb2.out)).mono ?_
      rintro e w3 ⟨rfl, hw3⟩
      have HS := Lib.hid (rsame_yes v v2 l w3 (HR1'.out.below hw3) (HR2.out.below hw3) (by omega))
      have hb3 := Lib.hid (hb2.out.trans (hw3.mono hb2.out.size))
      clear hw3
      go_wp2_with fail
      refine HS.out.mono ?_
      rintro e w4 ⟨rfl, hw4⟩
      have hb4 := Lib.hid (hb3.out.trans (hw4.mono hb3.out.size))
      clear hw4
      go_wp2
      go_ret
      exact ⟨rfl, hb4.out⟩
    · clear T h1
      go_enter Tryd.func4, Tryd.ntmps4
      go_wp2_with fail
      refine HN.out.mono ?_
      intro e w1 h
      obtain ⟨rfl, hw1⟩ := h.bad hB
      clear h
      go_wp2_with fail
      refine (HR.out _).mono ?_
      intro e w2 h
      obtain ⟨rfl, hw2⟩ := h.bad hB
      have hb2 := Lib.hid (hw1.trans (hw2.mono hw1.size))
      clear h hw1 hw2
      go_wp2_with fail
      refine (HE.out _ (HT.out _ hb2.out)).mono ?_
      rintro e w3 ⟨rfl, hw3⟩
      have hnil : Rw w3 (.slice none 0 0) 4 ([] : List Cmd).length (flatC []) := Rw.of_owns (World.ownsRow_nil w3 0 23 4)
      have HS := Lib.hid (rsame_yes (.slice none 0 0) (.slice none 0 0) [] w3 hnil hnil (by decide))
      have hb3 := Lib.hid (hb2.out.trans (hw3.mono hb2.out.size))
      clear hw3 hnil
      go_wp2_with fail
      refine HS.out.mono ?_
      rintro e w4 ⟨rfl, hw4⟩
      have hb4 := Lib.hid (hb3.out.trans (hw4.mono hb3.out.size))
      clear hw4
      go_wp2
      go_ret
      exact ⟨rfl, hb4.out⟩
end Go.Proofs.YteafbfgmdknaeaaDoor
