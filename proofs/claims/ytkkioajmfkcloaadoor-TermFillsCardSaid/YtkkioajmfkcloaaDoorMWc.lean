/- The contracts of wide: Is, Same. -/
import Derived.Test.YtkkioajmfkcloaaDoorMWb
import Derived.BigQuiet
/- The contracts of both Is: any cell. -/
set_option linter.unusedVariables false
namespace Go.Proofs.YtkkioajmfkcloaaDoor
open Go.RowKit Gl L Wd
theorem wis_any (r k : Int) (w : World) (S : Spans w 2) : Calls Tryd.prog 39 #[.agg #[.int .i32 r, .int .i64 k]] w fun e w' => e = .returned (.bool (Wd.ok r k)) ∧ Below w.heap.size w w' := by
  cases h3 : shw r
  · have H3 := Lib.hid h3
    clear h3
    go_enter Tryd.func39, Tryd.ntmps39
    go_wp2_with fail
    refine (shown_any _ _).mono ?_
    rintro e w1 ⟨rfl, rfl⟩
    rw [H3.out]
    go_wp2
    go_ret
    exact ⟨ret_bool (by unfold Wd.ok; rw [H3.out]; rfl), (Below.refl _ _).alloc (Nat.le_refl _) _⟩
  · have H3 := Lib.hid h3
    clear h3
    cases h4 : wid r
    all_goals
      have H4 := Lib.hid h4
      clear h4
      go_enter Tryd.func39, Tryd.ntmps39
      go_wp2_with fail
      refine (shown_any _ _).mono ?_
      rintro e w1 ⟨rfl, rfl⟩
      rw [H3.out]
      go_wp2_with fail
      refine (wide_any _ _ (S.below ((Below.refl _ _).alloc (Nat.le_refl _) _))).mono ?_
      rintro e w1 ⟨rfl, hw1⟩
      rw [H4.out]
      have hc1 := old_cell hw1
      go_wp2
      all_goals go_ret
      all_goals refine ⟨ret_bool ?_, ((Below.refl _ _).alloc (Nat.le_refl _) _).trans (hw1.mono (by simp))⟩
      all_goals unfold Wd.ok
      all_goals rw [H3.out, H4.out, Bool.eq_iff_iff]
      all_goals first | (simp; done) | (simp; omega)
theorem ris2_any (r k : Int) (w : World) : Calls Tryd.prog 42 #[.agg #[.int .i32 r, .int .i64 k]] w fun e w' => e = .returned (.bool (Wd.ok r k)) ∧ Below w.heap.size w w' := by
  cases h3 : shw r
  · have H3 := Lib.hid h3
    clear h3
    go_enter Tryd.func42, Tryd.ntmps42
    go_wp2_with fail
    refine (rshown_any _ _).mono ?_
    rintro e w1 ⟨rfl, rfl⟩
    rw [H3.out]
    go_wp2
    go_ret
    exact ⟨ret_bool (by unfold Wd.ok; rw [H3.out]; rfl), (Below.refl _ _).alloc (Nat.le_refl _) _⟩
  · have H3 := Lib.hid h3
    clear h3
    cases h4 : wid r
    all_goals
      have H4 := Lib.hid h4
      clear h4
      go_enter Tryd.func42, Tryd.ntmps42
      go_wp2_with fail
      refine (rshown_any _ _).mono ?_
      rintro e w1 ⟨rfl, rfl⟩
      rw [H3.out]
      go_wp2_with fail
      refine (rwide_any _ _).mono ?_
      rintro e w1 ⟨rfl, rfl⟩
      rw [H4.out]
      go_wp2
      all_goals go_ret
      all_goals refine ⟨ret_bool ?_, (Below.refl _ _).alloc (Nat.le_refl _) _⟩
      all_goals unfold Wd.ok
      all_goals rw [H3.out, H4.out, Bool.eq_iff_iff]
      all_goals first | (simp; done) | (simp; omega)
end Go.Proofs.YtkkioajmfkcloaaDoor
/- The contract of the reference's Same, at rows of cells. -/
set_option linter.unusedVariables false
namespace Go.Proofs.YtkkioajmfkcloaaDoor
open Go.RowKit Gl L Wd
namespace Wd
theorem flat_len (l : List (Int × Int)) : (flat l).length = l.length * 2 := by
  induction l with
  | nil => rfl
  | cons a l ih => simp only [flat, List.flatMap_cons, List.length_append] at ih ⊢; rw [ih]; simp; omega
theorem flat_append (l m : List (Int × Int)) : flat (l ++ m) = flat l ++ flat m := by simp [flat]
theorem flat_at (l : List (Int × Int)) (k : Nat) (h : k < l.length) : (flat l)[k * 2]? = some (.int .i32 (l.getD k (0, 0)).1) ∧ (flat l)[k * 2 + 1]? = some (.int .i64 (l.getD k (0, 0)).2) := by
  induction l generalizing k with
  | nil => simp at h
  | cons a l ih =>
    cases k with
    | zero => exact ⟨rfl, rfl⟩
    | succ k =>
      have := ih k (by simpa using h)
      have e : flat (a :: l) = Value.int .i32 a.1 :: Value.int .i64 a.2 :: flat l := rfl
      rw [e, show (k + 1) * 2 = k * 2 + 1 + 1 by omega]
      simpa using this
theorem take_snoc2 {α : Type} {l : List α} {k : Nat} {d : α} (h : k < l.length) : l.take (k + 1) = l.take k ++ [l.getD k d] := by
  rw [List.take_succ_eq_append_getElem h]; simp [List.getD, h]
end Wd
theorem below_drewN' {B : Nat} {a w : World} (h : Below B a w) (n : Nat) : Below B a (w.drewN n) := ⟨h.os, h.tape, h.output, h.size, h.block⟩
set_option maxHeartbeats 1000000 in
/-- Same, at rows of cells. -/
theorem same2_any (v1 v2 : Value) (l1 l2 : List (Int × Int)) (w : World) (h1 : Rw w v1 2 l1.length (flat l1)) (h2 : Rw w v2 2 l2.length (flat l2)) (m1 : l1.length ≤ 1000000000) (m2 : l2.length ≤ 1000000000) :
    Calls Tryd.prog 21 #[v1, v2] w fun e w' => e = .returned (.bool (decide (l1 = l2))) ∧ Below w.heap.size w w' := by
  obtain ⟨_, A1, c1, rfl, h1⟩ := h1
  obtain ⟨_, A2, c2, rfl, h2⟩ := h2
  by_cases hne : l1.length = l2.length
  · rw [← hne]
    go_enter Tryd.func21, Tryd.ntmps21
    go_wp2
    go_loopw [5] (fun i wr => ∃ k : Nat, k ≤ l1.length ∧ i = .int .i64 k ∧ l1.take k = l2.take k ∧ Below w.heap.size w wr) (fun i _ => l1.length - (intOf i).toNat)
    case atStart => exact ⟨0, Nat.zero_le _, rfl, rfl, Below.refl _ _⟩
    case round =>
      obtain ⟨k, hk, rfl, heq, hw⟩ := hrel
      have HQ := Lib.hid heq
      have HN := Lib.hid hne
      clear heq hne
      by_cases hlt : k < l1.length
      · have hlt' : k < l2.length := by have := HN.out; omega
        rcases h1 with ⟨h1, _⟩ | ⟨b1, off1, rfl, hca⟩
        · omega
        rcases h2 with ⟨h2, _⟩ | ⟨b2, off2, rfl, hcb⟩
        · have := HN.out; omega
        have keep : ∀ {b o u}, w.cell? ⟨b, o, none⟩ = some u → wr.cell? ⟨b, o, none⟩ = some u := fun {b o u} hu => by
          rw [hw.cell (World.block_lt_of_cell? w _ hu)]; exact hu
        have p1 := keep (hca _ _ (flat_at l1 k hlt).1)
        have q1 := keep (hca _ _ (flat_at l1 k hlt).2)
        have p2 := keep (hcb _ _ (flat_at l2 k hlt').1)
        have q2 := keep (hcb _ _ (flat_at l2 k hlt').2)
        rw [← Nat.add_assoc] at q1 q2
        clear hca hcb keep
        have HT := Lib.hid (And.intro (take_snoc2 (d := (0, 0)) hlt) (take_snoc2 (d := (0, 0)) hlt'))
        generalize hx : l1.getD k (0, 0) = x at p1 q1 HT
        generalize hy : l2.getD k (0, 0) = y at p2 q2 HT
        have HX := Lib.hid hx
        have HY := Lib.hid hy
        clear hx hy
        obtain ⟨x1, x2⟩ := x
        obtain ⟨y1, y2⟩ := y
        simp only at p1 q1 p2 q2
        by_cases he : x1 = y1 ∧ x2 = y2
        · obtain ⟨rfl, rfl⟩ := he
          go_wp2
          go_quiet (fail)
          go_wp2
          go_roundw
          case rel => exact ⟨k + 1, by omega, by go_num, by rw [HT.out.1, HT.out.2, HQ.out], below_drewN' hw _⟩
          case measure => simp [intOf]; omega
        · have HE := Lib.hid he
          rcases (show x1 ≠ y1 ∨ x1 = y1 ∧ x2 ≠ y2 by omega) with h | ⟨rfl, h⟩
          all_goals
            have hb := beq_eq_false_iff_ne.2 h
            clear h he
            go_wp2
            go_quiet (fail)
            go_wp2
            go_ret
            refine ⟨ret_bool ?_, below_drewN' hw _⟩
            symm
            rw [decide_eq_false_iff_not]
            rintro rfl
            have := HX.out.symm.trans HY.out
            simp only [Prod.mk.injEq] at this
            exact HE.out this
      · go_wp2
        go_ret
        refine ⟨ret_bool ?_, hw⟩
        have : k = l1.length := by omega
        subst this
        have := HQ.out
        have hn := HN.out
        symm
        rw [decide_eq_true_iff]
        rwa [List.take_length, hn, List.take_length] at this
  · have hb : (((l1.length : Int)) == (l2.length : Int)) = false := by simpa using (by omega : ¬ (l1.length : Int) = l2.length)
    have HN := Lib.hid hne
    go_enter Tryd.func21, Tryd.ntmps21
    go_wp2
    go_ret
    refine ⟨ret_bool ?_, Below.refl _ _⟩
    symm
    rw [decide_eq_false_iff_not]
    rintro rfl
    exact HN.out rfl
end Go.Proofs.YtkkioajmfkcloaaDoor
