/- The contract of the reference Same, at rows of places. -/
import Derived.Test.YtjojbhlhfjaacaaDoorFlB
set_option linter.unusedVariables false
namespace Go.Proofs.YtjojbhlhfjaacaaDoor
open Go.RowKit Gl L Wd Fl
set_option maxHeartbeats 1000000 in
/-- Same, at rows of places. -/
theorem same4_any (v1 v2 : Value) (l1 l2 : List Int) (w : World) (h1 : IsRow w v1 .i64 l1) (h2 : IsRow w v2 .i64 l2) (m1 : l1.length ≤ 1000000000) (m2 : l2.length ≤ 1000000000) :
    Calls Tryd.prog 14 #[v1, v2] w fun e w' => e = .returned (.bool (decide (l1 = l2))) ∧ Below w.heap.size w w' := by
  obtain ⟨A1, c1, rfl, h1⟩ := h1
  obtain ⟨A2, c2, rfl, h2⟩ := h2
  by_cases hne : l1.length = l2.length
  · rw [← hne]
    go_enter Tryd.func14, Tryd.ntmps14
    go_wp2
    go_loopw [5] (fun i wr => ∃ k : Nat, k ≤ l1.length ∧ i = .int .i64 k ∧ l1.take k = l2.take k ∧ Below w.heap.size w wr) (fun i _ => l1.length - (intOf i).toNat)
    case atStart => exact ⟨0, Nat.zero_le _, rfl, rfl, Below.refl _ _⟩
    case round =>
      obtain ⟨k, hk, rfl, heq, hw⟩ := hrel
      have HQ := Lib.hid heq
      have HN := Lib.hid hne
      clear heq hne
      by_cases hlt : k < l1.length
      · have hlt' : k < l2.length := by have := HN.out; omega
        rcases h1 with h1 | ⟨b1, off1, rfl, hca⟩
        · rw [h1] at hlt; simp at hlt
        rcases h2 with h2 | ⟨b2, off2, rfl, hcb⟩
        · rw [h2] at hlt'; simp at hlt'
        have p1 : wr.cell? ⟨b1, off1 + k, none⟩ = some (.int .i64 (l1.getD k 0)) := by
          rw [hw.cell (World.block_lt_of_cell? w _ (hca k hlt))]; exact hca k hlt
        have p2 : wr.cell? ⟨b2, off2 + k, none⟩ = some (.int .i64 (l2.getD k 0)) := by
          rw [hw.cell (World.block_lt_of_cell? w _ (hcb k hlt'))]; exact hcb k hlt'
        clear hca hcb
        have HT := Lib.hid (And.intro (take_snoc2 (d := 0) hlt) (take_snoc2 (d := 0) hlt'))
        generalize hx : l1.getD k 0 = x at p1 HT
        generalize hy : l2.getD k 0 = y at p2 HT
        have HX := Lib.hid hx
        have HY := Lib.hid hy
        clear hx hy
        by_cases he : x = y
        · subst he
          go_wp2
          go_quiet (fail)
          go_wp2
          go_roundw
          case rel => exact ⟨k + 1, by omega, by go_num, by rw [HT.out.1, HT.out.2, HQ.out], below_drewN' hw _⟩
          case measure => simp [intOf]; omega
        · have HE := Lib.hid he
          have hb := beq_eq_false_iff_ne.2 he
          clear he
          go_wp2
          go_quiet (fail)
          go_wp2
          go_ret
          refine ⟨ret_bool ?_, below_drewN' hw _⟩
          symm
          rw [decide_eq_false_iff_not]
          rintro rfl
          exact HE.out (HX.out.symm.trans HY.out)
      · go_wp2
        go_ret
        refine ⟨ret_bool ?_, hw⟩
        have : k = l1.length := by omega
        subst this
        have := HQ.out
        have hn := HN.out
        symm
        rw [decide_eq_true_iff]
        rwa [List.take_length, hn, List.take_length] at this
  · have hb : (((l1.length : Int)) == (l2.length : Int)) = false := by simpa using (by omega : ¬ (l1.length : Int) = l2.length)
    have HN := Lib.hid hne
    go_enter Tryd.func14, Tryd.ntmps14
    go_wp2
    go_ret
    refine ⟨ret_bool ?_, Below.refl _ _⟩
    symm
    rw [decide_eq_false_iff_not]
    rintro rfl
    exact HN.out rfl
end Go.Proofs.YtjojbhlhfjaacaaDoor
