/- The contracts of glyph.Decode and of the reference's Decode, of Same, of both Encode. -/
import Derived.Test.YtogfnhhgbmnbpaaMGn
import Derived.Test.YtogfnhhgbmnbpaaMGp
import Derived.BigQuiet
import Derived.Laws.Cover4
set_option linter.unusedVariables false
namespace Go.Proofs.Ytogfnhhgbmnbpaa
open Go.RowKit Go.PlainAid Gl L
theorem Try.info21 : (Try.prog.info? 21).map (fun i => (i.zero, i.size, i.bytes)) = some (some (.int .i32 0), 1, 4) := by kernel_rfl
namespace Gl
theorem enc_bad (r : Int) (h : vld r = false) : Utf8.encode r = ⟨#[239, 191, 189]⟩ := by
  unfold Utf8.encode
  rw [vld_eq, h]
  simp [Utf8.runeError]
theorem runes_snoc (l : List Int) (x : Int) : runesBytes (l ++ [x]) = runesBytes l ++ Utf8.encode x := by
  unfold runesBytes; rw [List.foldl_append]; rfl
theorem take_snoc {l : List Int} {k : Nat} (h : k < l.length) : l.take (k + 1) = l.take k ++ [l.getD k 0] := by
  rw [List.take_succ_eq_append_getElem h]; simp [List.getD, h]
end Gl
set_option maxHeartbeats 1000000 in
theorem same_any (a b : Value) (xs ys : List Int) (w : World) (ha : IsRow w a .i32 xs) (hb : IsRow w b .i32 ys) (hl : xs.length ≤ 1000000000) (hl' : ys.length ≤ 1000000000) :
   Calls Try.prog 15 #[a, b] w fun e w' => e = .returned (.bool (decide (xs = ys))) ∧ Below w.heap.size w w' := by
  obtain ⟨A, capa, rfl, ha⟩ := ha
  obtain ⟨B, capb, rfl, hb⟩ := hb
  by_cases hne : xs.length = ys.length
  · rw [← hne]
    go_enter Try.func15, Try.ntmps15
    go_wp2
    go_loopw [5] (fun i wr => ∃ k : Nat, k ≤ xs.length ∧ i = .int .i64 k ∧ xs.take k = ys.take k ∧ Below w.heap.size w wr) (fun i _ => xs.length - (intOf i).toNat)
    case atStart => exact ⟨0, Nat.zero_le _, rfl, rfl, Below.refl _ _⟩
    case round =>
      obtain ⟨k, hk, rfl, heq, hw⟩ := hrel
      have HQ := Lib.hid heq
      have HN := Lib.hid hne
      clear heq hne
      by_cases hlt : k < xs.length
      · rcases ha with rfl | ⟨b1, off1, rfl, hca⟩
        · simp at hlt
        rcases hb with rfl | ⟨b2, off2, rfl, hcb⟩
        · have := HN.out; simp only [List.length_nil] at this; omega
        have c1 : wr.cell? ⟨b1, off1 + k, none⟩ = some (.int .i32 (xs.getD k 0)) := by
          rw [hw.cell (World.block_lt_of_cell? w _ (hca k hlt))]; exact hca k hlt
        have hlt' : k < ys.length := by have := HN.out; omega
        have c2 : wr.cell? ⟨b2, off2 + k, none⟩ = some (.int .i32 (ys.getD k 0)) := by
          rw [hw.cell (World.block_lt_of_cell? w _ (hcb k hlt'))]; exact hcb k hlt'
        clear hca hcb
        have t1 := take_snoc hlt
        have t2 := take_snoc hlt'
        have HT := Lib.hid (And.intro t1 t2)
        clear t1 t2
        generalize hx : xs.getD k 0 = x at c1 HT
        generalize hy : ys.getD k 0 = y at c2 HT
        have HX := Lib.hid hx
        have HY := Lib.hid hy
        clear hx hy
        by_cases he : x = y
        · subst he
          go_wp2
          go_quiet (fail)
          go_wp2
          go_roundw
          case rel => exact ⟨k + 1, by omega, by go_num, by rw [HT.out.1, HT.out.2, HQ.out], below_drewN hw _⟩
          case measure => simp [intOf]; omega
        · have he' : (x == y) = false := by simpa using he
          have he'' : (x != y) = true := by simpa using he
          have HE := Lib.hid he
          clear he
          go_wp2
          go_quiet (fail)
          go_wp2
          go_ret
          refine ⟨ret_bool ?_, below_drewN hw _⟩
          symm
          rw [decide_eq_false_iff_not]
          rintro rfl
          exact HE.out (HX.out.symm.trans HY.out)
      · go_wp2
        go_ret
        refine ⟨ret_bool ?_, hw⟩
        symm
        rw [decide_eq_true_iff]
        have h1 := HQ.out
        have h2 := HN.out
        rw [List.take_of_length_le (i := k) (l := xs) (by omega), List.take_of_length_le (i := k) (l := ys) (by omega)] at h1
        exact h1
  · have h1 : ((xs.length : Int) == ys.length) = false := by simp; omega
    have h2 : ((xs.length : Int) != ys.length) = true := by simp; omega
    have HN := Lib.hid hne
    clear hne
    go_enter Try.func15, Try.ntmps15
    go_wp2
    go_ret
    refine ⟨ret_bool ?_, Below.refl _ _⟩
    symm
    rw [decide_eq_false_iff_not]
    rintro rfl
    exact HN.out rfl
end Go.Proofs.Ytogfnhhgbmnbpaa
