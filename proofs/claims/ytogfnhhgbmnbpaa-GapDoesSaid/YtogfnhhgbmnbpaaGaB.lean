/- Lines with a point: are all of a row signs? (the program's, and the reference's). -/
import Derived.Test.YtogfnhhgbmnbpaaGaA
import Derived.Test.YtogfnhhgbmnbpaaGpP
import Derived.Test.YtogfnhhgbmnbpaaGlD
set_option linter.unusedVariables false
namespace Go.Proofs.Ytogfnhhgbmnbpaa
open Go.RowKit Go.PlainAid Gl L Gp
theorem Gp.al_snoc {l : List Int} {k : Nat} (h : k < l.length) : al (l.take (k + 1)) = (al (l.take k) && vld (l.getD k 0)) := by
  rw [take_snoc h, al_app]; simp [al]
theorem Gp.al_no {l : List Int} {k : Nat} (h : k < l.length) (hv : vld (l.getD k 0) = false) : al l = false := by
  have e := al_snoc h
  rw [hv, Bool.and_false] at e
  cases ha : al l
  · rfl
  · rw [al_take _ _ ha] at e; cases e
theorem signs_any (v : Value) (l : List Int) (w : World) (hr : IsRow w v .i32 l) (hl : l.length ≤ maxLen) : Calls Try.prog 25 #[v] w fun e w' => e = .returned (.bool (al l)) ∧ Below w.heap.size w w' := by
  obtain ⟨A, cap, rfl, hc⟩ := hr
  unfold maxLen at hl
  go_enter Try.func25, Try.ntmps25
  go_wp2
  go_loopw [7] (fun i wr => ∃ k : Nat, k ≤ l.length ∧ i = .int .i64 k ∧ al (l.take k) = true ∧ Below w.heap.size w wr) (fun i _ => l.length - (intOf i).toNat)
  case atStart => exact ⟨0, Nat.zero_le _, rfl, rfl, Below.refl _ _⟩
  case round =>
    obtain ⟨k, hk, rfl, heq, hw⟩ := hrel
    have HQ := Lib.hid heq
    clear heq
    by_cases hlt : k < l.length
    · rcases hc with rfl | ⟨b1, off1, rfl, hca⟩
      · simp at hlt
      have c1 : wr.cell? ⟨b1, off1 + k, none⟩ = some (.int .i32 (l.getD k 0)) := by
        rw [hw.cell (World.block_lt_of_cell? w _ (hca k hlt))]; exact hca k hlt
      have HS := Lib.hid (al_snoc hlt)
      have HN := Lib.hid (@Gp.al_no l k hlt)
      clear hca
      generalize hx : l.getD k 0 = x at c1 HS HN
      clear hx
      cases hv : vld x
      · go_wp2_with fail
        refine (is_any _ _).mono ?_
        rintro e w1 ⟨rfl, rfl⟩
        rw [hv]
        go_wp2
        go_ret
        exact ⟨ret_bool (HN.out hv).symm, hw⟩
      · go_wp2_with fail
        refine (is_any _ _).mono ?_
        rintro e w1 ⟨rfl, rfl⟩
        rw [hv]
        go_wp2
        go_roundw
        case rel => exact ⟨k + 1, by omega, by go_num, by rw [HS.out, HQ.out, hv]; rfl, hw⟩
        case measure => simp [intOf]; omega
    · go_wp2
      go_ret
      refine ⟨ret_bool ?_, hw⟩
      have := HQ.out
      rw [List.take_of_length_le (by omega)] at this
      exact this.symm
theorem rall_any (v : Value) (l : List Int) (w : World) (hr : IsRow w v .i32 l) (hl : l.length ≤ maxLen) : Calls Try.prog 24 #[v] w fun e w' => e = .returned (.bool (al l)) ∧ Below w.heap.size w w' := by
  obtain ⟨A, cap, rfl, hc⟩ := hr
  unfold maxLen at hl
  go_enter Try.func24, Try.ntmps24
  go_wp2
  go_loopw [3] (fun i wr => ∃ k : Nat, k ≤ l.length ∧ i = .int .i64 k ∧ al (l.take k) = true ∧ Below w.heap.size w wr) (fun i _ => l.length - (intOf i).toNat)
  case atStart => exact ⟨0, Nat.zero_le _, rfl, rfl, Below.refl _ _⟩
  case round =>
    obtain ⟨k, hk, rfl, heq, hw⟩ := hrel
    have HQ := Lib.hid heq
    clear heq
    by_cases hlt : k < l.length
    · rcases hc with rfl | ⟨b1, off1, rfl, hca⟩
      · simp at hlt
      have c1 : wr.cell? ⟨b1, off1 + k, none⟩ = some (.int .i32 (l.getD k 0)) := by
        rw [hw.cell (World.block_lt_of_cell? w _ (hca k hlt))]; exact hca k hlt
      have HS := Lib.hid (al_snoc hlt)
      have HN := Lib.hid (@Gp.al_no l k hlt)
      clear hca
      generalize hx : l.getD k 0 = x at c1 HS HN
      clear hx
      cases hv : vld x
      · go_wp2_with fail
        refine (ris_any _ _).mono ?_
        rintro e w1 ⟨rfl, rfl⟩
        rw [hv]
        go_wp2
        go_ret
        exact ⟨ret_bool (HN.out hv).symm, hw⟩
      · go_wp2_with fail
        refine (ris_any _ _).mono ?_
        rintro e w1 ⟨rfl, rfl⟩
        rw [hv]
        go_wp2
        go_roundw
        case rel => exact ⟨k + 1, by omega, by go_num, by rw [HS.out, HQ.out, hv]; rfl, hw⟩
        case measure => simp [intOf]; omega
    · go_wp2
      go_ret
      refine ⟨ret_bool ?_, hw⟩
      have := HQ.out
      rw [List.take_of_length_le (by omega)] at this
      exact this.symm
end Go.Proofs.Ytogfnhhgbmnbpaa
