/- The contract of the reference's Pads: rows of at most 100000 commands. -/
import Derived.Test.YtgpebdoafblacaaDoorMVr
import Derived.Test.YtgpebdoafblacaaDoorMVq
set_option linter.unusedVariables false
namespace Go.Proofs.YtgpebdoafblacaaDoor
open Go.RowKit Gl L Vt
theorem pads_rest (k a b r : Int) : pads k a b r = if isC k a b r = true ∧ (k = 7 ∨ k = 8) then k - 6 else 0 := by
  unfold pads
  split
  · by_cases h7 : k = 7
    · subst h7; simp [*]
    · by_cases h8 : k = 8
      · subst h8; simp [*]
      · simp [*]
  · simp [*]
set_option maxHeartbeats 2000000 in
theorem rpads_any (v : Value) (l : List Cmd) (w : World) (hr : Rw w v 4 l.length (flatC l)) (hl : l.length ≤ 100000) : Calls Tryd.prog 40 #[v] w fun e w' => e = .returned (.int .i64 (padL l)) ∧ Below w.heap.size w w' := by
  obtain ⟨A, cap, rfl, hc⟩ := cmds_row hr
  have hC := Lib.hid hc
  have hB := Lib.hid (fun i => padL_bd (l.take i))
  clear hc hr
  go_enter Tryd.func40, Tryd.ntmps40
  go_wp2
  go_loopw [3, 4] (fun s i wr => ∃ k : Nat, k ≤ l.length ∧ i = .int .i64 k ∧ s = .int .i64 (padL (l.take k)) ∧ Below w.heap.size w wr) (fun _ i _ => l.length - (intOf i).toNat)
  case atStart => exact ⟨0, by omega, rfl, rfl, Below.refl _ _⟩
  case round =>
    obtain ⟨k, hk, rfl, rfl, hw⟩ := hrel
    by_cases hlt : k < l.length
    · rcases hC.out with h0 | ⟨g, off, rfl, hcc⟩
      · omega
      obtain ⟨e0, e1, e2, e3⟩ := hcc k hlt
      have g0 := World.block_lt_of_cell? w _ e0
      rw [← old_cell hw _ _ g0] at e0 e1 e2 e3
      have gr : g < wr.heap.size := Nat.lt_of_lt_of_le g0 hw.size
      have hN := Lib.hid (padL_next l k hlt)
      have hb := hB.out k
      rw [List.length_take] at hb
      have hT := Lib.hid (fun wz => ris5_any (cK l k) (cA l k) (cB l k) (cR l k) wz)
      have hP := Lib.hid (pads_rest (cK l k) (cA l k) (cB l k) (cR l k))
      clear hcc hB hC
      cases h : isC (cK l k) (cA l k) (cB l k) (cR l k)
      · have hP0 : pads (cK l k) (cA l k) (cB l k) (cR l k) = 0 := by rw [hP.out, h]; simp
        have HP := Lib.hid hP0
        have HI := Lib.hid h
        clear h hP0 hP
        go_wp2_with fail
        refine (hT.out _).mono ?_
        rintro e w1 ⟨rfl, hw1⟩
        rw [HI.out]
        have hwb := hw.trans (hw1.mono hw.size)
        go_wp2 <;> (go_roundw; (case rel => exact ⟨k + 1, by omega, by go_num, by rw [hN.out, HP.out]; simp, hwb⟩); (case measure => simp [intOf]; omega))
      · have HI := Lib.hid h
        have h7 : cK l k = 7 ∨ cK l k = 8 ∨ (cK l k ≠ 7 ∧ cK l k ≠ 8) := by omega
        clear h
        generalize hk7 : cK l k = kk at *
        clear hk7
        rcases h7 with rfl | rfl | ⟨n7, n8⟩
        · have HP := Lib.hid (show pads 7 (cA l k) (cB l k) (cR l k) = 1 by rw [hP.out, HI.out]; rfl)
          go_wp2_with fail
          refine (hT.out _).mono ?_
          rintro e w1 ⟨rfl, hw1⟩
          rw [HI.out]
          have hwb := hw.trans (hw1.mono hw.size)
          have hc1 := old_cell hw1
          go_wp2 <;> (go_roundw; (case rel => exact ⟨k + 1, by omega, by go_num, by rw [hN.out, HP.out]; refine congrArg _ ?_; omega, hwb⟩); (case measure => simp [intOf]; omega))
        · have HP := Lib.hid (show pads 8 (cA l k) (cB l k) (cR l k) = 2 by rw [hP.out, HI.out]; rfl)
          go_wp2_with fail
          refine (hT.out _).mono ?_
          rintro e w1 ⟨rfl, hw1⟩
          rw [HI.out]
          have hwb := hw.trans (hw1.mono hw.size)
          have hc1 := old_cell hw1
          go_wp2 <;> (go_roundw; (case rel => exact ⟨k + 1, by omega, by go_num, by rw [hN.out, HP.out]; refine congrArg _ ?_; omega, hwb⟩); (case measure => simp [intOf]; omega))
        · have HP := Lib.hid (show pads kk (cA l k) (cB l k) (cR l k) = 0 by rw [hP.out, if_neg (by omega)])
          have b7 : (kk == 7) = false := by simpa using n7
          have b8 : (kk == 8) = false := by simpa using n8
          clear n7 n8
          go_wp2_with fail
          refine (hT.out _).mono ?_
          rintro e w1 ⟨rfl, hw1⟩
          rw [HI.out]
          have hwb := hw.trans (hw1.mono hw.size)
          have hc1 := old_cell hw1
          go_wp2 <;> (go_roundw; (case rel => exact ⟨k + 1, by omega, by go_num, by rw [hN.out, HP.out]; refine congrArg _ ?_; omega, hwb⟩); (case measure => simp [intOf]; omega))
    · obtain rfl : k = l.length := by omega
      rw [List.take_length]
      clear hlt
      go_wp2
      go_ret
      exact ⟨rfl, hw⟩
end Go.Proofs.YtgpebdoafblacaaDoor
