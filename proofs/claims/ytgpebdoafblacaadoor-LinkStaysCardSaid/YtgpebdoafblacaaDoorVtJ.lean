/- The contracts of vt's Pads and of the reference's Cost: rows of at most 100000 commands. Condition: the table of the kinds with one form as the program lays it. -/
import Derived.Test.YtgpebdoafblacaaDoorVtV
set_option linter.unusedVariables false
namespace Go.Proofs.YtgpebdoafblacaaDoor
open Go.RowKit Gl L Vt
set_option maxHeartbeats 2000000 in
theorem vpads_any (v : Value) (l : List Cmd) (w : World) (F : Forms w 0) (hr : Rw w v 4 l.length (flatC l)) (hl : l.length ≤ 100000) : Calls Tryd.prog 44 #[v] w fun e w' => e = .returned (.int .i64 (padL l)) ∧ Below w.heap.size w w' := by
  obtain ⟨A, cap, rfl, hc⟩ := cmds_row hr
  have hC := Lib.hid hc
  have HF := Lib.hid F
  have hB := Lib.hid (fun i => padL_bd (l.take i))
  clear hc hr F
  go_enter Tryd.func44, Tryd.ntmps44
  go_wp2
  go_loopw [10, 3] (fun i s wr => ∃ k : Nat, k ≤ l.length ∧ i = .int .i64 k ∧ s = .int .i64 (padL (l.take k)) ∧ Below w.heap.size w wr) (fun i _ _ => l.length - (intOf i).toNat)
  case atStart => exact ⟨0, by omega, rfl, rfl, Below.refl _ _⟩
  case round =>
    obtain ⟨k, hk, rfl, rfl, hw⟩ := hrel
    by_cases hlt : k < l.length
    · rcases hC.out with h0 | ⟨g, off, rfl, hcc⟩
      · omega
      obtain ⟨e0, e1, e2, e3⟩ := hcc k hlt
      have g0 := World.block_lt_of_cell? w _ e0
      rw [← old_cell hw _ _ g0] at e0 e1 e2 e3
      have hN := Lib.hid (padL_next l k hlt)
      have hS := pads_bd (cK l k) (cA l k) (cB l k) (cR l k)
      have hb := hB.out k
      rw [List.length_take] at hb
      have hT := Lib.hid (fun wz hf => told_any (cK l k) (cA l k) (cB l k) (cR l k) wz hf)
      clear hcc hB hC
      have HG := Lib.hid (fun (x : Obj) => (HF.out.below hw).below ((Below.refl _ _).alloc (Nat.le_refl _) x))
      go_wp2_with fail
      refine (hT.out _ (HG.out _)).mono ?_
      rintro e w1 ⟨rfl, hw1⟩
      unfold tld
      have hwb := hw.trans ((bl1 hw1).mono hw.size)
      go_wp2
      go_roundw
      case rel => exact ⟨k + 1, by omega, by go_num, by rw [hN.out], hwb.alloc hwb.size _⟩
      case measure => simp [intOf]; omega
    · obtain rfl : k = l.length := by omega
      rw [List.take_length]
      clear hlt
      go_wp2
      go_ret
      exact ⟨rfl, hw⟩
set_option maxHeartbeats 2000000 in
theorem rcost_any (v : Value) (l : List Cmd) (w : World) (hr : Rw w v 4 l.length (flatC l)) (hl : l.length ≤ 100000) : Calls Tryd.prog 35 #[v] w fun e w' => e = .returned (.int .i64 (costL l)) ∧ Below w.heap.size w w' := by
  obtain ⟨A, cap, rfl, hc⟩ := cmds_row hr
  have hC := Lib.hid hc
  have hB := Lib.hid (fun i => costL_bd (l.take i))
  clear hc hr
  go_enter Tryd.func35, Tryd.ntmps35
  go_wp2
  go_loopw [3, 4] (fun s i wr => ∃ k : Nat, k ≤ l.length ∧ i = .int .i64 k ∧ s = .int .i64 (costL (l.take k)) ∧ Below w.heap.size w wr) (fun _ i _ => l.length - (intOf i).toNat)
  case atStart => exact ⟨0, by omega, rfl, rfl, Below.refl _ _⟩
  case round =>
    obtain ⟨k, hk, rfl, rfl, hw⟩ := hrel
    by_cases hlt : k < l.length
    · rcases hC.out with h0 | ⟨g, off, rfl, hcc⟩
      · omega
      obtain ⟨e0, e1, e2, e3⟩ := hcc k hlt
      have g0 := World.block_lt_of_cell? w _ e0
      rw [← old_cell hw _ _ g0] at e0 e1 e2 e3
      have hN := Lib.hid (costL_next l k hlt)
      have hS := bts_size (cK l k) (cA l k) (cB l k) (cR l k)
      have hb := hB.out k
      rw [List.length_take] at hb
      have hT := Lib.hid (fun wz => rput5_any (cK l k) (cA l k) (cB l k) (cR l k) wz)
      clear hcc hB hC
      go_wp2_with fail
      refine (hT.out _).mono ?_
      rintro e w1 ⟨rfl, hw1⟩
      unfold pv
      have hwb := hw.trans (hw1.mono hw.size)
      go_wp2
      go_roundw
      case rel => exact ⟨k + 1, by omega, by go_num, by rw [hN.out]; go_num, hwb⟩
      case measure => simp [intOf]; omega
    · obtain rfl : k = l.length := by omega
      rw [List.take_length]
      clear hlt
      go_wp2
      go_ret
      exact ⟨rfl, hw⟩
end Go.Proofs.YtgpebdoafblacaaDoor
