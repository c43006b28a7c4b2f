/- The contract of the reference's Next of commands. -/
import Derived.Test.YtkkioajmfkcloaaGreatDoorMSc
import Derived.RegionTactic
import Derived.ChangeAlike
set_option linter.unusedVariables false
namespace Go.Proofs.YtkkioajmfkcloaaGreatDoor
open Go.RowKit Go.PlainAid Gl L Vt
namespace Vt
/-- None of the shorter fronts is whole. -/
def NoFront (s : ByteArray) (m : Nat) : Prop := ∀ j, 1 ≤ j → j < m → wholeB (pre s j) = false
theorem NoFront.next {s : ByteArray} {m : Nat} (h : NoFront s m) (h' : wholeB (pre s m) = false) : NoFront s (m + 1) := fun j h1 hj => by
  by_cases e : j = m
  · rw [e]; exact h'
  · exact h j h1 (by omega)
theorem nxS_front {s : ByteArray} {m : Nat} (h : NoFront s m) (h1 : 1 ≤ m) (h8 : m ≤ 8) (hs : m ≤ s.size) (hw : wholeB (pre s m) = true) : nxS s = (mbR (pre s m), suf s m, 0) := by
  have hf : (List.range' 1 (min 8 s.size)).find? (fun n => wholeB (pre s n)) = some m := by
    rw [List.find?_eq_some_iff_append]
    refine ⟨hw, List.range' 1 (m - 1), List.range' (m + 1) (min 8 s.size - m), ?_, fun j hj => by
      rw [List.mem_range'_1] at hj
      simp [h j hj.1 (by omega)]⟩
    have e : (m :: List.range' (m + 1) (min 8 s.size - m)) = List.range' (1 + (m - 1)) (min 8 s.size - m + 1) := by rw [show 1 + (m - 1) = m by omega]; rfl
    rw [e, List.range'_append_1]
    congr 1
    omega
  unfold nxS
  rw [if_neg (by omega), hf]
theorem nxS_none {s : ByteArray} {m : Nat} (h : NoFront s m) (h0 : s.size ≠ 0) (hm : 8 < m ∨ s.size < m) : nxS s = if moreS s then (d0, ⟨#[]⟩, 3) else (d0, ⟨#[]⟩, 2) := by
  have hf : (List.range' 1 (min 8 s.size)).find? (fun n => wholeB (pre s n)) = none := by
    rw [List.find?_eq_none]
    intro j hj
    rw [List.mem_range'_1] at hj
    simp [h j hj.1 (by omega)]
  unfold nxS
  rw [if_neg h0, hf]
theorem nxS_nil : nxS ⟨#[]⟩ = (d0, ⟨#[]⟩, 6) := rfl
end Vt
set_option maxHeartbeats 4000000 in
theorem rnext6_any (s : ByteArray) (w : World) (hs : s.size ≤ 50000) : Calls Tryz.prog 40 #[.string s] w fun e w' => e = .returned (vN (nxS s)) ∧ Below w.heap.size w w' := by
  by_cases h0 : s.size = 0
  · obtain rfl := of_size_zero s h0
    clear h0
    rw [nxS_nil]
    go_enter Tryz.func40, Tryz.ntmps40
    go_wp2
    refine bodyPost_ret (v := vN (d0, ⟨#[]⟩, 6)) (by unfold vN vC d0; simp [results, Tryz.results40, go_sem]) rfl ⟨rfl, ?_⟩
    exact (Below.refl _ _).alloc (Nat.le_refl _) _
  · have hne := ne_empty s (by omega)
    have HM := Lib.hid (fun wz => rmore_any s wz (by omega) hs)
    have H0 := Lib.hid h0
    clear h0
    go_enter Tryz.func40, Tryz.ntmps40
    go_wp2
    go_loopw [5] (fun n wr => ∃ m : Nat, 1 ≤ m ∧ m ≤ 9 ∧ n = .int .i64 m ∧ NoFront s m ∧ Below (w.alloc (.cells #[.int .i64 0, .int .i64 0, .int .i64 0, .int .i32 0] 28)).heap.size (w.alloc (.cells #[.int .i64 0, .int .i64 0, .int .i64 0, .int .i32 0] 28)) wr) (fun n _ => 9 - (intOf n).toNat)
    case atStart => exact ⟨1, by omega, by omega, rfl, fun j h1 hj => by omega, Below.refl _ _⟩
    case round =>
      obtain ⟨m, hm1, hm9, rfl, hns, hw⟩ := hrel
      by_cases hc : m ≤ 8 ∧ m ≤ s.size
      · obtain ⟨c1, c2⟩ := hc
        have hz := pre_size s m c2
        have HW := Lib.hid (fun wz => rwhole_any (pre s m) wz (by omega))
        have hW := Lib.hid hw
        cases hwB : wholeB (pre s m)
        · have hN := Lib.hid (hns.next hwB)
          rw [hwB] at HW
          clear hwB hns hw hz
          go_wp2_with fail
          refine (HW.out _).mono ?_
          rintro e w2 ⟨rfl, hw2⟩
          unfold vC
          have h2 := hW.out.trans (hw2.mono hW.out.size)
          go_wp2
          go_roundw
          case rel => exact ⟨m + 1, by omega, by omega, by go_num, hN.out, h2.alloc h2.size _⟩
          case measure => simp [intOf]; omega
        · have e := Lib.hid (nxS_front hns hm1 c1 c2 hwB)
          rw [hwB] at HW
          clear hwB hns hw hz
          generalize hM : mbR (pre s m) = M at *
          have HMB := Lib.hid hM
          clear hM
          go_wp2_with fail
          refine (HW.out _).mono ?_
          rintro e w2 ⟨rfl, hw2⟩
          unfold vC
          have h2 := hW.out.trans (hw2.mono hW.out.size)
          obtain ⟨⟨x0, x1, x2, x3⟩, xf, xs⟩ := made4 h2
          have hB := Lib.hid (bl1 h2)
          clear h2 hw2
          go_wp2
          go_region
          go_wp2
          refine bodyPost_ret (v := vN (M, suf s m, 0)) (by unfold vN vC suf; simp [results, Tryz.results40, go_sem, x0, x1, x2, x3, xs]) rfl ?_
          rw [e.out]
          exact ⟨rfl, ((four hB.out (Nat.le_refl _) _ _ _ _).alloc (by simpa using Nat.le_of_lt xs) _).drew⟩
      · have e := nxS_none hns H0.out (by omega)
        have hmb : ∃ k : Int, nxS s = (d0, ⟨#[]⟩, k) ∧ (moreS s = true ∧ k = 3 ∨ moreS s = false ∧ k = 2) := by
          rw [e]
          cases moreS s
          · exact ⟨2, rfl, .inr ⟨rfl, rfl⟩⟩
          · exact ⟨3, rfl, .inl ⟨rfl, rfl⟩⟩
        obtain ⟨k, hk, hmk⟩ := hmb
        have E := Lib.hid hk
        have hW := Lib.hid hw
        clear e hk hns hw
        have hg : (m = 9 ∨ m ≤ 8 ∧ s.size < m) := by omega
        rcases hmk with ⟨hq, rfl⟩ | ⟨hq, rfl⟩ <;> rcases hg with rfl | ⟨hg1, hg2⟩
        all_goals
          rw [hq] at HM
          clear hq hc
          go_wp2_with fail
          refine (HM.out _).mono ?_
          rintro e w2 ⟨rfl, hw2⟩
          have h2 := hW.out.trans (hw2.mono hW.out.size)
          obtain ⟨⟨x0, x1, x2, x3⟩, xf, xs⟩ := made4 h2
          have hB := Lib.hid (bl1 h2)
          clear h2 hw2
          go_wp2
          refine bodyPost_ret (v := vN (d0, ⟨#[]⟩, _)) (by unfold vN vC d0; simp [results, Tryz.results40, go_sem, x0, x1, x2, x3]; exact rfl) rfl ?_
          rw [E.out]
          exact ⟨rfl, four hB.out (Nat.le_refl _) _ _ _ _⟩
end Go.Proofs.YtkkioajmfkcloaaGreatDoor
