/- scan: the reference: whole, more, maybe. -/
import Derived.Test.YtkkioajmfkcloaaGreatDoorSeA
import Derived.Test.YtkkioajmfkcloaaGreatDoorSdD
import Derived.Test.YtkkioajmfkcloaaGreatDoorMVi
import Derived.Deep.RegionWith
import Derived.IntWalk
import Derived.Test.YtkkioajmfkcloaaGreatDoorMSp
/- The contract of the reference's maybe. -/
set_option linter.unusedVariables false
namespace Go.Proofs.YtkkioajmfkcloaaGreatDoor
open Go.RowKit Go.PlainAid Gl L Vt
namespace Vt
theorem list_ne (s : ByteArray) (b : UInt8) (h : s ≠ ⟨#[b]⟩) : (s.toList == [b]) = false := by
  rw [Bool.eq_false_iff]
  intro e
  have e' : s.toList = [b] := by simpa using e
  rw [ByteArray.toList_eq] at e'
  exact h (ext_list _ _ e')
end Vt
set_option maxHeartbeats 2000000 in
theorem maybe_1 (b : UInt8) (k : Int) (h : b = 13 ∧ k = 9 ∨ b = 10 ∧ k = 10 ∨ b = 8 ∧ k = 11 ∨ b = 7 ∧ k = 12) (w : World) : Calls Tryz.prog 84 #[.string ⟨#[b]⟩] w fun e w' => e = .returned (vC (k, 0, 0, 0)) ∧ Below w.heap.size w w' := by
  rcases h with ⟨rfl, rfl⟩ | ⟨rfl, rfl⟩ | ⟨rfl, rfl⟩ | ⟨rfl, rfl⟩
  all_goals
    go_enter Tryz.func84, Tryz.ntmps84
    go_wp2
    refine bodyPost_ret (by simp [results, Tryz.results84, go_sem]; exact rfl) rfl ⟨rfl, ?_⟩
    exact (Below.refl _ _).alloc (Nat.le_refl _) _
namespace Vt
/-- None of the four bytes that stand alone. -/
def No4 (s : ByteArray) : Prop := s ≠ ⟨#[13]⟩ ∧ s ≠ ⟨#[10]⟩ ∧ s ≠ ⟨#[8]⟩ ∧ s ≠ ⟨#[7]⟩
theorem mb_small (s : ByteArray) (h : No4 s) (h3 : s.size < 3 ∨ bt s 0 ≠ 27) : mbR s = (1, 0, 0, nextR s) := by
  obtain ⟨a, b, c, d⟩ := h
  unfold mbR
  rw [if_neg a, if_neg b, if_neg c, if_neg d, if_pos h3]
theorem mb_big (s : ByteArray) (h3 : 3 ≤ s.size) (h0 : bt s 0 = 27) : mbR s = if bt s (s.size - 1) = 75 then (7, 0, 0, 0) else if bt s (s.size - 1) = 74 then (8, 0, 0, 0)
  else if bt s (s.size - 1) = 72 then
    (match semi (s.extract 2 (s.size - 1)) with
    | some i => (2, numB ((s.extract 2 (s.size - 1)).extract 0 i) - 1, numB ((s.extract 2 (s.size - 1)).extract (i + 1) (s.extract 2 (s.size - 1)).size) - 1, 0)
    | none => d0)
  else (bt s (s.size - 1) - 62, if (s.extract 2 (s.size - 1)).size = 0 then 1 else numB (s.extract 2 (s.size - 1)), 0, 0) := by
  have ne : ∀ b : UInt8, s ≠ ⟨#[b]⟩ := fun b e => by
    have := congrArg ByteArray.size e
    have h1 : (⟨#[b]⟩ : ByteArray).size = 1 := rfl
    omega
  unfold mbR
  rw [if_neg (ne 13), if_neg (ne 10), if_neg (ne 8), if_neg (ne 7), if_neg (by omega)]
  rfl
theorem big_no4 (s : ByteArray) (h3 : 3 ≤ s.size) : No4 s := by
  have ne : ∀ b : UInt8, s ≠ ⟨#[b]⟩ := fun b e => by
    have := congrArg ByteArray.size e
    have h1 : (⟨#[b]⟩ : ByteArray).size = 1 := rfl
    omega
  exact ⟨ne 13, ne 10, ne 8, ne 7⟩
end Vt
set_option maxHeartbeats 2000000 in
theorem maybe_small (s : ByteArray) (hs : s.size ≤ 100000) (h : No4 s) (h3 : s.size < 3 ∨ bt s 0 ≠ 27) (w : World) : Calls Tryz.prog 84 #[.string s] w fun e w' => e = .returned (vC (mbR s)) ∧ Below w.heap.size w w' := by
  have q1 := list_ne s 13 h.1
  have q2 := list_ne s 10 h.2.1
  have q3 := list_ne s 8 h.2.2.1
  have q4 := list_ne s 7 h.2.2.2
  have e := Lib.hid (mb_small s h h3)
  have HN := Lib.hid (fun wz => rnext_any s wz (by omega))
  have hb := get_bt s
  by_cases hz : s.size < 3
  · clear h h3
    go_enter Tryz.func84, Tryz.ntmps84
    go_wp2_with fail
    refine (HN.out _).mono ?_
    rintro e w1 ⟨rfl, hw1⟩
    have hc1 := old_cell hw1
    have hf1 := old_frozen hw1
    have hz1 := hw1.size
    go_wp2
    refine bodyPost_ret (v := vC (1, 0, 0, nextR s)) (by unfold vC; simp [results, Tryz.results84, go_sem, hc1]) rfl ?_
    rw [e.out]
    exact ⟨rfl, four (bl1 hw1) (Nat.le_refl _) _ _ _ _⟩
  · have h0 : bt s 0 ≠ 27 := by omega
    have bk := kind_ne h0
    have bk2 : (bt s 0 != 27) = true := by rw [bne, bk]; rfl
    have h1 : 0 < s.size := by omega
    clear h h3 h0
    go_enter Tryz.func84, Tryz.ntmps84
    go_wp2_with fail
    refine (HN.out _).mono ?_
    rintro e w1 ⟨rfl, hw1⟩
    have hc1 := old_cell hw1
    have hf1 := old_frozen hw1
    have hz1 := hw1.size
    go_wp2
    refine bodyPost_ret (v := vC (1, 0, 0, nextR s)) (by unfold vC; simp [results, Tryz.results84, go_sem, hc1]) rfl ?_
    rw [e.out]
    exact ⟨rfl, four (bl1 hw1) (Nat.le_refl _) _ _ _ _⟩
/-- What the walk asks of a string that begins with 27. -/
structure Big (s : ByteArray) : Prop where
  q1 : (s.toList == [13]) = false
  q2 : (s.toList == [10]) = false
  q3 : (s.toList == [8]) = false
  q4 : (s.toList == [7]) = false
theorem big_of (s : ByteArray) (h3 : 3 ≤ s.size) : Big s :=
  let h := big_no4 s h3
  ⟨list_ne s 13 h.1, list_ne s 10 h.2.1, list_ne s 8 h.2.2.1, list_ne s 7 h.2.2.2⟩
theorem slice_mid (s : ByteArray) (h3 : 3 ≤ s.size) (wx : World) : (Instr.slice 9 (.string s) (some (.int .i64 2)) (some (.int .i64 ((s.size : Int) - 1))) none).run Tryz.prog wx = .ok (.string (s.extract 2 (s.size - 1))) wx := by
  rw [run_slice_string wx 9 s .i64 .i64 _ _ Tryz.underlying9 (by omega) (by omega) (by omega), show (2 : Int).toNat = 2 from rfl, show ((s.size : Int) - 1).toNat = s.size - 1 by omega]
theorem index_last (s : ByteArray) (h3 : 3 ≤ s.size) (wx : World) : (Instr.index 9 (.string s) (.int .i64 ((s.size : Int) - 1))).run Tryz.prog wx = .ok (.int .u8 (bt s (s.size - 1))) wx := by
  have hlt : s.size - 1 < s.size := by omega
  rw [show ((s.size : Int) - 1) = ((s.size - 1 : Nat) : Int) by omega]
  have hb := get_bt s (s.size - 1) hlt
  simp [go_sem, hlt, hb]
set_option maxHeartbeats 2000000 in
theorem maybe_K (s : ByteArray) (hs : s.size ≤ 100000) (h3 : 3 ≤ s.size) (h0 : bt s 0 = 27) (hz : bt s (s.size - 1) = 75 ∨ bt s (s.size - 1) = 74) (w : World) : Calls Tryz.prog 84 #[.string s] w fun e w' => e = .returned (vC (mbR s)) ∧ Below w.heap.size w w' := by
  obtain ⟨q1, q2, q3, q4⟩ := big_of s h3
  have hsl := slice_mid s h3
  have hix := index_last s h3
  have hb := get_bt s
  have h1 : 0 < s.size := by omega
  have h2 : ¬ s.size < 3 := by omega
  rcases hz with hz | hz
  · have e := Lib.hid (show mbR s = (7, 0, 0, 0) by rw [mb_big s h3 h0, if_pos hz])
    go_enter Tryz.func84, Tryz.ntmps84
    go_wp2
    refine bodyPost_ret (v := vC (7, 0, 0, 0)) (by unfold vC; simp [results, Tryz.results84, go_sem]) rfl ?_
    rw [e.out]
    exact ⟨rfl, (Below.refl _ _).alloc (Nat.le_refl _) _⟩
  · have e := Lib.hid (show mbR s = (8, 0, 0, 0) by rw [mb_big s h3 h0, if_neg (by omega), if_pos hz])
    go_enter Tryz.func84, Tryz.ntmps84
    go_wp2
    refine bodyPost_ret (v := vC (8, 0, 0, 0)) (by unfold vC; simp [results, Tryz.results84, go_sem]) rfl ?_
    rw [e.out]
    exact ⟨rfl, (Below.refl _ _).alloc (Nat.le_refl _) _⟩
set_option maxHeartbeats 2000000 in
theorem maybe_mv (s : ByteArray) (hs : s.size ≤ 100000) (h3 : 3 ≤ s.size) (h0 : bt s 0 = 27) (z1 : bt s (s.size - 1) ≠ 75) (z2 : bt s (s.size - 1) ≠ 74) (z3 : bt s (s.size - 1) ≠ 72) (w : World) : Calls Tryz.prog 84 #[.string s] w fun e w' => e = .returned (vC (mbR s)) ∧ Below w.heap.size w w' := by
  obtain ⟨q1, q2, q3, q4⟩ := big_of s h3
  have hsl := slice_mid s h3
  have hix := index_last s h3
  have hb := get_bt s
  have h1 : 0 < s.size := by omega
  have h2 : ¬ s.size < 3 := by omega
  have y0 := bt_nonneg s (s.size - 1)
  have y1 := bt_le s (s.size - 1)
  have k1 := kind_ne z1
  have k2 := kind_ne z2
  have k3 := kind_ne z3
  have hm : (s.extract 2 (s.size - 1)).size ≤ 100000 := by rw [ByteArray.size_extract]; omega
  have e : mbR s = (bt s (s.size - 1) - 62, if (s.extract 2 (s.size - 1)).size = 0 then 1 else numB (s.extract 2 (s.size - 1)), 0, 0) := by rw [mb_big s h3 h0, if_neg z1, if_neg z2, if_neg z3]
  generalize bt s (s.size - 1) = z at *
  generalize s.extract 2 (s.size - 1) = m at *
  by_cases hm0 : m.size = 0
  · rw [if_pos hm0] at e
    have E := Lib.hid e
    obtain rfl := of_size_zero m hm0
    clear e hm0 z1 z2 z3
    go_enter Tryz.func84, Tryz.ntmps84
    go_wp2
    refine bodyPost_ret (v := vC (z - 62, 1, 0, 0)) (by unfold vC; simp [results, Tryz.results84, go_sem]) rfl ?_
    rw [E.out]
    exact ⟨rfl, (Below.refl _ _).alloc (Nat.le_refl _) _⟩
  · rw [if_neg hm0] at e
    have E := Lib.hid e
    have hn := ne_empty m (by omega)
    have HN := Lib.hid (fun wz => rnumber_any m wz hm)
    clear e hm0 z1 z2 z3
    go_enter Tryz.func84, Tryz.ntmps84
    go_wp2_with fail
    refine (HN.out _).mono ?_
    rintro e w1 ⟨rfl, rfl⟩
    go_wp2
    refine bodyPost_ret (v := vC (z - 62, numB m, 0, 0)) (by unfold vC; simp [results, Tryz.results84, go_sem]) rfl ?_
    rw [E.out]
    exact ⟨rfl, (Below.refl _ _).alloc (Nat.le_refl _) _⟩
namespace Vt
/-- None of the first bytes is 59. -/
def NoSemi (m : ByteArray) (k : Nat) : Prop := ∀ j, j < k → bt m j ≠ 59
theorem numB_bd (s : ByteArray) : -1 ≤ numB s ∧ numB s ≤ 99 := by
  unfold numB dig
  split
  · rename_i h; have := h.2; simp at this; omega
  · split
    · rename_i h; have h1 := h.2.1; have h2 := h.2.2; simp at h1 h2; omega
    · omega
theorem semi_none (m : ByteArray) (h : NoSemi m m.size) : semi m = none := by
  unfold semi
  rw [List.find?_eq_none]
  intro j hj
  have := h j (List.mem_range.1 hj)
  simpa using this
theorem NoSemi.next {m : ByteArray} {k : Nat} (h : NoSemi m k) (h' : bt m k ≠ 59) : NoSemi m (k + 1) := fun j hj => by
  by_cases e : j = k
  · rw [e]; exact h'
  · exact h j (by omega)
end Vt
set_option maxHeartbeats 4000000 in
theorem maybe_go (s : ByteArray) (hs : s.size ≤ 100000) (h3 : 3 ≤ s.size) (h0 : bt s 0 = 27) (hz : bt s (s.size - 1) = 72) (w : World) : Calls Tryz.prog 84 #[.string s] w fun e w' => e = .returned (vC (mbR s)) ∧ Below w.heap.size w w' := by
  obtain ⟨q1, q2, q3, q4⟩ := big_of s h3
  have hsl := slice_mid s h3
  have hix := index_last s h3
  have hb := get_bt s
  have h1 : 0 < s.size := by omega
  have h2 : ¬ s.size < 3 := by omega
  have hm : (s.extract 2 (s.size - 1)).size ≤ 100000 := by rw [ByteArray.size_extract]; omega
  have e : mbR s = (match semi (s.extract 2 (s.size - 1)) with
    | some i => (2, numB ((s.extract 2 (s.size - 1)).extract 0 i) - 1, numB ((s.extract 2 (s.size - 1)).extract (i + 1) (s.extract 2 (s.size - 1)).size) - 1, 0)
    | none => d0) := by rw [mb_big s h3 h0, if_neg (by omega), if_neg (by omega), if_pos hz]
  generalize s.extract 2 (s.size - 1) = m at *
  have E := Lib.hid e
  clear e
  go_enter Tryz.func84, Tryz.ntmps84
  go_wp2
  have hbm := get_bt m
  go_loopw [8] (fun i wr => ∃ k : Nat, k ≤ m.size ∧ i = .int .i64 k ∧ NoSemi m k ∧ wr = w.alloc (.cells #[.int .i64 0, .int .i64 0, .int .i64 0, .int .i32 0] 28)) (fun i _ => m.size - (intOf i).toNat)
  case atStart => exact ⟨0, Nat.zero_le _, rfl, fun j hj => absurd hj (Nat.not_lt_zero j), rfl⟩
  case round =>
    obtain ⟨k, hk, rfl, hns, rfl⟩ := hrel
    by_cases hlt : k < m.size
    · by_cases h59 : bt m k = 59
      · have HS := Lib.hid (semi_at m k hlt h59 hns)
        clear hns
        have hA : (m.extract 0 k).size ≤ 100000 := by rw [ByteArray.size_extract]; omega
        have hB : (m.extract (k + 1) m.size).size ≤ 100000 := by rw [ByteArray.size_extract]; omega
        have nA := numB_bd (m.extract 0 k)
        have nB := numB_bd (m.extract (k + 1) m.size)
        have HN := Lib.hid (fun (x : ByteArray) (h : x.size ≤ 100000) wz => rnumber_any x wz h)
        have r1 := IntWalk.i64_in (numB (m.extract 0 k) - 1) (by omega)
        have r2 := IntWalk.i64_in (numB (m.extract (k + 1) m.size) - 1) (by omega)
        have r3 := IntWalk.i64_in ((k : Int) + 1) (by omega)
        have r4 : ((k : Int) + 1).toNat = k + 1 := by omega
        have r5 : 0 ≤ (k : Int) + 1 := by omega
        have r6 : (k : Int) + 1 ≤ (m.size : Int) := by omega
        clear nA nB
        go_wp2
        go_region_with ((go_at_call 98; refine (HN.out _ (by first | exact hA | exact hB) _).mono ?_; rintro e w' ⟨rfl, rfl⟩))
        clear r1 r2 r3 r4 r5 r6
        go_wp2
        refine bodyPost_ret (v := vC (2, numB (m.extract 0 k) - 1, numB (m.extract (k + 1) m.size) - 1, 0)) (by unfold vC; simp [results, Tryz.results84, go_sem]) rfl ?_
        rw [E.out, HS.out]
        exact ⟨rfl, ((Below.refl _ _).alloc (Nat.le_refl _) _).drew⟩
      · have bk := kind_ne h59
        have HS := Lib.hid (hns.next h59)
        clear hns h59
        go_wp2
        go_roundw
        case rel => exact ⟨k + 1, by omega, by go_num, HS.out, trivial⟩
        case measure => simp [intOf]; omega
    · obtain rfl : k = m.size := by omega
      have HS := Lib.hid (semi_none m hns)
      clear hns hlt
      go_wp2
      refine bodyPost_ret (v := vC d0) (by unfold vC; simp [results, Tryz.results84, go_sem, d0]) rfl ?_
      rw [E.out, HS.out]
      exact ⟨rfl, (Below.refl _ _).alloc (Nat.le_refl _) _⟩
/-- What the reference's maybe tells: any bytes. -/
theorem maybe_any (s : ByteArray) (hs : s.size ≤ 100000) (w : World) : Calls Tryz.prog 84 #[.string s] w fun e w' => e = .returned (vC (mbR s)) ∧ Below w.heap.size w w' := by
  by_cases a : s = ⟨#[13]⟩
  · subst a; exact maybe_1 13 9 (by decide) w
  by_cases b : s = ⟨#[10]⟩
  · subst b; exact maybe_1 10 10 (by decide) w
  by_cases c : s = ⟨#[8]⟩
  · subst c; exact maybe_1 8 11 (by decide) w
  by_cases d : s = ⟨#[7]⟩
  · subst d; exact maybe_1 7 12 (by decide) w
  by_cases h : s.size < 3 ∨ bt s 0 ≠ 27
  · exact maybe_small s hs ⟨a, b, c, d⟩ h w
  · have h3 : 3 ≤ s.size := by omega
    have h0 : bt s 0 = 27 := by omega
    by_cases z1 : bt s (s.size - 1) = 75
    · exact maybe_K s hs h3 h0 (.inl z1) w
    by_cases z2 : bt s (s.size - 1) = 74
    · exact maybe_K s hs h3 h0 (.inr z2) w
    by_cases z3 : bt s (s.size - 1) = 72
    · exact maybe_go s hs h3 h0 z3 w
    · exact maybe_mv s hs h3 h0 z1 z2 z3 w
end Go.Proofs.YtkkioajmfkcloaaGreatDoor
/- The contract of the reference's whole, and of its more. -/
set_option linter.unusedVariables false
namespace Go.Proofs.YtkkioajmfkcloaaGreatDoor
open Go.RowKit Go.PlainAid Gl L Vt
/-- A block of four cells, made behind a call, or ahead of it: what it holds behind calls that write nothing of what was there. -/
theorem made4 {w w2 : World} {x0 x1 x2 x3 : Value} {t : TypeId} (h : Below (w.alloc (.cells #[x0, x1, x2, x3] t)).heap.size (w.alloc (.cells #[x0, x1, x2, x3] t)) w2) :
    (w2.cell? ⟨w.heap.size, 0, none⟩ = some x0 ∧ w2.cell? ⟨w.heap.size, 1, none⟩ = some x1 ∧ w2.cell? ⟨w.heap.size, 2, none⟩ = some x2 ∧ w2.cell? ⟨w.heap.size, 3, none⟩ = some x3) ∧ (∀ o, w2.frozen? ⟨w.heap.size, o, none⟩ = false) ∧ w.heap.size < w2.heap.size := by
  have hc := old_cell h
  have hf := old_frozen h
  have hz := h.size
  refine ⟨⟨?_, ?_, ?_, ?_⟩, fun o => ?_, by simp at hz; omega⟩
  iterate 4 (rw [hc _ _ (by simp)]; simp [go_sem])
  rw [hf _ _ (by simp)]; simp [go_sem]
theorem below_two {w w1 w2 : World} {A B : Obj} (h1 : Below (w.alloc A).heap.size (w.alloc A) w1) (h2 : Below (w1.alloc B).heap.size (w1.alloc B) w2) : Below (w.alloc A).heap.size (w.alloc A) w2 :=
  h1.trans ((bl1 h2).mono h1.size)
set_option maxHeartbeats 4000000 in
theorem rwhole_any (s : ByteArray) (w : World) (hs : s.size ≤ 100000) : Calls Tryz.prog 70 #[.string s] w fun e w' => e = .returned (.tuple #[vC (mbR s), .bool (wholeB s)]) ∧ Below w.heap.size w w' := by
  have HM := Lib.hid (fun wz => maybe_any s hs wz)
  have hw : wholeB s = (isR (mbR s) && (btC (mbR s)).toList == s.toList) := by unfold wholeB; rw [str_eq_of_toList]
  generalize mbR s = c at *
  obtain ⟨k, a, b, r⟩ := c
  have HP := Lib.hid (fun wz => rput5_any k a b r wz)
  cases h : isC k a b r
  · rw [show isR (k, a, b, r) = false from h, Bool.false_and] at hw
    rw [pv_no h] at HP
    have HW := Lib.hid hw
    clear hw h
    go_enter Tryz.func70, Tryz.ntmps70
    go_wp2_with fail
    refine (HM.out _).mono ?_
    rintro e w1 ⟨rfl, hw1⟩
    unfold vC
    go_wp2_with fail
    refine (HP.out _).mono ?_
    rintro e w2 ⟨rfl, hw2⟩
    have hB := Lib.hid (bl1 (below_two hw1 hw2))
    obtain ⟨⟨x0, x1, x2, x3⟩, xf, xs⟩ := made4 (below_two hw1 hw2)
    obtain ⟨⟨y0, y1, y2, y3⟩, -, ys⟩ := made4 hw2
    clear hw1 hw2
    go_wp2
    refine bodyPost_ret (v := .tuple #[vC (k, a, b, r), .bool (wholeB s)]) (by rw [HW.out]; unfold vC; simp [results, Tryz.results70, go_sem, x0, x1, x2, x3]) rfl ⟨rfl, ?_⟩
    exact four hB.out (Nat.le_refl _) _ _ _ _
  · rw [show isR (k, a, b, r) = true from h, Bool.true_and, show btC (k, a, b, r) = bts k a b r from rfl] at hw
    rw [pv_yes h] at HP
    have HW := Lib.hid hw
    clear hw h
    generalize bts k a b r = S at *
    go_enter Tryz.func70, Tryz.ntmps70
    go_wp2_with fail
    refine (HM.out _).mono ?_
    rintro e w1 ⟨rfl, hw1⟩
    unfold vC
    go_wp2_with fail
    refine (HP.out _).mono ?_
    rintro e w2 ⟨rfl, hw2⟩
    have hB := Lib.hid (bl1 (below_two hw1 hw2))
    obtain ⟨⟨x0, x1, x2, x3⟩, xf, xs⟩ := made4 (below_two hw1 hw2)
    obtain ⟨⟨y0, y1, y2, y3⟩, -, ys⟩ := made4 hw2
    clear hw1 hw2
    go_wp2
    refine bodyPost_ret (v := .tuple #[vC (k, a, b, r), .bool (wholeB s)]) (by rw [HW.out]; unfold vC; simp [results, Tryz.results70, go_sem, x0, x1, x2, x3]) rfl ⟨rfl, ?_⟩
    exact four hB.out (Nat.le_refl _) _ _ _ _
namespace Vt
/-- The ends, by their places. -/
def tl (k : Nat) : ByteArray := tails.getD k ⟨#[]⟩
theorem tl_size (k : Nat) (h : k < 5) : (tl k).size ≤ 3 := by
  rcases (show k = 0 ∨ k = 1 ∨ k = 2 ∨ k = 3 ∨ k = 4 by omega) with rfl | rfl | rfl | rfl | rfl <;> decide
/-- None of the first ends makes it whole. -/
def NoEnd (s : ByteArray) (k : Nat) : Prop := ∀ j, j < k → ¬ (bt s 0 = 27 ∧ wholeB (s ++ tl j) = true)
theorem NoEnd.next {s : ByteArray} {k : Nat} (h : NoEnd s k) (h' : ¬ (bt s 0 = 27 ∧ wholeB (s ++ tl k) = true)) : NoEnd s (k + 1) := fun j hj => by
  by_cases e : j = k
  · rw [e]; exact h'
  · exact h j (by omega)
theorem more_end {s : ByteArray} (h : NoEnd s 5) (h3 : nextE s ≠ 3) : moreS s = false := by
  rw [Bool.eq_false_iff]
  intro hm
  unfold moreS at hm
  rw [Bool.or_eq_true, Bool.and_eq_true, decide_eq_true_iff, decide_eq_true_iff, List.any_eq_true] at hm
  rcases hm with hm | ⟨h0, x, hx, hw⟩
  · exact h3 hm
  · obtain ⟨j, hj, e⟩ := List.getElem_of_mem hx
    have hj5 : j < 5 := hj
    refine h j hj5 ⟨h0, ?_⟩
    have : tl j = x := by unfold tl; rw [List.getD_eq_getElem?_getD, List.getElem?_eq_getElem hj, e]; rfl
    rw [this]; exact hw
theorem more_yes {s : ByteArray} {k : Nat} (hk : k < 5) (h0 : bt s 0 = 27) (hw : wholeB (s ++ tl k) = true) : moreS s = true := by
  unfold moreS
  rw [Bool.or_eq_true, Bool.and_eq_true, decide_eq_true_iff, decide_eq_true_iff, List.any_eq_true]
  have hl : k < tails.length := hk
  refine .inr ⟨h0, tl k, ?_, hw⟩
  unfold tl
  rw [List.getD_eq_getElem?_getD, List.getElem?_eq_getElem hl]
  exact List.getElem_mem hl
theorem more_3 {s : ByteArray} (h3 : nextE s = 3) : moreS s = true := by
  unfold moreS; rw [h3]; rfl
end Vt
theorem tl_cell (w : World) (t : TypeId) (k : Nat) (h : k < 5) : (w.alloc (.cells #[.string ⟨#[91, 65]⟩, .string ⟨#[65]⟩, .string ⟨#[59, 49, 72]⟩, .string ⟨#[49, 72]⟩, .string ⟨#[72]⟩] t)).cell? ⟨w.heap.size, k, none⟩ = some (.string (tl k)) := by
  rcases (show k = 0 ∨ k = 1 ∨ k = 2 ∨ k = 3 ∨ k = 4 by omega) with rfl | rfl | rfl | rfl | rfl <;> simp [go_sem, tl, tails]
set_option maxHeartbeats 4000000 in
theorem rmore_any (s : ByteArray) (w : World) (h1 : 1 ≤ s.size) (hs : s.size ≤ 50000) : Calls Tryz.prog 71 #[.string s] w fun e w' => e = .returned (.bool (moreS s)) ∧ Below w.heap.size w w' := by
  have HN := Lib.hid (fun wz => rnext_any s wz (by omega))
  have hb := get_bt s
  have h0 : 0 < s.size := h1
  by_cases h3 : nextE s = 3
  · have e := Lib.hid (more_3 h3)
    rw [h3] at HN
    clear h3
    go_enter Tryz.func71, Tryz.ntmps71
    go_wp2_with fail
    refine (HN.out _).mono ?_
    rintro e w1 ⟨rfl, hw1⟩
    go_wp2
    go_ret
    exact ⟨by rw [e.out]; rfl, hw1⟩
  · have bk := kind_ne h3
    have H3 := Lib.hid h3
    clear h3
    go_enter Tryz.func71, Tryz.ntmps71
    go_wp2_with fail
    refine (HN.out _).mono ?_
    rintro e w1 ⟨rfl, hw1⟩
    go_wp2
    go_loopw [7] (fun i wr => ∃ k : Nat, k ≤ 5 ∧ i = .int .i64 k ∧ NoEnd s k ∧ Below (w1.heap.size + 1) (w1.alloc (.cells #[.string ⟨#[91, 65]⟩, .string ⟨#[65]⟩, .string ⟨#[59, 49, 72]⟩, .string ⟨#[49, 72]⟩, .string ⟨#[72]⟩] 9)) wr) (fun i _ => 5 - (intOf i).toNat)
    case atStart => exact ⟨0, Nat.zero_le _, rfl, fun j hj => absurd hj (Nat.not_lt_zero j), Below.refl _ _⟩
    case round =>
      obtain ⟨k, hk, rfl, hns, hw⟩ := hrel
      by_cases hlt : k < 5
      · have hcell : wr.cell? ⟨w1.heap.size, k, none⟩ = some (.string (tl k)) := by
          rw [hw.cell (p := ⟨w1.heap.size, k, none⟩) (by show w1.heap.size < _; omega)]; exact tl_cell w1 9 k hlt
        have hts := tl_size k hlt
        have hsz : (s ++ tl k).size ≤ 100000 := by rw [ByteArray.size_append]; omega
        have HW := Lib.hid (fun wz => rwhole_any (s ++ tl k) wz hsz)
        have hmz := hw.size
        have hmz2 : w1.heap.size + 1 ≤ wr.heap.size := by simpa using hmz
        have hB := Lib.hid ((hw1.alloc hw1.size _).trans (hw.mono (Nat.le_succ_of_le hw1.size)))
        by_cases hy : bt s 0 = 27 ∧ wholeB (s ++ tl k) = true
        · have e := Lib.hid (more_yes hlt hy.1 hy.2)
          obtain ⟨hy0, hy1⟩ := hy
          rw [hy1] at HW
          clear hns hy1
          go_wp2_with fail
          refine (HW.out _).mono ?_
          rintro e w2 ⟨rfl, hw2⟩
          unfold vC
          go_wp2
          go_ret
          refine ⟨by rw [e.out]; rfl, ?_⟩
          exact (hB.out.trans (hw2.mono hB.out.size)).alloc (Nat.le_trans hB.out.size hw2.size) _
        · have hN := Lib.hid (hns.next hy)
          clear hns
          have hR := Lib.hid hw
          cases hwB : wholeB (s ++ tl k)
          · rw [hwB] at HW
            clear hwB hy hw
            go_wp2_with fail
            refine (HW.out _).mono ?_
            rintro e w2 ⟨rfl, hw2⟩
            unfold vC
            go_wp2
            go_roundw
            case rel => exact ⟨k + 1, by omega, by go_num, hN.out, (hR.out.trans (hw2.mono hmz2)).alloc (Nat.le_trans hmz2 hw2.size) _⟩
            case measure => simp [intOf]; omega
          · have h27 : bt s 0 ≠ 27 := fun h => hy ⟨h, hwB⟩
            have b27 := kind_ne h27
            rw [hwB] at HW
            clear hwB hy hw h27
            go_wp2_with fail
            refine (HW.out _).mono ?_
            rintro e w2 ⟨rfl, hw2⟩
            unfold vC
            go_wp2
            go_roundw
            case rel => exact ⟨k + 1, by omega, by go_num, hN.out, (hR.out.trans (hw2.mono hmz2)).alloc (Nat.le_trans hmz2 hw2.size) _⟩
            case measure => simp [intOf]; omega
      · obtain rfl : k = 5 := by omega
        have e := Lib.hid (more_end hns H3.out)
        have hB := Lib.hid ((hw1.alloc hw1.size _).trans (hw.mono (Nat.le_succ_of_le hw1.size)))
        clear hns hw hlt
        go_wp2
        go_ret
        exact ⟨by rw [e.out]; rfl, hB.out⟩
end Go.Proofs.YtkkioajmfkcloaaGreatDoor
