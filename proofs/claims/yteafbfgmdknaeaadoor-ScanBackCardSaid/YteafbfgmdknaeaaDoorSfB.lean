/- The walk of ScanBack. Condition: the two tables of the library and that of the kinds with one form laid. -/
import Derived.Test.YteafbfgmdknaeaaDoorSfA
import Derived.Test.YteafbfgmdknaeaaDoorVtO
set_option linter.unusedVariables false
namespace Go.Proofs.YteafbfgmdknaeaaDoor
open Go.RowKit Go.PlainAid Gl L Vt
/-- What lasts: the three tables, and all that was there. -/
def Lst (w w' : World) : Prop := (Tabs w' 1 2 ∧ Forms w' 0) ∧ Below w.heap.size w w'
theorem Lst.below {w w1 w2 : World} (h : Lst w w1) (hb : Below w1.heap.size w1 w2) : Lst w w2 := ⟨⟨h.1.1.below hb, h.1.2.below hb⟩, h.2.trans (hb.mono h.2.size)⟩
theorem Lst.alloc {w w1 : World} (h : Lst w w1) (o : Obj) : Lst w (w1.alloc o) := h.below ((Below.refl _ _).alloc (Nat.le_refl _) o)
namespace Vt
theorem nx_cases (s : ByteArray) : (∃ c x, nxS s = (c, x, 0) ∧ isR c = true ∧ s = btC c ++ x) ∨ ∃ k, nxS s = (d0, ⟨#[]⟩, k) ∧ (k == 0) = false := by
  rcases nxS_is s with ⟨e0, hc, ht⟩ | ⟨e0, e1, e2⟩
  · exact .inl ⟨(nxS s).1, (nxS s).2.1, by rw [← e0], hc, ht⟩
  · refine .inr ⟨(nxS s).2.2, by rw [← e0, ← e1], ?_⟩
    rcases e2 with ⟨e2, -⟩ | ⟨e2, -⟩ | ⟨e2, -⟩ <;> rw [e2] <;> rfl
end Vt
/-- What comes behind the loop: what is told of s, and that it would be put so. -/
def Tail (s : ByteArray) : Prop := (∃ c2 a2 b2 r2 S2 x, nxS s = ((c2, a2, b2, r2), x, 0) ∧ pv c2 a2 b2 r2 = .tuple #[.string S2, .int .i64 0] ∧ ((S2 ++ x).toList == s.toList) = true ∧ S2.size + x.size ≤ 1000) ∨ ∃ k, nxS s = (d0, ⟨#[]⟩, k) ∧ (k == 0) = false
theorem tail_any (s : ByteArray) (h1 : s.size ≤ 1000) : Tail s := by
  rcases nx_cases s with ⟨⟨c2, a2, b2, r2⟩, x, e, hc, hs⟩ | h
  · refine .inl ⟨c2, a2, b2, r2, bts c2 a2 b2 r2, x, e, pv_yes hc, ?_, ?_⟩
    · rw [str_eq_of_toList, decide_eq_true_iff]; exact hs.symm
    · have := congrArg ByteArray.size hs
      rw [size_app] at this
      exact Nat.le_trans (Nat.le_of_eq this.symm) h1
  · exact .inr h
set_option maxHeartbeats 8000000 in
theorem back_no (k a b r : Int) (s : ByteArray) (W : World) (h1 : s.size ≤ 1000) (hC : isC k a b r = false) (h0 : Lst W W) : Calls Tryd.prog 5 #[.agg #[.int .i64 k, .int .i64 a, .int .i64 b, .int .i32 r], .string s] W fun e w' => e = .returned (.bool true) ∧ Below W.heap.size W w' := by
  have d1 : decide ((1000 : Int) < (s.size : Int)) = false := decide_eq_false (by omega)
  have H0 := Lib.hid (fun x => h0.alloc x)
  have HP := Lib.hid (fun wz Fz => vput_any k a b r wz Fz)
  have HN := Lib.hid (fun wz Tz => snext_any s wz Tz (by unfold maxLen; omega))
  have hT := tail_any s h1
  rw [pv_no hC] at HP
  clear hC h0 h1
  rcases hT with ⟨c2, a2, b2, r2, S2, x, e, hp, hS, hz⟩ | ⟨q, e, hq⟩
  · rw [e] at HN
    have HQ := Lib.hid (fun wz Fz => vput_any c2 a2 b2 r2 wz Fz)
    rw [hp] at HQ
    clear e hp
    go_enter Tryd.func5, Tryd.ntmps5
    go_wp2_with fail
    refine (HP.out _ ((H0.out _).1.2)).mono ?_
    rintro e w1 ⟨rfl, hw1⟩
    have L1 := Lib.hid ((H0.out _).below hw1)
    clear hw1
    go_wp2
    go_loopw [10] (fun i wr => i = .int .i64 1 ∧ wr = w1) (fun i _ => 0)
    case atStart => exact ⟨rfl, rfl⟩
    case round =>
      obtain ⟨rfl, rfl⟩ := hrel
      go_wp2_with fail
      refine (HN.out _ (L1.out.1.1)).mono ?_
      rintro e w2 ⟨rfl, hw2⟩
      unfold vN vC
      have L2 := Lib.hid (L1.out.below hw2)
      clear hw2
      go_wp2_with fail
      refine (HQ.out _ ((L2.out.alloc _).1.2)).mono ?_
      rintro e w3 ⟨rfl, hw3⟩
      have L3 := Lib.hid ((L2.out.alloc _).below hw3)
      clear hw3
      go_wp2_with fail
      refine (ex6_any _ L3.out.1.1).mono ?_
      rintro e w4 ⟨rfl, hw4⟩
      have L4 := Lib.hid (L3.out.below hw4)
      clear hw4
      go_wp2
      go_ret
      exact ⟨rfl, L4.out.2⟩
  · rw [e] at HN
    clear e
    have hq2 : (q != 0) = true := by rw [bne, hq]; rfl
    go_enter Tryd.func5, Tryd.ntmps5
    go_wp2_with fail
    refine (HP.out _ ((H0.out _).1.2)).mono ?_
    rintro e w1 ⟨rfl, hw1⟩
    have L1 := Lib.hid ((H0.out _).below hw1)
    clear hw1
    go_wp2
    go_loopw [10] (fun i wr => i = .int .i64 1 ∧ wr = w1) (fun i _ => 0)
    case atStart => exact ⟨rfl, rfl⟩
    case round =>
      obtain ⟨rfl, rfl⟩ := hrel
      go_wp2_with fail
      refine (HN.out _ (L1.out.1.1)).mono ?_
      rintro e w2 ⟨rfl, hw2⟩
      unfold vN vC d0
      have L2 := Lib.hid (L1.out.below hw2)
      clear hw2
      go_wp2_with fail
      refine (ex6_any _ ((L2.out.alloc _).1.1)).mono ?_
      rintro e w4 ⟨rfl, hw4⟩
      have L4 := Lib.hid ((L2.out.alloc _).below hw4)
      obtain ⟨⟨x0, x1, x2, x3⟩, -, -⟩ := made4 hw4
      clear hw4
      go_wp2
      go_ret
      exact ⟨rfl, L4.out.2⟩
set_option maxHeartbeats 8000000 in
theorem back_yes (k a b r : Int) (s : ByteArray) (W : World) (h1 : s.size ≤ 1000) (hC : isC k a b r = true) (h0 : Lst W W) : Calls Tryd.prog 5 #[.agg #[.int .i64 k, .int .i64 a, .int .i64 b, .int .i32 r], .string s] W fun e w' => e = .returned (.bool true) ∧ Below W.heap.size W w' := by
  have d1 : decide ((1000 : Int) < (s.size : Int)) = false := decide_eq_false (by omega)
  have H0 := Lib.hid (fun x => h0.alloc x)
  have HP := Lib.hid (fun wz Fz => vput_any k a b r wz Fz)
  have HN := Lib.hid (fun wz Tz => snext_any s wz Tz (by unfold maxLen; omega))
  have hT := tail_any s h1
  have h8 := bts_size k a b r
  have hb1 := bts_one k a b r hC
  have HX := Lib.hid (fun wz Tz => snext_any (bts k a b r ++ s) wz Tz (by rw [size_app]; unfold maxLen; omega))
  rw [show nxS (bts k a b r ++ s) = ((k, a, b, r), s, 0) from nx_one (NxR.put (k, a, b, r) hC s)] at HX
  have HY := Lib.hid (fun j (j1 : 1 ≤ j) (j2 : j < (bts k a b r).size) wz Tz => by
    have := snext_any (pre (bts k a b r) j) wz Tz (by rw [pre_size _ _ (by omega)]; unfold maxLen; omega)
    rw [show nxS (pre (bts k a b r) j) = (d0, ⟨#[]⟩, 3) from nx_one (NxR.pre (k, a, b, r) hC j j1 j2)] at this
    exact this)
  rw [pv_yes hC] at HP
  have hcat : (bts k a b r).size + s.size ≤ 1008 := by omega
  generalize bts k a b r = S at *
  clear hC h0
  rcases hT with ⟨c2, a2, b2, r2, S2, x, e, hp, hS, hz⟩ | ⟨q, e, hq⟩
  · rw [e] at HN
    have HQ := Lib.hid (fun wz Fz => vput_any c2 a2 b2 r2 wz Fz)
    rw [hp] at HQ
    clear e hp
    go_enter Tryd.func5, Tryd.ntmps5
    go_wp2_with fail
    refine (HP.out _ ((H0.out _).1.2)).mono ?_
    rintro e w1 ⟨rfl, hw1⟩
    have L1 := Lib.hid ((H0.out _).below hw1)
    obtain ⟨⟨y0, y1, y2, y3⟩, -, ys⟩ := made4 hw1
    clear hw1
    go_wp2_with fail
    refine (HX.out _ L1.out.1.1).mono ?_
    rintro e w5 ⟨rfl, hw5⟩
    unfold vN vC
    have L5 := Lib.hid (L1.out.below hw5)
    have z0 := (old_cell hw5 _ 0 ys).trans y0
    have z1 := (old_cell hw5 _ 1 ys).trans y1
    have z2 := (old_cell hw5 _ 2 ys).trans y2
    have z3 := (old_cell hw5 _ 3 ys).trans y3
    have hz5 : W.heap.size < w5.heap.size := Nat.lt_of_lt_of_le ys hw5.size
    clear hw5 y0 y1 y2 y3
    go_wp2
    clear z0 z1 z2 z3
    go_loopw [10] (fun i wr => ∃ j : Nat, 1 ≤ j ∧ j ≤ S.size ∧ i = .int .i64 j ∧ Lst W wr) (fun i _ => S.size - (intOf i).toNat)
    case atStart => exact ⟨1, by omega, hb1, rfl, L5.out.alloc _⟩
    case round =>
      obtain ⟨j, j1, j2, rfl, hL⟩ := hrel
      have LR := Lib.hid hL
      clear hL
      by_cases hlt : j < S.size
      · have HJ := Lib.hid (fun wz Tz => HY.out j j1 hlt wz Tz)
        go_wp2_with fail
        refine (HJ.out _ LR.out.1.1).mono ?_
        rintro e w6 ⟨rfl, hw6⟩
        unfold vN vC d0
        have L6 := Lib.hid (LR.out.below hw6)
        clear hw6
        go_wp2
        go_roundw
        case rel => exact ⟨j + 1, by omega, by omega, by go_num, L6.out.alloc _⟩
        case measure => simp [intOf]; omega
      · obtain rfl : j = S.size := by omega
        clear hlt j1 j2
        go_wp2_with fail
        refine (HN.out _ (LR.out.1.1)).mono ?_
        rintro e w2 ⟨rfl, hw2⟩
        unfold vN vC
        have L2 := Lib.hid (LR.out.below hw2)
        clear hw2
        go_wp2_with fail
        refine (HQ.out _ ((L2.out.alloc _).1.2)).mono ?_
        rintro e w3 ⟨rfl, hw3⟩
        have L3 := Lib.hid ((L2.out.alloc _).below hw3)
        clear hw3
        go_wp2_with fail
        refine (ex6_any _ L3.out.1.1).mono ?_
        rintro e w4 ⟨rfl, hw4⟩
        have L4 := Lib.hid (L3.out.below hw4)
        clear hw4
        go_wp2
        go_ret
        exact ⟨rfl, L4.out.2⟩
  · rw [e] at HN
    clear e
    have hq2 : (q != 0) = true := by rw [bne, hq]; rfl
    go_enter Tryd.func5, Tryd.ntmps5
    go_wp2_with fail
    refine (HP.out _ ((H0.out _).1.2)).mono ?_
    rintro e w1 ⟨rfl, hw1⟩
    have L1 := Lib.hid ((H0.out _).below hw1)
    obtain ⟨⟨y0, y1, y2, y3⟩, -, ys⟩ := made4 hw1
    clear hw1
    go_wp2_with fail
    refine (HX.out _ L1.out.1.1).mono ?_
    rintro e w5 ⟨rfl, hw5⟩
    unfold vN vC
    have L5 := Lib.hid (L1.out.below hw5)
    have z0 := (old_cell hw5 _ 0 ys).trans y0
    have z1 := (old_cell hw5 _ 1 ys).trans y1
    have z2 := (old_cell hw5 _ 2 ys).trans y2
    have z3 := (old_cell hw5 _ 3 ys).trans y3
    have hz5 : W.heap.size < w5.heap.size := Nat.lt_of_lt_of_le ys hw5.size
    clear hw5 y0 y1 y2 y3
    go_wp2
    clear z0 z1 z2 z3
    go_loopw [10] (fun i wr => ∃ j : Nat, 1 ≤ j ∧ j ≤ S.size ∧ i = .int .i64 j ∧ Lst W wr) (fun i _ => S.size - (intOf i).toNat)
    case atStart => exact ⟨1, by omega, hb1, rfl, L5.out.alloc _⟩
    case round =>
      obtain ⟨j, j1, j2, rfl, hL⟩ := hrel
      have LR := Lib.hid hL
      clear hL
      by_cases hlt : j < S.size
      · have HJ := Lib.hid (fun wz Tz => HY.out j j1 hlt wz Tz)
        go_wp2_with fail
        refine (HJ.out _ LR.out.1.1).mono ?_
        rintro e w6 ⟨rfl, hw6⟩
        unfold vN vC d0
        have L6 := Lib.hid (LR.out.below hw6)
        clear hw6
        go_wp2
        go_roundw
        case rel => exact ⟨j + 1, by omega, by omega, by go_num, L6.out.alloc _⟩
        case measure => simp [intOf]; omega
      · obtain rfl : j = S.size := by omega
        clear hlt j1 j2
        go_wp2_with fail
        refine (HN.out _ (LR.out.1.1)).mono ?_
        rintro e w2 ⟨rfl, hw2⟩
        unfold vN vC d0
        have L2 := Lib.hid (LR.out.below hw2)
        clear hw2
        go_wp2_with fail
        refine (ex6_any _ ((L2.out.alloc _).1.1)).mono ?_
        rintro e w4 ⟨rfl, hw4⟩
        have L4 := Lib.hid ((L2.out.alloc _).below hw4)
        obtain ⟨⟨x0, x1, x2, x3⟩, -, -⟩ := made4 hw4
        clear hw4
        go_wp2
        go_ret
        exact ⟨rfl, L4.out.2⟩
theorem scanBack_law (k a b r : Int) (s : ByteArray) (W : World) (T : Tabs W 1 2) (F : Forms W 0) : Calls Tryd.prog 5 #[.agg #[.int .i64 k, .int .i64 a, .int .i64 b, .int .i32 r], .string s] W fun e w' => e = .returned (.bool true) ∧ Below W.heap.size W w' := by
  have h0 : Lst W W := ⟨⟨T, F⟩, Below.refl _ _⟩
  by_cases h1 : s.size ≤ 1000
  · cases hC : isC k a b r
    · exact back_no k a b r s W h1 hC h0
    · exact back_yes k a b r s W h1 hC h0
  · have d1 : decide ((1000 : Int) < (s.size : Int)) = true := decide_eq_true (by omega)
    clear h1 h0 T F
    go_enter Tryd.func5, Tryd.ntmps5
    go_wp2
    go_ret
    exact ⟨rfl, (Below.refl _ _).alloc (Nat.le_refl _) _⟩
end Go.Proofs.YteafbfgmdknaeaaDoor
