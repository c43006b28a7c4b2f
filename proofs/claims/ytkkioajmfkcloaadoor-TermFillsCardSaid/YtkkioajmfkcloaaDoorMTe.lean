/- The program: Is, Do, New, Resize of a terminal. -/
import Derived.Test.YtkkioajmfkcloaaDoorMTd
import Derived.Test.YtkkioajmfkcloaaDoorMVi
import Derived.Test.YtkkioajmfkcloaaDoorMGu
import Derived.Test.YtkkioajmfkcloaaDoorMGe
/- The program's Is, Do, New and Resize of a terminal. -/
set_option linter.unusedVariables false
namespace Go.Proofs.YtkkioajmfkcloaaDoor
open Go.RowKit Gl L Wd Gd Tm Vt
/-- No terminal. -/
def zt : Value := .agg #[.int .i64 0, .int .i64 0, .slice none 0 0, .int .i64 0, .int .i64 0, .bool false]
/-- A terminal is told, if c; else none, with an error. -/
def DO (c : Bool) (err : Int) (B : Nat) (vi : Value) (li : List (Int × Int)) (w' : World) (e : Ending) (t : Trm) : Prop := if c then ∃ v, e = .returned (.tuple #[tv t v, .int .i64 0]) ∧ Kp B vi li w' v t.l else e = .returned (.tuple #[zt, .int .i64 err])
theorem DO.yes {c : Bool} {err : Int} {B : Nat} {vi : Value} {li : List (Int × Int)} {w' : World} {e : Ending} {t : Trm} {gw gh x y : Int} {k : Bool} {l : List (Int × Int)} {v : Value} (hc : c = true) (ht : t = ⟨gw, gh, l, x, y, k⟩) (he : e = .returned (.tuple #[.agg #[.int .i64 gw, .int .i64 gh, v, .int .i64 x, .int .i64 y, .bool k], .int .i64 0])) (hr : Kp B vi li w' v l) : DO c err B vi li w' e t := by subst hc ht; exact ⟨v, he, hr⟩
theorem DO.no {c : Bool} {err : Int} {B : Nat} {vi : Value} {li : List (Int × Int)} {w' : World} {e : Ending} {t : Trm} (hc : c = false) (he : e = .returned (.tuple #[.agg #[.int .i64 0, .int .i64 0, .slice none 0 0, .int .i64 0, .int .i64 0, .bool false], .int .i64 err])) : DO c err B vi li w' e t := by subst hc; exact he
theorem DO.is {c : Bool} {err : Int} {B : Nat} {vi : Value} {li : List (Int × Int)} {w' : World} {e : Ending} {t : Trm} (h : DO c err B vi li w' e t) (hc : c = true) (hi : Rc w' vi li) : ∃ A cap, e = .returned (.tuple #[.agg #[.int .i64 t.w, .int .i64 t.h, .slice A t.l.length cap, .int .i64 t.x, .int .i64 t.y, .bool t.k], .int .i64 0]) ∧ Kp B vi li w' (.slice A t.l.length cap) t.l := by
  subst hc
  obtain ⟨v, rfl, hk⟩ := h
  obtain ⟨A, cap, rfl, h1, h2⟩ := hk.rc hi
  exact ⟨A, cap, rfl, hk⟩
theorem DO.isnt {c : Bool} {err : Int} {B : Nat} {vi : Value} {li : List (Int × Int)} {w' : World} {e : Ending} {t : Trm} (h : DO c err B vi li w' e t) (hc : c = false) : e = .returned (.tuple #[.agg #[.int .i64 0, .int .i64 0, .slice none 0 0, .int .i64 0, .int .i64 0, .bool false], .int .i64 err]) := by subst hc; exact h
/-- A number of the machine's. -/
def i64 (n : Int) : Prop := -9223372036854775808 ≤ n ∧ n ≤ 9223372036854775807
set_option maxHeartbeats 4000000 in
theorem tis_any (gw gh x y : Int) (k : Bool) (l : List (Int × Int)) (A : Option Addr) (cap : Nat) (W : World) (hv : Rc W (.slice A l.length cap) l) (hm : l.length ≤ maxLen) (hg : gw ≤ 9223372036854775807) (S : Spans W 2) :
    Calls Tryd.prog 15 #[.agg #[.int .i64 gw, .int .i64 gh, .slice A l.length cap, .int .i64 x, .int .i64 y, .bool k]] W fun e w' => e = .returned (.bool (decide (rt ⟨gw, gh, l, x, y, k⟩))) ∧ Below W.heap.size W w' := by
  have hb0 : Below W.heap.size W (W.alloc (.cells #[.int .i64 gw, .int .i64 gh, .slice A l.length cap, .int .i64 x, .int .i64 y, .bool k] 26)) := (Below.refl _ _).alloc (Nat.le_refl _) _
  have HV := Lib.hid (hv.below hb0)
  have HS := Lib.hid (S.below hb0)
  have HM := Lib.hid hm
  clear hv S hm
  by_cases hp : 0 ≤ x ∧ x < gw ∧ 0 ≤ y ∧ y < gh
  · obtain ⟨p1, p2, p3, p4⟩ := hp
    have d1 : decide (x < 0) = false := by rw [decide_eq_false_iff_not]; omega
    have d2 : decide (gw ≤ x) = false := by rw [decide_eq_false_iff_not]; omega
    have d3 : decide (y < 0) = false := by rw [decide_eq_false_iff_not]; omega
    have d4 : decide (gh ≤ y) = false := by rw [decide_eq_false_iff_not]; omega
    cases k
    · have HR := Lib.hid (show rt ⟨gw, gh, l, x, y, false⟩ ↔ right gw gh l from ⟨fun h => h.1, fun h => ⟨h, p1, p2, p3, p4, fun h => by cases h⟩⟩)
      go_enter Tryd.func15, Tryd.ntmps15
      go_wp2_with fail
      refine (is_grid_any gw gh _ l _ HV.out.rw HM.out HS.out).mono ?_
      rintro e w1 ⟨rfl, hb1⟩
      go_wp2
      go_ret
      exact ⟨ret_bool (by rw [decide_eq_decide]; exact HR.out.symm), hb0.trans (hb1.mono hb0.size)⟩
    · by_cases hx : x = gw - 1
      · have HR := Lib.hid (show rt ⟨gw, gh, l, x, y, true⟩ ↔ right gw gh l from ⟨fun h => h.1, fun h => ⟨h, p1, p2, p3, p4, fun _ => hx⟩⟩)
        have b1 : (x == gw - 1) = true := by rw [beq_iff_eq]; exact hx
        have b2 : (x != gw - 1) = false := by rw [bne, b1]; rfl
        clear hx
        go_enter Tryd.func15, Tryd.ntmps15
        go_wp2_with fail
        refine (is_grid_any gw gh _ l _ HV.out.rw HM.out HS.out).mono ?_
        rintro e w1 ⟨rfl, hb1⟩
        go_wp2
        go_ret
        exact ⟨ret_bool (by rw [decide_eq_decide]; exact HR.out.symm), hb0.trans (hb1.mono hb0.size)⟩
      · have HR := Lib.hid (show ¬ rt ⟨gw, gh, l, x, y, true⟩ from fun h => hx (h.2.2.2.2.2 rfl))
        have b1 : (x == gw - 1) = false := by rw [beq_eq_false_iff_ne]; exact hx
        have b2 : (x != gw - 1) = true := by rw [bne, b1]; rfl
        clear hx
        go_enter Tryd.func15, Tryd.ntmps15
        go_wp2
        go_ret
        exact ⟨ret_bool (decide_eq_false HR.out).symm, hb0⟩
  · have HR := Lib.hid (show ¬ rt ⟨gw, gh, l, x, y, k⟩ from fun h => hp ⟨h.2.1, h.2.2.1, h.2.2.2.1, h.2.2.2.2.1⟩)
    rcases (show x < 0 ∨ 0 ≤ x ∧ gw ≤ x ∨ 0 ≤ x ∧ x < gw ∧ y < 0 ∨ 0 ≤ x ∧ x < gw ∧ 0 ≤ y ∧ gh ≤ y by omega) with h | ⟨h1, h⟩ | ⟨h1, h2, h⟩ | ⟨h1, h2, h3, h⟩
    all_goals
      clear hp
      go_enter Tryd.func15, Tryd.ntmps15
      go_wp2
      all_goals first | (exfalso; omega) | (go_ret; exact ⟨ret_bool (decide_eq_false HR.out).symm, hb0⟩)
set_option maxHeartbeats 4000000 in
theorem tdo_any (gw gh x y K a b r : Int) (k : Bool) (l : List (Int × Int)) (A : Option Addr) (cap : Nat) (W : World) (hv : Rc W (.slice A l.length cap) l) (hm : l.length ≤ maxLen) (hg : gw ≤ 9223372036854775807) (S : Spans W 2) (T : Blk W 0) (F : Forms W 1) :
    Calls Tryd.prog 11 #[.agg #[.int .i64 gw, .int .i64 gh, .slice A l.length cap, .int .i64 x, .int .i64 y, .bool k], .agg #[.int .i64 K, .int .i64 a, .int .i64 b, .int .i32 r]] W fun e w' => DO (isR (K, a, b, r) && decide (rt ⟨gw, gh, l, x, y, k⟩)) 1 W.heap.size (.slice A l.length cap) l w' e (doT ⟨gw, gh, l, x, y, k⟩ (K, a, b, r)) ∧ Below W.heap.size W w' := by
  have hb0 : Below W.heap.size W (((W.alloc (.cells #[.int .i64 gw, .int .i64 gh, .slice A l.length cap, .int .i64 x, .int .i64 y, .bool k] 26)).alloc (.cells #[.int .i64 K, .int .i64 a, .int .i64 b, .int .i32 r] 36)).alloc (.cells #[.int .i64 0, .int .i64 0, .slice none 0 0, .int .i64 0, .int .i64 0, .bool false] 26)) := (((Below.refl _ _).alloc (Nat.le_refl _) _).alloc (by simp) _).alloc (by simp; omega) _
  have HV0 := Lib.hid hv
  have hz3 : (((W.alloc (.cells #[.int .i64 gw, .int .i64 gh, .slice A l.length cap, .int .i64 x, .int .i64 y, .bool k] 26)).alloc (.cells #[.int .i64 K, .int .i64 a, .int .i64 b, .int .i32 r] 36)).alloc (.cells #[.int .i64 0, .int .i64 0, .slice none 0 0, .int .i64 0, .int .i64 0, .bool false] 26)).heap.size = W.heap.size + 1 + 1 + 1 := by simp
  have G0 := Lib.hid (carryA (.cells #[.int .i64 0, .int .i64 0, .slice none 0 0, .int .i64 0, .int .i64 0, .bool false] 26) (carryA (.cells #[.int .i64 K, .int .i64 a, .int .i64 b, .int .i32 r] 36) (heap_alloc_new W (.cells #[.int .i64 gw, .int .i64 gh, .slice A l.length cap, .int .i64 x, .int .i64 y, .bool k] 26))))
  have G1 := Lib.hid (carryA (.cells #[.int .i64 0, .int .i64 0, .slice none 0 0, .int .i64 0, .int .i64 0, .bool false] 26) (heap_alloc_new (W.alloc (.cells #[.int .i64 gw, .int .i64 gh, .slice A l.length cap, .int .i64 x, .int .i64 y, .bool k] 26)) (.cells #[.int .i64 K, .int .i64 a, .int .i64 b, .int .i32 r] 36)))
  have G2 := Lib.hid (heap_alloc_new ((W.alloc (.cells #[.int .i64 gw, .int .i64 gh, .slice A l.length cap, .int .i64 x, .int .i64 y, .bool k] 26)).alloc (.cells #[.int .i64 K, .int .i64 a, .int .i64 b, .int .i32 r] 36)) (.cells #[.int .i64 0, .int .i64 0, .slice none 0 0, .int .i64 0, .int .i64 0, .bool false] 26))
  rw [show (W.alloc (.cells #[.int .i64 gw, .int .i64 gh, .slice A l.length cap, .int .i64 x, .int .i64 y, .bool k] 26)).heap.size = W.heap.size + 1 by simp] at G1
  rw [show ((W.alloc (.cells #[.int .i64 gw, .int .i64 gh, .slice A l.length cap, .int .i64 x, .int .i64 y, .bool k] 26)).alloc (.cells #[.int .i64 K, .int .i64 a, .int .i64 b, .int .i32 r] 36)).heap.size = W.heap.size + 1 + 1 by simp] at G2
  have HT := Lib.hid (fun (w' : World) hb => T.below (w' := w') hb)
  have HSP := Lib.hid (fun (w' : World) hb => S.below (w' := w') hb)
  have HFF := Lib.hid (F.below hb0)
  have HM := Lib.hid hm
  clear hv T S F hm
  obtain ⟨u, hu⟩ : ∃ u : Trm, doT ⟨gw, gh, l, x, y, k⟩ (K, a, b, r) = u := ⟨_, rfl⟩
  have HU := Lib.hid hu
  rw [hu]
  clear hu
  cases hc : isR (K, a, b, r)
  · have HC := Lib.hid hc
    clear hc
    go_enter Tryd.func11, Tryd.ntmps11
    go_wp2_with fail
    refine (vis_any K a b r _ HFF.out).mono ?_
    rintro e w1 ⟨rfl, hw1⟩
    rw [show isC K a b r = false from HC.out]
    have HB1 := Lib.hid (hb0.trans (hw1.mono hb0.size))
    have g2 := carry hw1 G2.out
    obtain ⟨⟨k0, k1, k2, k3, k4, k5⟩, ⟨e0, e1, e2, e3, e4, e5⟩, z2⟩ := blk6 g2
    clear g2 hw1 hb0 hz3
    go_wp2
    refine bodyPost_ret (v := .tuple #[.agg #[.int .i64 0, .int .i64 0, .slice none 0 0, .int .i64 0, .int .i64 0, .bool false], .int .i64 1]) (by simp [results, Tryd.results11, go_sem, *]) rfl ⟨DO.no rfl rfl, ?_⟩
    repeat (first | (with_reducible exact HB1.out) | refine Below.setCell ?_ (by simp; omega) _)
  · have HC := Lib.hid hc
    clear hc
    go_enter Tryd.func11, Tryd.ntmps11
    go_wp2_with fail
    refine (vis_any K a b r _ HFF.out).mono ?_
    rintro e w1 ⟨rfl, hw1⟩
    rw [show isC K a b r = true from HC.out]
    have hB1 := hb0.trans (hw1.mono hb0.size)
    have g0 := carry hw1 G0.out
    have g1 := carry hw1 G1.out
    have g2 := carry hw1 G2.out
    have K0 := Lib.hid g0
    have K1 := Lib.hid g1
    have K2 := Lib.hid g2
    have hz1 : W.heap.size + 1 + 1 + 1 ≤ w1.heap.size := by have := hw1.size; rw [hz3] at this; exact this
    obtain ⟨⟨c0, c1, c2, c3, c4, c5⟩, ⟨f0, f1, f2, f3, f4, f5⟩, z0⟩ := blk6 g0
    clear g0 g1 g2 hw1 hb0 hz3
    go_wp2_with fail
    refine (tis_any gw gh x y k l A cap _ (HV0.out.below hB1) HM.out hg (HSP.out _ hB1)).mono ?_
    rintro e w2 ⟨rfl, hw2⟩
    have hB2 := hB1.trans (hw2.mono hB1.size)
    have g0 := carry hw2 K0.out
    have g1 := carry hw2 K1.out
    have g2 := carry hw2 K2.out
    have hz2 : W.heap.size + 1 + 1 + 1 ≤ w2.heap.size := by have := hw2.size; omega
    have L2 := Lib.hid g2
    clear c0 c1 c2 c3 c4 c5 f0 f1 f2 f3 f4 f5 z0 hw2 hB1
    by_cases hr : rt ⟨gw, gh, l, x, y, k⟩
    · rw [decide_eq_true hr]
      have HR := Lib.hid hr
      clear hr
      obtain ⟨⟨c0, c1, c2, c3, c4, c5⟩, ⟨f0, f1, f2, f3, f4, f5⟩, z0⟩ := blk6 g0
      have q0 := cell_of_row _ _ 0 _ _ (0, 0) g1
      have q1 := cell_of_row _ _ 1 _ _ (0, 0) g1
      have q2 := cell_of_row _ _ 2 _ _ (0, 0) g1
      have q3 := cell_of_row _ _ 3 _ _ (0, 0) g1
      have z1 : W.heap.size + 1 < w2.heap.size := by omega
      clear g0 g1 g2
      go_wp2_with fail
      refine (after_any gw gh x y K a b r k l HR.out HC.out A cap _ (HV0.out.below hB2) (HSP.out _ hB2) (HT.out _ hB2)).mono ?_
      rintro e w3 ⟨ho, hw3⟩
      rw [HU.out] at ho
      have hB3 := hB2.trans (hw3.mono hB2.size)
      obtain ⟨A1, cap1, rfl, hk⟩ := ho.op (HV0.out.below hB3)
      have g2 := carry hw3 L2.out
      have HK := Lib.hid (hk.mono (B' := W.heap.size + 1 + 1 + 1) (by omega))
      have HB3 := Lib.hid hB3
      clear hk ho hw3 hB3 hB2 c0 c1 c2 c3 c4 c5 f0 f1 f2 f3 f4 f5 z0 z1 q0 q1 q2 q3 HU
      obtain ⟨uw, uh, ul, ux, uy, uk⟩ := u
      obtain ⟨⟨k0, k1, k2, k3, k4, k5⟩, ⟨e0, e1, e2, e3, e4, e5⟩, z2⟩ := blk6 g2
      clear g2
      go_wp2
      refine bodyPost_ret (v := .tuple #[.agg #[.int .i64 uw, .int .i64 uh, .slice A1 ul.length cap1, .int .i64 ux, .int .i64 uy, .bool uk], .int .i64 0]) (by simp [results, Tryd.results11, go_sem, *]) rfl ⟨DO.yes (by rw [decide_eq_true HR.out]; rfl) rfl rfl ?_, ?_⟩
      · refine Kp.mono (B := W.heap.size + 1 + 1 + 1) ?_ (by omega)
        have HO' := HK.out
        repeat (first | (with_reducible exact HO') | refine Kp.set1 ?_ _ _ _ (by omega))
      · repeat (first | (with_reducible exact HB3.out) | refine Below.setCell ?_ (by simp; omega) _)
    · rw [decide_eq_false hr]
      have HR := Lib.hid hr
      have HB2 := Lib.hid hB2
      clear hr hB2
      obtain ⟨⟨k0, k1, k2, k3, k4, k5⟩, ⟨e0, e1, e2, e3, e4, e5⟩, z2⟩ := blk6 g2
      clear g0 g1 g2
      go_wp2
      refine bodyPost_ret (v := .tuple #[.agg #[.int .i64 0, .int .i64 0, .slice none 0 0, .int .i64 0, .int .i64 0, .bool false], .int .i64 1]) (by simp [results, Tryd.results11, go_sem, *]) rfl ⟨DO.no (by rw [decide_eq_false HR.out]; rfl) rfl, ?_⟩
      repeat (first | (with_reducible exact HB2.out) | refine Below.setCell ?_ (by simp; omega) _)
end Go.Proofs.YtkkioajmfkcloaaDoor
/- The program's New and Resize of a terminal. -/
set_option linter.unusedVariables false
namespace Go.Proofs.YtkkioajmfkcloaaDoor
open Go.RowKit Gl L Wd Gd Tm Vt
theorem rc_nil (w : World) : Rc w (.slice none 0 0) [] := ⟨none, 0, rfl, Nat.le_refl _, rfl, none, 0, rfl, .inl ⟨rfl, fun _ => rfl⟩⟩
set_option maxHeartbeats 4000000 in
theorem tnew_any (gw gh : Int) (W : World) (T : Blk W 0) :
    Calls Tryd.prog 10 #[.int .i64 gw, .int .i64 gh] W fun e w' => DO (sidesB gw gh) 4 W.heap.size (.slice none 0 0) [] w' e (nwT gw gh) ∧ Below W.heap.size W w' := by
  have hb0 : Below W.heap.size W (W.alloc (.cells #[.int .i64 0, .int .i64 0, .slice none 0 0, .int .i64 0, .int .i64 0, .bool false] 26)) := (Below.refl _ _).alloc (Nat.le_refl _) _
  have G0 := Lib.hid (heap_alloc_new W (.cells #[.int .i64 0, .int .i64 0, .slice none 0 0, .int .i64 0, .int .i64 0, .bool false] 26))
  obtain ⟨u, hu⟩ : ∃ u : Trm, nwT gw gh = u := ⟨_, rfl⟩
  have HU := Lib.hid hu
  rw [hu]
  clear hu
  cases hc : sidesB gw gh
  · have HC := Lib.hid hc
    clear hc
    go_enter Tryd.func10, Tryd.ntmps10
    go_wp2_with fail
    refine (new_any gw gh _ (T.below hb0)).mono ?_
    rintro e w1 ⟨ho, hw1⟩
    obtain rfl := ho.isnt HC.out
    have K0 := Lib.hid (carry hw1 G0.out)
    have HB := Lib.hid (hb0.trans (hw1.mono hb0.size))
    clear hw1 hb0 ho
    go_upto_region 2 with fail
    obtain ⟨wq, hwq⟩ : ∃ wq, wq = w1.alloc (.cells #[.int .i64 0, .int .i64 0, .slice none 0 0] 24) := ⟨_, rfl⟩
    rw [← hwq]
    obtain ⟨⟨c0, c1, c2, c3, c4, c5⟩, ⟨f0, f1, f2, f3, f4, f5⟩, z0⟩ := blk6 (show wq.heap[W.heap.size]? = some (.cells #[.int .i64 0, .int .i64 0, .slice none 0 0, .int .i64 0, .int .i64 0, .bool false] 26 (0, 0)) by rw [hwq]; exact carryA _ K0.out)
    obtain ⟨g0, g1, g2, -, -, -, gz⟩ := blk3 (show wq.heap[w1.heap.size]? = some (.cells #[.int .i64 0, .int .i64 0, .slice none 0 0] 24 (0, 0)) by rw [hwq]; exact heap_alloc_new _ _)
    have HB := Lib.hid (show Below W.heap.size W wq by rw [hwq]; exact HB.out.alloc HB.out.size _)
    clear hwq
    go_wp2
    refine bodyPost_ret (v := .tuple #[.agg #[.int .i64 0, .int .i64 0, .slice none 0 0, .int .i64 0, .int .i64 0, .bool false], .int .i64 4]) (by simp [results, Tryd.results10, go_sem, *]) rfl ⟨DO.no rfl rfl, ?_⟩
    repeat (first | (with_reducible exact HB.out) | (with_reducible exact HB.out.alloc HB.out.size _) | refine Below.setCell ?_ (by simp) _)
  · have HC := Lib.hid hc
    clear hc
    go_enter Tryd.func10, Tryd.ntmps10
    go_wp2_with fail
    refine (new_any gw gh _ (T.below hb0)).mono ?_
    rintro e w1 ⟨ho, hw1⟩
    obtain ⟨v', rfl, hown⟩ := ho.is HC.out
    obtain ⟨g, cap', rfl, hcap', hrow⟩ := hown
    have HO := Lib.hid ((Own.sh rfl hcap' hrow).mono (B' := W.heap.size + 1) (by simp))
    have K0 := Lib.hid (carry hw1 G0.out)
    have HB := Lib.hid (hb0.trans (hw1.mono hb0.size))
    clear hw1 hb0 ho hrow
    have HU2 := Lib.hid (show u = ⟨gw, gh, newL gw gh, 0, 0, false⟩ from HU.out.symm)
    generalize hN : (newL gw gh).length = N at *
    go_upto_region 2 with fail
    obtain ⟨wq, hwq⟩ : ∃ wq, wq = w1.alloc (.cells #[.int .i64 gw, .int .i64 gh, .slice (some ⟨g, 0, none⟩) N cap'] 24) := ⟨_, rfl⟩
    rw [← hwq]
    obtain ⟨⟨c0, c1, c2, c3, c4, c5⟩, ⟨f0, f1, f2, f3, f4, f5⟩, z0⟩ := blk6 (show wq.heap[W.heap.size]? = some (.cells #[.int .i64 0, .int .i64 0, .slice none 0 0, .int .i64 0, .int .i64 0, .bool false] 26 (0, 0)) by rw [hwq]; exact carryA _ K0.out)
    obtain ⟨g0, g1, g2, -, -, -, gz⟩ := blk3 (show wq.heap[w1.heap.size]? = some (.cells #[.int .i64 gw, .int .i64 gh, .slice (some ⟨g, 0, none⟩) N cap'] 24 (0, 0)) by rw [hwq]; exact heap_alloc_new _ _)
    have HB := Lib.hid (show Below W.heap.size W wq by rw [hwq]; exact HB.out.alloc HB.out.size _)
    have HO := Lib.hid (show Own (W.heap.size + 1) wq (.slice (some ⟨g, 0, none⟩) N cap') (newL gw gh) by rw [hwq]; exact HO.out.below ((Below.refl _ _).alloc (Nat.le_refl _) _))
    clear hwq
    go_wp2
    refine bodyPost_ret (v := .tuple #[.agg #[.int .i64 gw, .int .i64 gh, .slice (some ⟨g, 0, none⟩) N cap', .int .i64 0, .int .i64 0, .bool false], .int .i64 0]) (by simp [results, Tryd.results10, go_sem, *]) rfl ⟨DO.yes rfl HU2.out rfl ?_, ?_⟩
    · refine .inr (Own.mono (B := W.heap.size + 1) ?_ (by omega))
      have HO' := HO.out
      repeat (first | (with_reducible exact HO') | refine Own.set1 ?_ _ _ _ (by omega))
    · repeat (first | (with_reducible exact HB.out) | (with_reducible exact HB.out.alloc HB.out.size _) | refine Below.setCell ?_ (by simp) _)
/-- What is wrong with a terminal of other sides. -/
def szE (t : Trm) : Int := if rt t then 4 else 1
set_option maxHeartbeats 8000000 in
theorem tsize_any (gw gh x y fw fh : Int) (k : Bool) (l : List (Int × Int)) (A : Option Addr) (cap : Nat) (W : World) (hv : Rc W (.slice A l.length cap) l) (hm : l.length ≤ maxLen) (hg : gw ≤ 9223372036854775807) (S : Spans W 2) (T : Blk W 0) :
    Calls Tryd.prog 6 #[.agg #[.int .i64 gw, .int .i64 gh, .slice A l.length cap, .int .i64 x, .int .i64 y, .bool k], .int .i64 fw, .int .i64 fh] W fun e w' => DO (decide (rt ⟨gw, gh, l, x, y, k⟩) && sidesB fw fh) (szE ⟨gw, gh, l, x, y, k⟩) W.heap.size (.slice none 0 0) [] w' e (szT ⟨gw, gh, l, x, y, k⟩ fw fh) ∧ Below W.heap.size W w' := by
  have hb0 : Below W.heap.size W ((W.alloc (.cells #[.int .i64 gw, .int .i64 gh, .slice A l.length cap, .int .i64 x, .int .i64 y, .bool k] 26)).alloc (.cells #[.int .i64 0, .int .i64 0, .slice none 0 0, .int .i64 0, .int .i64 0, .bool false] 26)) := ((Below.refl _ _).alloc (Nat.le_refl _) _).alloc (by simp) _
  have HV0 := Lib.hid hv
  have hz3 : ((W.alloc (.cells #[.int .i64 gw, .int .i64 gh, .slice A l.length cap, .int .i64 x, .int .i64 y, .bool k] 26)).alloc (.cells #[.int .i64 0, .int .i64 0, .slice none 0 0, .int .i64 0, .int .i64 0, .bool false] 26)).heap.size = W.heap.size + 1 + 1 := by simp
  have G0 := Lib.hid (carryA (.cells #[.int .i64 0, .int .i64 0, .slice none 0 0, .int .i64 0, .int .i64 0, .bool false] 26) (heap_alloc_new W (.cells #[.int .i64 gw, .int .i64 gh, .slice A l.length cap, .int .i64 x, .int .i64 y, .bool k] 26)))
  have G2 := Lib.hid (heap_alloc_new (W.alloc (.cells #[.int .i64 gw, .int .i64 gh, .slice A l.length cap, .int .i64 x, .int .i64 y, .bool k] 26)) (.cells #[.int .i64 0, .int .i64 0, .slice none 0 0, .int .i64 0, .int .i64 0, .bool false] 26))
  rw [show (W.alloc (.cells #[.int .i64 gw, .int .i64 gh, .slice A l.length cap, .int .i64 x, .int .i64 y, .bool k] 26)).heap.size = W.heap.size + 1 by simp] at G2
  have HT := Lib.hid (fun (w' : World) hb => T.below (w' := w') hb)
  have HSP := Lib.hid (fun (w' : World) hb => S.below (w' := w') hb)
  have HM := Lib.hid hm
  clear hv T S hm
  obtain ⟨u, hu⟩ : ∃ u : Trm, szT ⟨gw, gh, l, x, y, k⟩ fw fh = u := ⟨_, rfl⟩
  have HU := Lib.hid hu
  rw [hu]
  clear hu
  by_cases hr : rt ⟨gw, gh, l, x, y, k⟩
  · have HR := Lib.hid hr
    have HE := Lib.hid (show szE ⟨gw, gh, l, x, y, k⟩ = 4 from if_pos hr)
    rw [decide_eq_true hr, HE.out, Bool.true_and]
    have HFE := Lib.hid (show fitE gw gh l = 4 from if_pos hr.1)
    have HFB := Lib.hid (show fitB gw gh l fw fh = sidesB fw fh by unfold fitB; rw [decide_eq_true hr.1]; rfl)
    obtain ⟨-, hx0, hx1, hy0, hy1, -⟩ := hr
    simp only at hx0 hx1 hy0 hy1
    cases hc : sidesB fw fh
    · have HC := Lib.hid (HFB.out.trans hc)
      clear hc
      go_enter Tryd.func6, Tryd.ntmps6
      go_wp2_with fail
      refine (tis_any gw gh x y k l A cap _ (HV0.out.below hb0) HM.out hg (HSP.out _ hb0)).mono ?_
      rintro e w1 ⟨rfl, hw1⟩
      rw [decide_eq_true HR.out]
      have hB1 := hb0.trans (hw1.mono hb0.size)
      have g0 := carry hw1 G0.out
      have g2 := carry hw1 G2.out
      have K2 := Lib.hid g2
      obtain ⟨⟨c0, c1, c2, c3, c4, c5⟩, ⟨f0, f1, f2, f3, f4, f5⟩, z0⟩ := blk6 g0
      clear g0 g2
      go_wp2_with fail
      refine (fit_any gw gh fw fh _ l _ (HV0.out.below hB1).rw (HV0.out.below hB1).cap HM.out (HSP.out _ hB1) (HT.out _ hB1)).mono ?_
      rintro e w2 ⟨ho, hw2⟩
      obtain rfl := ho.isnt HC.out
      rw [HFE.out]
      have HB2 := Lib.hid (hB1.trans (hw2.mono hB1.size))
      have g2 := carry hw2 K2.out
      clear c0 c1 c2 c3 c4 c5 f0 f1 f2 f3 f4 f5 z0 hw1 hw2 hB1 hb0 hz3 ho
      have L2 := Lib.hid g2
      clear g2
      go_upto_region 5 with fail
      obtain ⟨wq, hwq⟩ : ∃ wq, wq = w2.alloc (.cells #[.int .i64 0, .int .i64 0, .slice none 0 0] 24) := ⟨_, rfl⟩
      rw [← hwq]
      obtain ⟨⟨k0, k1, k2, k3, k4, k5⟩, ⟨e0, e1, e2, e3, e4, e5⟩, z2⟩ := blk6 (show wq.heap[W.heap.size + 1]? = some (.cells #[.int .i64 0, .int .i64 0, .slice none 0 0, .int .i64 0, .int .i64 0, .bool false] 26 (0, 0)) by rw [hwq]; exact carryA _ L2.out)
      have HB2 := Lib.hid (show Below W.heap.size W wq by rw [hwq]; exact HB2.out.alloc HB2.out.size _)
      clear hwq
      go_wp2
      refine bodyPost_ret (v := .tuple #[.agg #[.int .i64 0, .int .i64 0, .slice none 0 0, .int .i64 0, .int .i64 0, .bool false], .int .i64 4]) (by simp [results, Tryd.results6, go_sem, *]) rfl ⟨DO.no rfl rfl, ?_⟩
      repeat (first | (with_reducible exact HB2.out) | (with_reducible exact HB2.out.alloc HB2.out.size _) | refine Below.setCell ?_ (by simp) _)
    · have HC := Lib.hid (HFB.out.trans hc)
      have hs : 2 ≤ fw ∧ fw ≤ 80 ∧ 1 ≤ fh ∧ fh ≤ 24 := by unfold sidesB at hc; rwa [decide_eq_true_iff] at hc
      clear hc
      go_enter Tryd.func6, Tryd.ntmps6
      go_wp2_with fail
      refine (tis_any gw gh x y k l A cap _ (HV0.out.below hb0) HM.out hg (HSP.out _ hb0)).mono ?_
      rintro e w1 ⟨rfl, hw1⟩
      rw [decide_eq_true HR.out]
      have hB1 := hb0.trans (hw1.mono hb0.size)
      have g0 := carry hw1 G0.out
      have g2 := carry hw1 G2.out
      have K0 := Lib.hid g0
      have K2 := Lib.hid g2
      have hz1 : W.heap.size + 1 + 1 ≤ w1.heap.size := by have := hw1.size; rw [hz3] at this; exact this
      obtain ⟨⟨c0, c1, c2, c3, c4, c5⟩, ⟨f0, f1, f2, f3, f4, f5⟩, z0⟩ := blk6 g0
      clear g0 g2
      go_wp2_with fail
      refine (fit_any gw gh fw fh _ l _ (HV0.out.below hB1).rw (HV0.out.below hB1).cap HM.out (HSP.out _ hB1) (HT.out _ hB1)).mono ?_
      rintro e w2 ⟨ho, hw2⟩
      obtain ⟨v', rfl, hown⟩ := ho.is HC.out
      obtain ⟨g, cap', rfl, hcap', hrow⟩ := hown
      have HO := Lib.hid ((Own.sh rfl hcap' hrow).mono (B' := W.heap.size + 1 + 1) (by omega))
      have HB2 := Lib.hid (hB1.trans (hw2.mono hB1.size))
      have g0 := carry hw2 K0.out
      have g2 := carry hw2 K2.out
      clear c0 c1 c2 c3 c4 c5 f0 f1 f2 f3 f4 f5 z0 hw1 hw2 hB1 hb0 hz3 ho hrow
      have L0 := Lib.hid g0
      have L2 := Lib.hid g2
      clear g0 g2
      have HU2 := Lib.hid (show u = ⟨fw, fh, fitV gw gh l fw fh, wi x (fw - 1), wi y (fh - 1), false⟩ from HU.out.symm)
      generalize hN : (fitV gw gh l fw fh).length = N at *
      go_upto_region 6 with fail
      obtain ⟨wq, hwq⟩ : ∃ wq, wq = w2.alloc (.cells #[.int .i64 fw, .int .i64 fh, .slice (some ⟨g, 0, none⟩) N cap'] 24) := ⟨_, rfl⟩
      rw [← hwq]
      obtain ⟨⟨c0, c1, c2, c3, c4, c5⟩, -, z0⟩ := blk6 (show wq.heap[W.heap.size]? = some (.cells #[.int .i64 gw, .int .i64 gh, .slice A l.length cap, .int .i64 x, .int .i64 y, .bool k] 26 (0, 0)) by rw [hwq]; exact carryA _ L0.out)
      obtain ⟨⟨k0, k1, k2, k3, k4, k5⟩, ⟨e0, e1, e2, e3, e4, e5⟩, z2⟩ := blk6 (show wq.heap[W.heap.size + 1]? = some (.cells #[.int .i64 0, .int .i64 0, .slice none 0 0, .int .i64 0, .int .i64 0, .bool false] 26 (0, 0)) by rw [hwq]; exact carryA _ L2.out)
      obtain ⟨g0, g1, g2, -, -, -, gz⟩ := blk3 (show wq.heap[w2.heap.size]? = some (.cells #[.int .i64 fw, .int .i64 fh, .slice (some ⟨g, 0, none⟩) N cap'] 24 (0, 0)) by rw [hwq]; exact heap_alloc_new _ _)
      have HB2 := Lib.hid (show Below W.heap.size W wq by rw [hwq]; exact HB2.out.alloc HB2.out.size _)
      have HO := Lib.hid (show Own (W.heap.size + 1 + 1) wq (.slice (some ⟨g, 0, none⟩) N cap') (fitV gw gh l fw fh) by rw [hwq]; exact HO.out.below ((Below.refl _ _).alloc (Nat.le_refl _) _))
      clear hwq
      go_wp2
      all_goals
        refine bodyPost_ret (v := .tuple #[.agg #[.int .i64 fw, .int .i64 fh, .slice (some ⟨g, 0, none⟩) N cap', .int .i64 (wi x (fw - 1)), .int .i64 (wi y (fh - 1)), .bool false], .int .i64 0]) ?_ rfl ⟨DO.yes rfl HU2.out rfl ?_, ?_⟩
        · unfold wi
          simp [results, Tryd.results6, go_sem, *]
          constructor <;> (repeat' split) <;> omega
        · refine .inr (Own.mono (B := W.heap.size + 1 + 1) ?_ (by omega))
          have HO' := HO.out
          repeat (first | (with_reducible exact HO') | refine Own.set1 ?_ _ _ _ (by omega))
        · repeat (first | (with_reducible exact HB2.out) | (with_reducible exact HB2.out.alloc HB2.out.size _) | refine Below.setCell ?_ (by simp) _)
  · have HR := Lib.hid hr
    have HE := Lib.hid (show szE ⟨gw, gh, l, x, y, k⟩ = 1 from if_neg hr)
    rw [decide_eq_false hr, HE.out, Bool.false_and]
    clear hr
    go_enter Tryd.func6, Tryd.ntmps6
    go_wp2_with fail
    refine (tis_any gw gh x y k l A cap _ (HV0.out.below hb0) HM.out hg (HSP.out _ hb0)).mono ?_
    rintro e w1 ⟨rfl, hw1⟩
    rw [decide_eq_false HR.out]
    have HB1 := Lib.hid (hb0.trans (hw1.mono hb0.size))
    have g2 := carry hw1 G2.out
    obtain ⟨⟨k0, k1, k2, k3, k4, k5⟩, ⟨e0, e1, e2, e3, e4, e5⟩, z2⟩ := blk6 g2
    clear g2 hw1 hb0 hz3
    go_wp2
    refine bodyPost_ret (v := .tuple #[.agg #[.int .i64 0, .int .i64 0, .slice none 0 0, .int .i64 0, .int .i64 0, .bool false], .int .i64 1]) (by simp [results, Tryd.results6, go_sem, *]) rfl ⟨DO.no rfl rfl, ?_⟩
    repeat (first | (with_reducible exact HB1.out) | refine Below.setCell ?_ (by simp) _)
end Go.Proofs.YtkkioajmfkcloaaDoor
