/- The program's methods that lead the cursor, and those that blank. -/
import Derived.Test.YtkkioajmfkcloaaDoorTmA
import Derived.Test.YtkkioajmfkcloaaDoorGdN
set_option linter.unusedVariables false
namespace Go.Proofs.YtkkioajmfkcloaaDoor
open Go.RowKit Gl L Wd Gd Tm
set_option maxHeartbeats 2000000 in
theorem mplace_any (gw gh x y kk a b r : Int) (k : Bool) (l : List (Int × Int)) (hw : 2 ≤ gw ∧ gw ≤ 80) (hh : 1 ≤ gh ∧ gh ≤ 24) (hx : 0 ≤ x ∧ x < gw) (hy : 0 ≤ y ∧ y < gh) (ha : 0 ≤ a ∧ a ≤ 100) (A : Option Addr) (cap : Nat) (W : World) (hv : Rc W (.slice A l.length cap) l) :
    Calls Tryd.prog 51 #[.agg #[.int .i64 gw, .int .i64 gh, .slice A l.length cap, .int .i64 x, .int .i64 y, .bool k], .agg #[.int .i64 kk, .int .i64 a, .int .i64 b, .int .i32 r]] W fun e w' => TO W.heap.size (.slice A l.length cap) l w' e ⟨gw, gh, l, wi (b) (gw - 1), wi (a) (gh - 1), k⟩ ∧ Below W.heap.size W w' := by
  have hb0 : Below W.heap.size W (((W.alloc (.cells #[.int .i64 gw, .int .i64 gh, .slice A l.length cap, .int .i64 x, .int .i64 y, .bool k] 71)).alloc (.cells #[.int .i64 kk, .int .i64 a, .int .i64 b, .int .i32 r] 36)).alloc (.cells #[.int .i64 0, .int .i64 0, .slice none 0 0, .int .i64 0, .int .i64 0, .bool false] 71)) := (((Below.refl _ _).alloc (Nat.le_refl _) _).alloc (by simp) _).alloc (by simp; omega) _
  have G1 := Lib.hid (heap_alloc_new ((W.alloc (.cells #[.int .i64 gw, .int .i64 gh, .slice A l.length cap, .int .i64 x, .int .i64 y, .bool k] 71)).alloc (.cells #[.int .i64 kk, .int .i64 a, .int .i64 b, .int .i32 r] 36)) (.cells #[.int .i64 0, .int .i64 0, .slice none 0 0, .int .i64 0, .int .i64 0, .bool false] 71))
  have HV := Lib.hid hv
  clear hv
  go_enter Tryd.func51, Tryd.ntmps51
  go_wp2_with fail
  refine (lead_any gw gh x y k A l.length cap (b) (a) _ hw hh).mono ?_
  rintro e w1 ⟨rfl, hw1⟩
  have hG1 := carry hw1 G1.out
  rw [show ((W.alloc (.cells #[.int .i64 gw, .int .i64 gh, .slice A l.length cap, .int .i64 x, .int .i64 y, .bool k] 71)).alloc (.cells #[.int .i64 kk, .int .i64 a, .int .i64 b, .int .i32 r] 36)).heap.size = W.heap.size + 1 + 1 by simp] at hG1
  obtain ⟨⟨k0, k1, k2, k3, k4, k5⟩, ⟨e0, e1, e2, e3, e4, e5⟩, z1⟩ := blk6 hG1
  have HB := Lib.hid (hb0.trans (hw1.mono hb0.size))
  clear hG1 hw1 hb0
  generalize hX : wi (b) (gw - 1) = X
  generalize hY : wi (a) (gh - 1) = Y
  have HX := Lib.hid hX
  have HY := Lib.hid hY
  clear hX hY
  go_wp2
  refine bodyPost_ret (v := .agg #[.int .i64 gw, .int .i64 gh, .slice A l.length cap, .int .i64 (X), .int .i64 (Y), .bool k]) (by simp [results, Tryd.results51, go_sem, *]) rfl ⟨TO.of (by rw [HX.out, HY.out]) rfl Kp.same, ?_⟩
  repeat (first | (with_reducible exact HB.out) | refine Below.setCell ?_ (by simp; omega) _)
set_option maxHeartbeats 2000000 in
theorem mup_any (gw gh x y kk a b r : Int) (k : Bool) (l : List (Int × Int)) (hw : 2 ≤ gw ∧ gw ≤ 80) (hh : 1 ≤ gh ∧ gh ≤ 24) (hx : 0 ≤ x ∧ x < gw) (hy : 0 ≤ y ∧ y < gh) (ha : 0 ≤ a ∧ a ≤ 100) (A : Option Addr) (cap : Nat) (W : World) (hv : Rc W (.slice A l.length cap) l) :
    Calls Tryd.prog 52 #[.agg #[.int .i64 gw, .int .i64 gh, .slice A l.length cap, .int .i64 x, .int .i64 y, .bool k], .agg #[.int .i64 kk, .int .i64 a, .int .i64 b, .int .i32 r]] W fun e w' => TO W.heap.size (.slice A l.length cap) l w' e ⟨gw, gh, l, wi (x) (gw - 1), wi (y - a) (gh - 1), k⟩ ∧ Below W.heap.size W w' := by
  have hb0 : Below W.heap.size W (((W.alloc (.cells #[.int .i64 gw, .int .i64 gh, .slice A l.length cap, .int .i64 x, .int .i64 y, .bool k] 71)).alloc (.cells #[.int .i64 kk, .int .i64 a, .int .i64 b, .int .i32 r] 36)).alloc (.cells #[.int .i64 0, .int .i64 0, .slice none 0 0, .int .i64 0, .int .i64 0, .bool false] 71)) := (((Below.refl _ _).alloc (Nat.le_refl _) _).alloc (by simp) _).alloc (by simp; omega) _
  have G1 := Lib.hid (heap_alloc_new ((W.alloc (.cells #[.int .i64 gw, .int .i64 gh, .slice A l.length cap, .int .i64 x, .int .i64 y, .bool k] 71)).alloc (.cells #[.int .i64 kk, .int .i64 a, .int .i64 b, .int .i32 r] 36)) (.cells #[.int .i64 0, .int .i64 0, .slice none 0 0, .int .i64 0, .int .i64 0, .bool false] 71))
  have HV := Lib.hid hv
  clear hv
  go_enter Tryd.func52, Tryd.ntmps52
  go_wp2_with fail
  refine (lead_any gw gh x y k A l.length cap (x) (y - a) _ hw hh).mono ?_
  rintro e w1 ⟨rfl, hw1⟩
  have hG1 := carry hw1 G1.out
  rw [show ((W.alloc (.cells #[.int .i64 gw, .int .i64 gh, .slice A l.length cap, .int .i64 x, .int .i64 y, .bool k] 71)).alloc (.cells #[.int .i64 kk, .int .i64 a, .int .i64 b, .int .i32 r] 36)).heap.size = W.heap.size + 1 + 1 by simp] at hG1
  obtain ⟨⟨k0, k1, k2, k3, k4, k5⟩, ⟨e0, e1, e2, e3, e4, e5⟩, z1⟩ := blk6 hG1
  have HB := Lib.hid (hb0.trans (hw1.mono hb0.size))
  clear hG1 hw1 hb0
  generalize hX : wi (x) (gw - 1) = X
  generalize hY : wi (y - a) (gh - 1) = Y
  have HX := Lib.hid hX
  have HY := Lib.hid hY
  clear hX hY
  go_wp2
  refine bodyPost_ret (v := .agg #[.int .i64 gw, .int .i64 gh, .slice A l.length cap, .int .i64 (X), .int .i64 (Y), .bool k]) (by simp [results, Tryd.results52, go_sem, *]) rfl ⟨TO.of (by rw [HX.out, HY.out]) rfl Kp.same, ?_⟩
  repeat (first | (with_reducible exact HB.out) | refine Below.setCell ?_ (by simp; omega) _)
set_option maxHeartbeats 2000000 in
theorem mdown_any (gw gh x y kk a b r : Int) (k : Bool) (l : List (Int × Int)) (hw : 2 ≤ gw ∧ gw ≤ 80) (hh : 1 ≤ gh ∧ gh ≤ 24) (hx : 0 ≤ x ∧ x < gw) (hy : 0 ≤ y ∧ y < gh) (ha : 0 ≤ a ∧ a ≤ 100) (A : Option Addr) (cap : Nat) (W : World) (hv : Rc W (.slice A l.length cap) l) :
    Calls Tryd.prog 53 #[.agg #[.int .i64 gw, .int .i64 gh, .slice A l.length cap, .int .i64 x, .int .i64 y, .bool k], .agg #[.int .i64 kk, .int .i64 a, .int .i64 b, .int .i32 r]] W fun e w' => TO W.heap.size (.slice A l.length cap) l w' e ⟨gw, gh, l, wi (x) (gw - 1), wi (y + a) (gh - 1), k⟩ ∧ Below W.heap.size W w' := by
  have hb0 : Below W.heap.size W (((W.alloc (.cells #[.int .i64 gw, .int .i64 gh, .slice A l.length cap, .int .i64 x, .int .i64 y, .bool k] 71)).alloc (.cells #[.int .i64 kk, .int .i64 a, .int .i64 b, .int .i32 r] 36)).alloc (.cells #[.int .i64 0, .int .i64 0, .slice none 0 0, .int .i64 0, .int .i64 0, .bool false] 71)) := (((Below.refl _ _).alloc (Nat.le_refl _) _).alloc (by simp) _).alloc (by simp; omega) _
  have G1 := Lib.hid (heap_alloc_new ((W.alloc (.cells #[.int .i64 gw, .int .i64 gh, .slice A l.length cap, .int .i64 x, .int .i64 y, .bool k] 71)).alloc (.cells #[.int .i64 kk, .int .i64 a, .int .i64 b, .int .i32 r] 36)) (.cells #[.int .i64 0, .int .i64 0, .slice none 0 0, .int .i64 0, .int .i64 0, .bool false] 71))
  have HV := Lib.hid hv
  clear hv
  go_enter Tryd.func53, Tryd.ntmps53
  go_wp2_with fail
  refine (lead_any gw gh x y k A l.length cap (x) (y + a) _ hw hh).mono ?_
  rintro e w1 ⟨rfl, hw1⟩
  have hG1 := carry hw1 G1.out
  rw [show ((W.alloc (.cells #[.int .i64 gw, .int .i64 gh, .slice A l.length cap, .int .i64 x, .int .i64 y, .bool k] 71)).alloc (.cells #[.int .i64 kk, .int .i64 a, .int .i64 b, .int .i32 r] 36)).heap.size = W.heap.size + 1 + 1 by simp] at hG1
  obtain ⟨⟨k0, k1, k2, k3, k4, k5⟩, ⟨e0, e1, e2, e3, e4, e5⟩, z1⟩ := blk6 hG1
  have HB := Lib.hid (hb0.trans (hw1.mono hb0.size))
  clear hG1 hw1 hb0
  generalize hX : wi (x) (gw - 1) = X
  generalize hY : wi (y + a) (gh - 1) = Y
  have HX := Lib.hid hX
  have HY := Lib.hid hY
  clear hX hY
  go_wp2
  refine bodyPost_ret (v := .agg #[.int .i64 gw, .int .i64 gh, .slice A l.length cap, .int .i64 (X), .int .i64 (Y), .bool k]) (by simp [results, Tryd.results53, go_sem, *]) rfl ⟨TO.of (by rw [HX.out, HY.out]) rfl Kp.same, ?_⟩
  repeat (first | (with_reducible exact HB.out) | refine Below.setCell ?_ (by simp; omega) _)
set_option maxHeartbeats 2000000 in
theorem mright_any (gw gh x y kk a b r : Int) (k : Bool) (l : List (Int × Int)) (hw : 2 ≤ gw ∧ gw ≤ 80) (hh : 1 ≤ gh ∧ gh ≤ 24) (hx : 0 ≤ x ∧ x < gw) (hy : 0 ≤ y ∧ y < gh) (ha : 0 ≤ a ∧ a ≤ 100) (A : Option Addr) (cap : Nat) (W : World) (hv : Rc W (.slice A l.length cap) l) :
    Calls Tryd.prog 54 #[.agg #[.int .i64 gw, .int .i64 gh, .slice A l.length cap, .int .i64 x, .int .i64 y, .bool k], .agg #[.int .i64 kk, .int .i64 a, .int .i64 b, .int .i32 r]] W fun e w' => TO W.heap.size (.slice A l.length cap) l w' e ⟨gw, gh, l, wi (x + a) (gw - 1), wi (y) (gh - 1), k⟩ ∧ Below W.heap.size W w' := by
  have hb0 : Below W.heap.size W (((W.alloc (.cells #[.int .i64 gw, .int .i64 gh, .slice A l.length cap, .int .i64 x, .int .i64 y, .bool k] 71)).alloc (.cells #[.int .i64 kk, .int .i64 a, .int .i64 b, .int .i32 r] 36)).alloc (.cells #[.int .i64 0, .int .i64 0, .slice none 0 0, .int .i64 0, .int .i64 0, .bool false] 71)) := (((Below.refl _ _).alloc (Nat.le_refl _) _).alloc (by simp) _).alloc (by simp; omega) _
  have G1 := Lib.hid (heap_alloc_new ((W.alloc (.cells #[.int .i64 gw, .int .i64 gh, .slice A l.length cap, .int .i64 x, .int .i64 y, .bool k] 71)).alloc (.cells #[.int .i64 kk, .int .i64 a, .int .i64 b, .int .i32 r] 36)) (.cells #[.int .i64 0, .int .i64 0, .slice none 0 0, .int .i64 0, .int .i64 0, .bool false] 71))
  have HV := Lib.hid hv
  clear hv
  go_enter Tryd.func54, Tryd.ntmps54
  go_wp2_with fail
  refine (lead_any gw gh x y k A l.length cap (x + a) (y) _ hw hh).mono ?_
  rintro e w1 ⟨rfl, hw1⟩
  have hG1 := carry hw1 G1.out
  rw [show ((W.alloc (.cells #[.int .i64 gw, .int .i64 gh, .slice A l.length cap, .int .i64 x, .int .i64 y, .bool k] 71)).alloc (.cells #[.int .i64 kk, .int .i64 a, .int .i64 b, .int .i32 r] 36)).heap.size = W.heap.size + 1 + 1 by simp] at hG1
  obtain ⟨⟨k0, k1, k2, k3, k4, k5⟩, ⟨e0, e1, e2, e3, e4, e5⟩, z1⟩ := blk6 hG1
  have HB := Lib.hid (hb0.trans (hw1.mono hb0.size))
  clear hG1 hw1 hb0
  generalize hX : wi (x + a) (gw - 1) = X
  generalize hY : wi (y) (gh - 1) = Y
  have HX := Lib.hid hX
  have HY := Lib.hid hY
  clear hX hY
  go_wp2
  refine bodyPost_ret (v := .agg #[.int .i64 gw, .int .i64 gh, .slice A l.length cap, .int .i64 (X), .int .i64 (Y), .bool k]) (by simp [results, Tryd.results54, go_sem, *]) rfl ⟨TO.of (by rw [HX.out, HY.out]) rfl Kp.same, ?_⟩
  repeat (first | (with_reducible exact HB.out) | refine Below.setCell ?_ (by simp; omega) _)
set_option maxHeartbeats 2000000 in
theorem mleft_any (gw gh x y kk a b r : Int) (k : Bool) (l : List (Int × Int)) (hw : 2 ≤ gw ∧ gw ≤ 80) (hh : 1 ≤ gh ∧ gh ≤ 24) (hx : 0 ≤ x ∧ x < gw) (hy : 0 ≤ y ∧ y < gh) (ha : 0 ≤ a ∧ a ≤ 100) (A : Option Addr) (cap : Nat) (W : World) (hv : Rc W (.slice A l.length cap) l) :
    Calls Tryd.prog 55 #[.agg #[.int .i64 gw, .int .i64 gh, .slice A l.length cap, .int .i64 x, .int .i64 y, .bool k], .agg #[.int .i64 kk, .int .i64 a, .int .i64 b, .int .i32 r]] W fun e w' => TO W.heap.size (.slice A l.length cap) l w' e ⟨gw, gh, l, wi (x - a) (gw - 1), wi (y) (gh - 1), k⟩ ∧ Below W.heap.size W w' := by
  have hb0 : Below W.heap.size W (((W.alloc (.cells #[.int .i64 gw, .int .i64 gh, .slice A l.length cap, .int .i64 x, .int .i64 y, .bool k] 71)).alloc (.cells #[.int .i64 kk, .int .i64 a, .int .i64 b, .int .i32 r] 36)).alloc (.cells #[.int .i64 0, .int .i64 0, .slice none 0 0, .int .i64 0, .int .i64 0, .bool false] 71)) := (((Below.refl _ _).alloc (Nat.le_refl _) _).alloc (by simp) _).alloc (by simp; omega) _
  have G1 := Lib.hid (heap_alloc_new ((W.alloc (.cells #[.int .i64 gw, .int .i64 gh, .slice A l.length cap, .int .i64 x, .int .i64 y, .bool k] 71)).alloc (.cells #[.int .i64 kk, .int .i64 a, .int .i64 b, .int .i32 r] 36)) (.cells #[.int .i64 0, .int .i64 0, .slice none 0 0, .int .i64 0, .int .i64 0, .bool false] 71))
  have HV := Lib.hid hv
  clear hv
  go_enter Tryd.func55, Tryd.ntmps55
  go_wp2_with fail
  refine (lead_any gw gh x y k A l.length cap (x - a) (y) _ hw hh).mono ?_
  rintro e w1 ⟨rfl, hw1⟩
  have hG1 := carry hw1 G1.out
  rw [show ((W.alloc (.cells #[.int .i64 gw, .int .i64 gh, .slice A l.length cap, .int .i64 x, .int .i64 y, .bool k] 71)).alloc (.cells #[.int .i64 kk, .int .i64 a, .int .i64 b, .int .i32 r] 36)).heap.size = W.heap.size + 1 + 1 by simp] at hG1
  obtain ⟨⟨k0, k1, k2, k3, k4, k5⟩, ⟨e0, e1, e2, e3, e4, e5⟩, z1⟩ := blk6 hG1
  have HB := Lib.hid (hb0.trans (hw1.mono hb0.size))
  clear hG1 hw1 hb0
  generalize hX : wi (x - a) (gw - 1) = X
  generalize hY : wi (y) (gh - 1) = Y
  have HX := Lib.hid hX
  have HY := Lib.hid hY
  clear hX hY
  go_wp2
  refine bodyPost_ret (v := .agg #[.int .i64 gw, .int .i64 gh, .slice A l.length cap, .int .i64 (X), .int .i64 (Y), .bool k]) (by simp [results, Tryd.results55, go_sem, *]) rfl ⟨TO.of (by rw [HX.out, HY.out]) rfl Kp.same, ?_⟩
  repeat (first | (with_reducible exact HB.out) | refine Below.setCell ?_ (by simp; omega) _)
set_option maxHeartbeats 2000000 in
theorem mhome_any (gw gh x y kk a b r : Int) (k : Bool) (l : List (Int × Int)) (hw : 2 ≤ gw ∧ gw ≤ 80) (hh : 1 ≤ gh ∧ gh ≤ 24) (hx : 0 ≤ x ∧ x < gw) (hy : 0 ≤ y ∧ y < gh) (ha : 0 ≤ a ∧ a ≤ 100) (A : Option Addr) (cap : Nat) (W : World) (hv : Rc W (.slice A l.length cap) l) :
    Calls Tryd.prog 58 #[.agg #[.int .i64 gw, .int .i64 gh, .slice A l.length cap, .int .i64 x, .int .i64 y, .bool k], .agg #[.int .i64 kk, .int .i64 a, .int .i64 b, .int .i32 r]] W fun e w' => TO W.heap.size (.slice A l.length cap) l w' e ⟨gw, gh, l, wi (0) (gw - 1), wi (y) (gh - 1), k⟩ ∧ Below W.heap.size W w' := by
  have hb0 : Below W.heap.size W (((W.alloc (.cells #[.int .i64 gw, .int .i64 gh, .slice A l.length cap, .int .i64 x, .int .i64 y, .bool k] 71)).alloc (.cells #[.int .i64 kk, .int .i64 a, .int .i64 b, .int .i32 r] 36)).alloc (.cells #[.int .i64 0, .int .i64 0, .slice none 0 0, .int .i64 0, .int .i64 0, .bool false] 71)) := (((Below.refl _ _).alloc (Nat.le_refl _) _).alloc (by simp) _).alloc (by simp; omega) _
  have G1 := Lib.hid (heap_alloc_new ((W.alloc (.cells #[.int .i64 gw, .int .i64 gh, .slice A l.length cap, .int .i64 x, .int .i64 y, .bool k] 71)).alloc (.cells #[.int .i64 kk, .int .i64 a, .int .i64 b, .int .i32 r] 36)) (.cells #[.int .i64 0, .int .i64 0, .slice none 0 0, .int .i64 0, .int .i64 0, .bool false] 71))
  have HV := Lib.hid hv
  clear hv
  go_enter Tryd.func58, Tryd.ntmps58
  go_wp2_with fail
  refine (lead_any gw gh x y k A l.length cap (0) (y) _ hw hh).mono ?_
  rintro e w1 ⟨rfl, hw1⟩
  have hG1 := carry hw1 G1.out
  rw [show ((W.alloc (.cells #[.int .i64 gw, .int .i64 gh, .slice A l.length cap, .int .i64 x, .int .i64 y, .bool k] 71)).alloc (.cells #[.int .i64 kk, .int .i64 a, .int .i64 b, .int .i32 r] 36)).heap.size = W.heap.size + 1 + 1 by simp] at hG1
  obtain ⟨⟨k0, k1, k2, k3, k4, k5⟩, ⟨e0, e1, e2, e3, e4, e5⟩, z1⟩ := blk6 hG1
  have HB := Lib.hid (hb0.trans (hw1.mono hb0.size))
  clear hG1 hw1 hb0
  generalize hX : wi (0) (gw - 1) = X
  generalize hY : wi (y) (gh - 1) = Y
  have HX := Lib.hid hX
  have HY := Lib.hid hY
  clear hX hY
  go_wp2
  refine bodyPost_ret (v := .agg #[.int .i64 gw, .int .i64 gh, .slice A l.length cap, .int .i64 (X), .int .i64 (Y), .bool k]) (by simp [results, Tryd.results58, go_sem, *]) rfl ⟨TO.of (by rw [HX.out, HY.out]) rfl Kp.same, ?_⟩
  repeat (first | (with_reducible exact HB.out) | refine Below.setCell ?_ (by simp; omega) _)
set_option maxHeartbeats 2000000 in
theorem mback_any (gw gh x y kk a b r : Int) (k : Bool) (l : List (Int × Int)) (hw : 2 ≤ gw ∧ gw ≤ 80) (hh : 1 ≤ gh ∧ gh ≤ 24) (hx : 0 ≤ x ∧ x < gw) (hy : 0 ≤ y ∧ y < gh) (ha : 0 ≤ a ∧ a ≤ 100) (A : Option Addr) (cap : Nat) (W : World) (hv : Rc W (.slice A l.length cap) l) :
    Calls Tryd.prog 60 #[.agg #[.int .i64 gw, .int .i64 gh, .slice A l.length cap, .int .i64 x, .int .i64 y, .bool k], .agg #[.int .i64 kk, .int .i64 a, .int .i64 b, .int .i32 r]] W fun e w' => TO W.heap.size (.slice A l.length cap) l w' e ⟨gw, gh, l, wi (x - 1) (gw - 1), wi (y) (gh - 1), k⟩ ∧ Below W.heap.size W w' := by
  have hb0 : Below W.heap.size W (((W.alloc (.cells #[.int .i64 gw, .int .i64 gh, .slice A l.length cap, .int .i64 x, .int .i64 y, .bool k] 71)).alloc (.cells #[.int .i64 kk, .int .i64 a, .int .i64 b, .int .i32 r] 36)).alloc (.cells #[.int .i64 0, .int .i64 0, .slice none 0 0, .int .i64 0, .int .i64 0, .bool false] 71)) := (((Below.refl _ _).alloc (Nat.le_refl _) _).alloc (by simp) _).alloc (by simp; omega) _
  have G1 := Lib.hid (heap_alloc_new ((W.alloc (.cells #[.int .i64 gw, .int .i64 gh, .slice A l.length cap, .int .i64 x, .int .i64 y, .bool k] 71)).alloc (.cells #[.int .i64 kk, .int .i64 a, .int .i64 b, .int .i32 r] 36)) (.cells #[.int .i64 0, .int .i64 0, .slice none 0 0, .int .i64 0, .int .i64 0, .bool false] 71))
  have HV := Lib.hid hv
  clear hv
  go_enter Tryd.func60, Tryd.ntmps60
  go_wp2_with fail
  refine (lead_any gw gh x y k A l.length cap (x - 1) (y) _ hw hh).mono ?_
  rintro e w1 ⟨rfl, hw1⟩
  have hG1 := carry hw1 G1.out
  rw [show ((W.alloc (.cells #[.int .i64 gw, .int .i64 gh, .slice A l.length cap, .int .i64 x, .int .i64 y, .bool k] 71)).alloc (.cells #[.int .i64 kk, .int .i64 a, .int .i64 b, .int .i32 r] 36)).heap.size = W.heap.size + 1 + 1 by simp] at hG1
  obtain ⟨⟨k0, k1, k2, k3, k4, k5⟩, ⟨e0, e1, e2, e3, e4, e5⟩, z1⟩ := blk6 hG1
  have HB := Lib.hid (hb0.trans (hw1.mono hb0.size))
  clear hG1 hw1 hb0
  generalize hX : wi (x - 1) (gw - 1) = X
  generalize hY : wi (y) (gh - 1) = Y
  have HX := Lib.hid hX
  have HY := Lib.hid hY
  clear hX hY
  go_wp2
  refine bodyPost_ret (v := .agg #[.int .i64 gw, .int .i64 gh, .slice A l.length cap, .int .i64 (X), .int .i64 (Y), .bool k]) (by simp [results, Tryd.results60, go_sem, *]) rfl ⟨TO.of (by rw [HX.out, HY.out]) rfl Kp.same, ?_⟩
  repeat (first | (with_reducible exact HB.out) | refine Below.setCell ?_ (by simp; omega) _)
set_option maxHeartbeats 2000000 in
theorem mbell_any (gw gh x y kk a b r : Int) (k : Bool) (l : List (Int × Int)) (h0 : right gw gh l) (hx : 0 ≤ x ∧ x < gw) (hy : 0 ≤ y ∧ y < gh) (A : Option Addr) (cap : Nat) (W : World) (hv : Rc W (.slice A l.length cap) l) :
    Calls Tryd.prog 61 #[.agg #[.int .i64 gw, .int .i64 gh, .slice A l.length cap, .int .i64 x, .int .i64 y, .bool k], .agg #[.int .i64 kk, .int .i64 a, .int .i64 b, .int .i32 r]] W fun e w' => TO W.heap.size (.slice A l.length cap) l w' e ⟨gw, gh, l, x, y, k⟩ ∧ Below W.heap.size W w' := by
  have HV := Lib.hid hv
  clear hv
  go_enter Tryd.func61, Tryd.ntmps61
  go_wp2
  refine bodyPost_ret (v := .agg #[.int .i64 gw, .int .i64 gh, .slice A l.length cap, .int .i64 (x), .int .i64 (y), .bool k]) (by simp [results, Tryd.results61, go_sem]) rfl ⟨TO.of rfl rfl Kp.same, ?_⟩
  exact (((Below.refl _ _).alloc (Nat.le_refl _) _).alloc (by simp) _).alloc (by simp; omega) _
set_option maxHeartbeats 2000000 in
theorem mblank_any (gw gh x y to : Int) (k : Bool) (l : List (Int × Int)) (h0 : right gw gh l) (hx : 0 ≤ x ∧ x < gw) (hy : 0 ≤ y ∧ y < gh) (hb : blankB gw gh l (y * gw + x) to = true) (A : Option Addr) (cap : Nat) (W : World) (hv : Rc W (.slice A l.length cap) l) (S : Spans W 2) (T : Blk W 0) :
    Calls Tryd.prog 72 #[.agg #[.int .i64 gw, .int .i64 gh, .slice A l.length cap, .int .i64 x, .int .i64 y, .bool k], .int .i64 to] W fun e w' => TO W.heap.size (.slice A l.length cap) l w' e ⟨gw, gh, blankL gw l (y * gw + x) to, x, y, k⟩ ∧ Below W.heap.size W w' := by
  have hb0 : Below W.heap.size W ((W.alloc (.cells #[.int .i64 gw, .int .i64 gh, .slice A l.length cap, .int .i64 x, .int .i64 y, .bool k] 71)).alloc (.cells #[.int .i64 0, .int .i64 0, .slice none 0 0, .int .i64 0, .int .i64 0, .bool false] 71)) := ((Below.refl _ _).alloc (Nat.le_refl _) _).alloc (by simp) _
  have hl := right_len h0
  have hs := h0.1
  have hm1 : 0 ≤ y * gw := Int.mul_nonneg hy.1 (by omega)
  have hm2 : y * gw ≤ 23 * 80 := Int.mul_le_mul (by omega) (by omega) (by omega) (by omega)
  have HV := Lib.hid (hv.below hb0)
  have HL := Lib.hid hb
  have G0 := Lib.hid (carryA (.cells #[.int .i64 0, .int .i64 0, .slice none 0 0, .int .i64 0, .int .i64 0, .bool false] 71) (heap_alloc_new W (.cells #[.int .i64 gw, .int .i64 gh, .slice A l.length cap, .int .i64 x, .int .i64 y, .bool k] 71)))
  have G1 := Lib.hid (heap_alloc_new (W.alloc (.cells #[.int .i64 gw, .int .i64 gh, .slice A l.length cap, .int .i64 x, .int .i64 y, .bool k] 71)) (.cells #[.int .i64 0, .int .i64 0, .slice none 0 0, .int .i64 0, .int .i64 0, .bool false] 71))
  clear hv h0 hb
  go_enter Tryd.func72, Tryd.ntmps72
  go_wp2_with fail
  refine (blank_any gw gh (y * gw + x) to _ l _ HV.out.rw (by unfold maxLen; omega) (S.below hb0) (T.below hb0)).mono ?_
  rintro e w1 ⟨ho, hw1⟩
  obtain ⟨v', rfl, hown⟩ := ho.is HL.out
  obtain ⟨g, cap', rfl, hcap', hrow⟩ := hown
  obtain ⟨⟨c0, c1, c2, c3, c4, c5⟩, ⟨f0, f1, f2, f3, f4, f5⟩, z0⟩ := blk6 (carry hw1 G0.out)
  have hG1 := carry hw1 G1.out
  rw [show (W.alloc (.cells #[.int .i64 gw, .int .i64 gh, .slice A l.length cap, .int .i64 x, .int .i64 y, .bool k] 71)).heap.size = W.heap.size + 1 by simp] at hG1
  obtain ⟨⟨k0, k1, k2, k3, k4, k5⟩, ⟨e0, e1, e2, e3, e4, e5⟩, z1⟩ := blk6 hG1
  have HO := Lib.hid (Own.sh rfl hcap' hrow)
  have HB := Lib.hid (hb0.trans (hw1.mono hb0.size))
  clear hrow hG1 hw1 hb0
  generalize hN : (blankL gw l (y * gw + x) to).length = N at *
  go_wp2
  refine bodyPost_ret (v := .agg #[.int .i64 gw, .int .i64 gh, .slice (some ⟨g, 0, none⟩) N cap', .int .i64 x, .int .i64 y, .bool k]) (by simp [results, Tryd.results72, go_sem, *]) rfl ⟨TO.of rfl rfl ?_, ?_⟩
  · refine .inr (Own.mono (B := W.heap.size + 1 + 1) ?_ (by omega))
    have HO' := HO.out.mono (B' := W.heap.size + 1 + 1) (by simp)
    repeat (first | (with_reducible exact HO') | refine Own.set1 ?_ _ _ _ (by omega))
  · repeat (first | (with_reducible exact HB.out) | refine Below.setCell ?_ (by simp) _)
set_option maxHeartbeats 2000000 in
theorem mfeed_any (gw gh x y kk a b r : Int) (k : Bool) (l : List (Int × Int)) (h0 : right gw gh l) (hx : 0 ≤ x ∧ x < gw) (hy : 0 ≤ y ∧ y < gh) (A : Option Addr) (cap : Nat) (W : World) (hv : Rc W (.slice A l.length cap) l) (S : Spans W 2) (T : Blk W 0) :
    Calls Tryd.prog 59 #[.agg #[.int .i64 gw, .int .i64 gh, .slice A l.length cap, .int .i64 x, .int .i64 y, .bool k], .agg #[.int .i64 kk, .int .i64 a, .int .i64 b, .int .i32 r]] W fun e w' => TO W.heap.size (.slice A l.length cap) l w' e (dn ⟨gw, gh, l, x, y, k⟩) ∧ Below W.heap.size W w' := by
  have hb0 : Below W.heap.size W (((W.alloc (.cells #[.int .i64 gw, .int .i64 gh, .slice A l.length cap, .int .i64 x, .int .i64 y, .bool k] 71)).alloc (.cells #[.int .i64 kk, .int .i64 a, .int .i64 b, .int .i32 r] 36)).alloc (.cells #[.int .i64 0, .int .i64 0, .slice none 0 0, .int .i64 0, .int .i64 0, .bool false] 71)) := (((Below.refl _ _).alloc (Nat.le_refl _) _).alloc (by simp) _).alloc (by simp; omega) _
  have hl := right_len h0
  have hs := h0.1
  have G1 := Lib.hid (heap_alloc_new ((W.alloc (.cells #[.int .i64 gw, .int .i64 gh, .slice A l.length cap, .int .i64 x, .int .i64 y, .bool k] 71)).alloc (.cells #[.int .i64 kk, .int .i64 a, .int .i64 b, .int .i32 r] 36)) (.cells #[.int .i64 0, .int .i64 0, .slice none 0 0, .int .i64 0, .int .i64 0, .bool false] 71))
  have HV := Lib.hid (hv.below hb0)
  have HR := Lib.hid h0
  clear hv h0
  generalize hu : (dn ⟨gw, gh, l, x, y, k⟩) = u
  have HU := Lib.hid hu
  clear hu
  go_enter Tryd.func59, Tryd.ntmps59
  go_wp2_with fail
  refine (below_any gw gh x y k l HR.out hy A cap _ HV.out (S.below hb0) (T.below hb0)).mono ?_
  rintro e w1 ⟨ho, hw1⟩
  rw [HU.out] at ho
  obtain ⟨A', cap', rfl, hr⟩ := ho.op (HV.out.below hw1)
  have hG1 := carry hw1 G1.out
  rw [show ((W.alloc (.cells #[.int .i64 gw, .int .i64 gh, .slice A l.length cap, .int .i64 x, .int .i64 y, .bool k] 71)).alloc (.cells #[.int .i64 kk, .int .i64 a, .int .i64 b, .int .i32 r] 36)).heap.size = W.heap.size + 1 + 1 by simp] at hG1
  obtain ⟨⟨k0, k1, k2, k3, k4, k5⟩, ⟨e0, e1, e2, e3, e4, e5⟩, z1⟩ := blk6 hG1
  have HB := Lib.hid (hb0.trans (hw1.mono hb0.size))
  have HR1 := Lib.hid hr
  have HW1 := Lib.hid hw1
  clear hr hG1 hw1 hb0 ho
  obtain ⟨uw, uh, ul, ux, uy, uk⟩ := u
  go_wp2
  refine bodyPost_ret (v := .agg #[.int .i64 uw, .int .i64 uh, .slice A' ul.length cap', .int .i64 ux, .int .i64 uy, .bool uk]) (by simp [results, Tryd.results59, go_sem, *]) rfl ⟨TO.of rfl rfl ?_, ?_⟩
  · have HK := HR1.out.mono (B' := W.heap.size + 1 + 1 + 1) (by simp)
    refine Kp.mono (B := W.heap.size + 1 + 1 + 1) ?_ (by omega)
    repeat (first | (with_reducible exact HK) | refine Kp.set1 ?_ _ _ _ (by omega))
  · repeat (first | (with_reducible exact HB.out) | refine Below.setCell ?_ (by simp; omega) _)
set_option maxHeartbeats 2000000 in
theorem mrow_any (gw gh x y kk a b r : Int) (k : Bool) (l : List (Int × Int)) (h0 : right gw gh l) (hx : 0 ≤ x ∧ x < gw) (hy : 0 ≤ y ∧ y < gh) (A : Option Addr) (cap : Nat) (W : World) (hv : Rc W (.slice A l.length cap) l) (S : Spans W 2) (T : Blk W 0) :
    Calls Tryd.prog 56 #[.agg #[.int .i64 gw, .int .i64 gh, .slice A l.length cap, .int .i64 x, .int .i64 y, .bool k], .agg #[.int .i64 kk, .int .i64 a, .int .i64 b, .int .i32 r]] W fun e w' => TO W.heap.size (.slice A l.length cap) l w' e (⟨gw, gh, blankL gw l (y * gw + x) ((y + 1) * gw), x, y, k⟩ : Trm) ∧ Below W.heap.size W w' := by
  have hb0 : Below W.heap.size W (((W.alloc (.cells #[.int .i64 gw, .int .i64 gh, .slice A l.length cap, .int .i64 x, .int .i64 y, .bool k] 71)).alloc (.cells #[.int .i64 kk, .int .i64 a, .int .i64 b, .int .i32 r] 36)).alloc (.cells #[.int .i64 0, .int .i64 0, .slice none 0 0, .int .i64 0, .int .i64 0, .bool false] 71)) := (((Below.refl _ _).alloc (Nat.le_refl _) _).alloc (by simp) _).alloc (by simp; omega) _
  have hl := right_len h0
  have hs := h0.1
  have hbm := blank_may (t := ⟨gw, gh, l, x, y, false⟩) ⟨h0, hx.1, hx.2, hy.1, hy.2, fun h => by cases h⟩
  simp only at hbm
  have hm1 : 0 ≤ (y + 1) * gw := Int.mul_nonneg (by omega) (by omega)
  have hm2 : (y + 1) * gw ≤ 24 * 80 := Int.mul_le_mul (by omega) (by omega) (by omega) (by omega)
  have hm3 : 0 ≤ gh * gw := Int.mul_nonneg (by omega) (by omega)
  have hm4 : gh * gw ≤ 24 * 80 := Int.mul_le_mul (by omega) (by omega) (by omega) (by omega)
  rw [Int.mul_comm gw gh] at hbm
  have HBM := Lib.hid hbm
  clear hbm
  have G1 := Lib.hid (heap_alloc_new ((W.alloc (.cells #[.int .i64 gw, .int .i64 gh, .slice A l.length cap, .int .i64 x, .int .i64 y, .bool k] 71)).alloc (.cells #[.int .i64 kk, .int .i64 a, .int .i64 b, .int .i32 r] 36)) (.cells #[.int .i64 0, .int .i64 0, .slice none 0 0, .int .i64 0, .int .i64 0, .bool false] 71))
  have HV := Lib.hid (hv.below hb0)
  have HR := Lib.hid h0
  clear hv h0
  generalize hu : (⟨gw, gh, blankL gw l (y * gw + x) ((y + 1) * gw), x, y, k⟩ : Trm) = u
  have HU := Lib.hid hu
  clear hu
  go_enter Tryd.func56, Tryd.ntmps56
  go_wp2_with fail
  refine (mblank_any gw gh x y ((y + 1) * gw) k l HR.out hx hy HBM.out.1 A cap _ HV.out (S.below hb0) (T.below hb0)).mono ?_
  rintro e w1 ⟨ho, hw1⟩
  rw [HU.out] at ho
  obtain ⟨A', cap', rfl, hr⟩ := ho.op (HV.out.below hw1)
  have hG1 := carry hw1 G1.out
  rw [show ((W.alloc (.cells #[.int .i64 gw, .int .i64 gh, .slice A l.length cap, .int .i64 x, .int .i64 y, .bool k] 71)).alloc (.cells #[.int .i64 kk, .int .i64 a, .int .i64 b, .int .i32 r] 36)).heap.size = W.heap.size + 1 + 1 by simp] at hG1
  obtain ⟨⟨k0, k1, k2, k3, k4, k5⟩, ⟨e0, e1, e2, e3, e4, e5⟩, z1⟩ := blk6 hG1
  have HB := Lib.hid (hb0.trans (hw1.mono hb0.size))
  have HR1 := Lib.hid hr
  have HW1 := Lib.hid hw1
  clear hr hG1 hw1 hb0 ho
  obtain ⟨uw, uh, ul, ux, uy, uk⟩ := u
  go_wp2
  refine bodyPost_ret (v := .agg #[.int .i64 uw, .int .i64 uh, .slice A' ul.length cap', .int .i64 ux, .int .i64 uy, .bool uk]) (by simp [results, Tryd.results56, go_sem, *]) rfl ⟨TO.of rfl rfl ?_, ?_⟩
  · have HK := HR1.out.mono (B' := W.heap.size + 1 + 1 + 1) (by simp)
    refine Kp.mono (B := W.heap.size + 1 + 1 + 1) ?_ (by omega)
    repeat (first | (with_reducible exact HK) | refine Kp.set1 ?_ _ _ _ (by omega))
  · repeat (first | (with_reducible exact HB.out) | refine Below.setCell ?_ (by simp; omega) _)
set_option maxHeartbeats 2000000 in
theorem mall_any (gw gh x y kk a b r : Int) (k : Bool) (l : List (Int × Int)) (h0 : right gw gh l) (hx : 0 ≤ x ∧ x < gw) (hy : 0 ≤ y ∧ y < gh) (A : Option Addr) (cap : Nat) (W : World) (hv : Rc W (.slice A l.length cap) l) (S : Spans W 2) (T : Blk W 0) :
    Calls Tryd.prog 57 #[.agg #[.int .i64 gw, .int .i64 gh, .slice A l.length cap, .int .i64 x, .int .i64 y, .bool k], .agg #[.int .i64 kk, .int .i64 a, .int .i64 b, .int .i32 r]] W fun e w' => TO W.heap.size (.slice A l.length cap) l w' e (⟨gw, gh, blankL gw l (y * gw + x) (gh * gw), x, y, k⟩ : Trm) ∧ Below W.heap.size W w' := by
  have hb0 : Below W.heap.size W (((W.alloc (.cells #[.int .i64 gw, .int .i64 gh, .slice A l.length cap, .int .i64 x, .int .i64 y, .bool k] 71)).alloc (.cells #[.int .i64 kk, .int .i64 a, .int .i64 b, .int .i32 r] 36)).alloc (.cells #[.int .i64 0, .int .i64 0, .slice none 0 0, .int .i64 0, .int .i64 0, .bool false] 71)) := (((Below.refl _ _).alloc (Nat.le_refl _) _).alloc (by simp) _).alloc (by simp; omega) _
  have hl := right_len h0
  have hs := h0.1
  have hbm := blank_may (t := ⟨gw, gh, l, x, y, false⟩) ⟨h0, hx.1, hx.2, hy.1, hy.2, fun h => by cases h⟩
  simp only at hbm
  have hm1 : 0 ≤ (y + 1) * gw := Int.mul_nonneg (by omega) (by omega)
  have hm2 : (y + 1) * gw ≤ 24 * 80 := Int.mul_le_mul (by omega) (by omega) (by omega) (by omega)
  have hm3 : 0 ≤ gh * gw := Int.mul_nonneg (by omega) (by omega)
  have hm4 : gh * gw ≤ 24 * 80 := Int.mul_le_mul (by omega) (by omega) (by omega) (by omega)
  rw [Int.mul_comm gw gh] at hbm
  have HBM := Lib.hid hbm
  clear hbm
  have G1 := Lib.hid (heap_alloc_new ((W.alloc (.cells #[.int .i64 gw, .int .i64 gh, .slice A l.length cap, .int .i64 x, .int .i64 y, .bool k] 71)).alloc (.cells #[.int .i64 kk, .int .i64 a, .int .i64 b, .int .i32 r] 36)) (.cells #[.int .i64 0, .int .i64 0, .slice none 0 0, .int .i64 0, .int .i64 0, .bool false] 71))
  have HV := Lib.hid (hv.below hb0)
  have HR := Lib.hid h0
  clear hv h0
  generalize hu : (⟨gw, gh, blankL gw l (y * gw + x) (gh * gw), x, y, k⟩ : Trm) = u
  have HU := Lib.hid hu
  clear hu
  go_enter Tryd.func57, Tryd.ntmps57
  go_wp2_with fail
  refine (mblank_any gw gh x y (gh * gw) k l HR.out hx hy HBM.out.2 A cap _ HV.out (S.below hb0) (T.below hb0)).mono ?_
  rintro e w1 ⟨ho, hw1⟩
  rw [HU.out] at ho
  obtain ⟨A', cap', rfl, hr⟩ := ho.op (HV.out.below hw1)
  have hG1 := carry hw1 G1.out
  rw [show ((W.alloc (.cells #[.int .i64 gw, .int .i64 gh, .slice A l.length cap, .int .i64 x, .int .i64 y, .bool k] 71)).alloc (.cells #[.int .i64 kk, .int .i64 a, .int .i64 b, .int .i32 r] 36)).heap.size = W.heap.size + 1 + 1 by simp] at hG1
  obtain ⟨⟨k0, k1, k2, k3, k4, k5⟩, ⟨e0, e1, e2, e3, e4, e5⟩, z1⟩ := blk6 hG1
  have HB := Lib.hid (hb0.trans (hw1.mono hb0.size))
  have HR1 := Lib.hid hr
  have HW1 := Lib.hid hw1
  clear hr hG1 hw1 hb0 ho
  obtain ⟨uw, uh, ul, ux, uy, uk⟩ := u
  go_wp2
  refine bodyPost_ret (v := .agg #[.int .i64 uw, .int .i64 uh, .slice A' ul.length cap', .int .i64 ux, .int .i64 uy, .bool uk]) (by simp [results, Tryd.results57, go_sem, *]) rfl ⟨TO.of rfl rfl ?_, ?_⟩
  · have HK := HR1.out.mono (B' := W.heap.size + 1 + 1 + 1) (by simp)
    refine Kp.mono (B := W.heap.size + 1 + 1 + 1) ?_ (by omega)
    repeat (first | (with_reducible exact HK) | refine Kp.set1 ?_ _ _ _ (by omega))
  · repeat (first | (with_reducible exact HB.out) | refine Below.setCell ?_ (by simp; omega) _)
end Go.Proofs.YtkkioajmfkcloaaDoor
