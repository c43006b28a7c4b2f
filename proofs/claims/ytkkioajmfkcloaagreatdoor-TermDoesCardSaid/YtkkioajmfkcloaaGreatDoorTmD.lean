/- The program's after: what a right terminal becomes by a right command. -/
import Derived.Test.YtkkioajmfkcloaaGreatDoorTmC
set_option linter.unusedVariables false
namespace Go.Proofs.YtkkioajmfkcloaaGreatDoor
open Go.RowKit Gl L Wd Gd Tm Vt
set_option maxRecDepth 100000 in
set_option maxHeartbeats 8000000 in
/-- One walk for all kinds: f is what a command of this kind calls, bw whether Wrap is what it makes of it. -/
theorem after_gen (gw gh x y K a b r : Int) (k : Bool) (l : List (Int × Int)) (hK : 1 ≤ K ∧ K ≤ 12) (f : Nat) (bw : Bool) (hf : dF K = f) (hw : dW K = bw) (hcf : ∀ (args : Array Value) (w : World), (callFunc f args).run Tryz.prog w = .ok (.enter f args) w) (u : Trm) (A : Option Addr) (cap : Nat) (W : World) (hv : Rc W (.slice A l.length cap) l)
    (HM : ∀ wz, Below W.heap.size W wz → Calls Tryz.prog f #[.agg #[.int .i64 gw, .int .i64 gh, .slice A l.length cap, .int .i64 x, .int .i64 y, .bool k], .agg #[.int .i64 K, .int .i64 a, .int .i64 b, .int .i32 r]] wz fun e w' => TO wz.heap.size (.slice A l.length cap) l w' e u ∧ Below wz.heap.size wz w') :
    Calls Tryz.prog 14 #[.agg #[.int .i64 gw, .int .i64 gh, .slice A l.length cap, .int .i64 x, .int .i64 y, .bool k], .agg #[.int .i64 K, .int .i64 a, .int .i64 b, .int .i32 r]] W fun e w' => TO W.heap.size (.slice A l.length cap) l w' e { u with k := u.k && bw } ∧ Below W.heap.size W w' := by
  have hb0 : Below W.heap.size W (((W.alloc (.cells #[.int .i64 gw, .int .i64 gh, .slice A l.length cap, .int .i64 x, .int .i64 y, .bool k] 26)).alloc (.cells #[.int .i64 K, .int .i64 a, .int .i64 b, .int .i32 r] 28)).alloc (.cells #[.int .i64 0, .int .i64 0, .slice none 0 0, .int .i64 0, .int .i64 0, .bool false] 26)) := (((Below.refl _ _).alloc (Nat.le_refl _) _).alloc (by simp) _).alloc (by simp; omega) _
  have HV0 := Lib.hid hv
  have HMM := Lib.hid HM
  have hz3 : (((W.alloc (.cells #[.int .i64 gw, .int .i64 gh, .slice A l.length cap, .int .i64 x, .int .i64 y, .bool k] 26)).alloc (.cells #[.int .i64 K, .int .i64 a, .int .i64 b, .int .i32 r] 28)).alloc (.cells #[.int .i64 0, .int .i64 0, .slice none 0 0, .int .i64 0, .int .i64 0, .bool false] 26)).heap.size = W.heap.size + 1 + 1 + 1 := by simp
  have G0 := Lib.hid (carryA (.cells #[.int .i64 0, .int .i64 0, .slice none 0 0, .int .i64 0, .int .i64 0, .bool false] 26) (carryA (.cells #[.int .i64 K, .int .i64 a, .int .i64 b, .int .i32 r] 28) (heap_alloc_new W (.cells #[.int .i64 gw, .int .i64 gh, .slice A l.length cap, .int .i64 x, .int .i64 y, .bool k] 26))))
  have G1 := Lib.hid (carryA (.cells #[.int .i64 0, .int .i64 0, .slice none 0 0, .int .i64 0, .int .i64 0, .bool false] 26) (heap_alloc_new (W.alloc (.cells #[.int .i64 gw, .int .i64 gh, .slice A l.length cap, .int .i64 x, .int .i64 y, .bool k] 26)) (.cells #[.int .i64 K, .int .i64 a, .int .i64 b, .int .i32 r] 28)))
  have G2 := Lib.hid (heap_alloc_new ((W.alloc (.cells #[.int .i64 gw, .int .i64 gh, .slice A l.length cap, .int .i64 x, .int .i64 y, .bool k] 26)).alloc (.cells #[.int .i64 K, .int .i64 a, .int .i64 b, .int .i32 r] 28)) (.cells #[.int .i64 0, .int .i64 0, .slice none 0 0, .int .i64 0, .int .i64 0, .bool false] 26))
  rw [show (W.alloc (.cells #[.int .i64 gw, .int .i64 gh, .slice A l.length cap, .int .i64 x, .int .i64 y, .bool k] 26)).heap.size = W.heap.size + 1 by simp] at G1
  rw [show ((W.alloc (.cells #[.int .i64 gw, .int .i64 gh, .slice A l.length cap, .int .i64 x, .int .i64 y, .bool k] 26)).alloc (.cells #[.int .i64 K, .int .i64 a, .int .i64 b, .int .i32 r] 28)).heap.size = W.heap.size + 1 + 1 by simp] at G2
  have HF := Lib.hid hf
  have HDW := Lib.hid hw
  clear hv HM hf hw
  have HS : ∀ (ad : Addr) (w : World), (store ad (.func (.func f) #[] #[])).run Tryz.prog w = stored Tryz.prog w ad (.func (.func f) #[] #[]) .plain := fun ad w => run_store _ _ _ _ _ rfl
  go_enter Tryz.func14, Tryz.ntmps14
  go_wp2_with fail
  refine (deedOf_any K hK _).mono ?_
  rintro e w1 ⟨rfl, hw1⟩
  rw [HF.out, HDW.out]
  clear hK
  have hB1 := hb0.trans (hw1.mono hb0.size)
  have g0 := carry hw1 G0.out
  have g1 := carry hw1 G1.out
  have g2 := carry hw1 G2.out
  have hz1 : W.heap.size + 1 + 1 + 1 ≤ w1.heap.size := by have := hw1.size; rw [hz3] at this; exact this
  have hbq : Below W.heap.size W (w1.alloc (.cells #[.func (.func f) #[] #[], .bool bw] 62)) := hB1.alloc (by omega) _
  have K2 := Lib.hid (carryA (.cells #[.func (.func f) #[] #[], .bool bw] 62) g2)
  have K3 := Lib.hid (heap_alloc_new w1 (.cells #[.func (.func f) #[] #[], .bool bw] 62))
  clear hw1 hb0 hz3 hB1
  obtain ⟨⟨c0, c1, c2, c3, c4, c5⟩, ⟨f0, f1, f2, f3, f4, f5⟩, z0⟩ := blk6 g0
  have q0 := cell_of_row _ _ 0 _ _ (0, 0) g1
  have q1 := cell_of_row _ _ 1 _ _ (0, 0) g1
  have q2 := cell_of_row _ _ 2 _ _ (0, 0) g1
  have q3 := cell_of_row _ _ 3 _ _ (0, 0) g1
  have z1 : W.heap.size + 1 < w1.heap.size := by omega
  clear g0 g1 g2
  go_wp2_with fail
  refine (HMM.out _ hbq).mono ?_
  rintro e w2 ⟨ho, hw2⟩
  have hB2 := hbq.trans (hw2.mono hbq.size)
  obtain ⟨A1, cap1, rfl, hk⟩ := ho.op (HV0.out.below hB2)
  have g2 := carry hw2 K2.out
  have g3 := carry hw2 K3.out
  have hz2 : w1.heap.size + 1 ≤ w2.heap.size := by have := hw2.size; simp at this; omega
  have HK := Lib.hid (hk.mono (B' := W.heap.size + 1 + 1 + 1) (by simp; omega))
  have HB2 := Lib.hid hB2
  clear hk ho hw2 hB2 hbq c0 c1 c2 c3 c4 c5 f0 f1 f2 f3 f4 f5 z0 z1 q0 q1 q2 q3
  obtain ⟨uw, uh, ul, ux, uy, uk⟩ := u
  obtain ⟨⟨k0, k1, k2, k3, k4, k5⟩, ⟨e0, e1, e2, e3, e4, e5⟩, z2⟩ := blk6 g2
  have d1 := cell_of_row _ _ 1 _ _ (0, 0) g3
  have z3 : w1.heap.size < w2.heap.size := by omega
  have K4 := Lib.hid g2
  clear g2 g3
  cases uk
  all_goals cases bw
  all_goals
    go_upto_region 4 with fail
  · obtain ⟨w3, hw3⟩ : ∃ w3, w3 = w2.alloc (.cells #[.int .i64 uw, .int .i64 uh, .slice A1 ul.length cap1, .int .i64 ux, .int .i64 uy, .bool false] 64) := ⟨_, rfl⟩
    rw [← hw3]
    have g2 : w3.heap[W.heap.size + 1 + 1]? = some (.cells #[.int .i64 0, .int .i64 0, .slice none 0 0, .int .i64 0, .int .i64 0, .bool false] 26 (0, 0)) := by rw [hw3]; exact carryA _ K4.out
    have g3 : w3.heap[w2.heap.size]? = some (.cells #[.int .i64 uw, .int .i64 uh, .slice A1 ul.length cap1, .int .i64 ux, .int .i64 uy, .bool false] 64 (0, 0)) := by rw [hw3]; exact heap_alloc_new _ _
    have HK3 := Lib.hid (show Kp (W.heap.size + 1 + 1 + 1) (.slice A l.length cap) l w3 (.slice A1 ul.length cap1) ul by rw [hw3]; exact HK.out.alloc _)
    have HB3 := Lib.hid (show Below W.heap.size W w3 by rw [hw3]; exact HB2.out.alloc (by omega) _)
    clear hw3 k0 k1 k2 k3 k4 k5 e0 e1 e2 e3 e4 e5 z2 z3 d1
    obtain ⟨⟨c0, c1, c2, c3, c4, c5⟩, ⟨f0, f1, f2, f3, f4, f5⟩, z0⟩ := blk6 g3
    obtain ⟨⟨k0, k1, k2, k3, k4, k5⟩, ⟨e0, e1, e2, e3, e4, e5⟩, z2⟩ := blk6 g2
    clear g2 g3
    go_wp2
    refine bodyPost_ret (v := .agg #[.int .i64 uw, .int .i64 uh, .slice A1 ul.length cap1, .int .i64 ux, .int .i64 uy, .bool false]) (by simp [results, Tryz.results14, go_sem, *]) rfl ⟨TO.of rfl rfl ?_, ?_⟩
    · refine Kp.mono (B := W.heap.size + 1 + 1 + 1) ?_ (by omega)
      have HO' := HK3.out
      repeat (first | (with_reducible exact HO') | refine Kp.set1 ?_ _ _ _ (by omega))
    · repeat (first | (with_reducible exact HB3.out) | refine Below.setCell ?_ (by simp; omega) _)
  · obtain ⟨w3, hw3⟩ : ∃ w3, w3 = w2.alloc (.cells #[.int .i64 uw, .int .i64 uh, .slice A1 ul.length cap1, .int .i64 ux, .int .i64 uy, .bool false] 64) := ⟨_, rfl⟩
    rw [← hw3]
    have g2 : w3.heap[W.heap.size + 1 + 1]? = some (.cells #[.int .i64 0, .int .i64 0, .slice none 0 0, .int .i64 0, .int .i64 0, .bool false] 26 (0, 0)) := by rw [hw3]; exact carryA _ K4.out
    have g3 : w3.heap[w2.heap.size]? = some (.cells #[.int .i64 uw, .int .i64 uh, .slice A1 ul.length cap1, .int .i64 ux, .int .i64 uy, .bool false] 64 (0, 0)) := by rw [hw3]; exact heap_alloc_new _ _
    have HK3 := Lib.hid (show Kp (W.heap.size + 1 + 1 + 1) (.slice A l.length cap) l w3 (.slice A1 ul.length cap1) ul by rw [hw3]; exact HK.out.alloc _)
    have HB3 := Lib.hid (show Below W.heap.size W w3 by rw [hw3]; exact HB2.out.alloc (by omega) _)
    clear hw3 k0 k1 k2 k3 k4 k5 e0 e1 e2 e3 e4 e5 z2 z3 d1
    obtain ⟨⟨c0, c1, c2, c3, c4, c5⟩, ⟨f0, f1, f2, f3, f4, f5⟩, z0⟩ := blk6 g3
    obtain ⟨⟨k0, k1, k2, k3, k4, k5⟩, ⟨e0, e1, e2, e3, e4, e5⟩, z2⟩ := blk6 g2
    clear g2 g3
    go_wp2
    refine bodyPost_ret (v := .agg #[.int .i64 uw, .int .i64 uh, .slice A1 ul.length cap1, .int .i64 ux, .int .i64 uy, .bool false]) (by simp [results, Tryz.results14, go_sem, *]) rfl ⟨TO.of rfl rfl ?_, ?_⟩
    · refine Kp.mono (B := W.heap.size + 1 + 1 + 1) ?_ (by omega)
      have HO' := HK3.out
      repeat (first | (with_reducible exact HO') | refine Kp.set1 ?_ _ _ _ (by omega))
    · repeat (first | (with_reducible exact HB3.out) | refine Below.setCell ?_ (by simp; omega) _)
  · obtain ⟨w3, hw3⟩ : ∃ w3, w3 = w2.alloc (.cells #[.int .i64 uw, .int .i64 uh, .slice A1 ul.length cap1, .int .i64 ux, .int .i64 uy, .bool false] 64) := ⟨_, rfl⟩
    rw [← hw3]
    have g2 : w3.heap[W.heap.size + 1 + 1]? = some (.cells #[.int .i64 0, .int .i64 0, .slice none 0 0, .int .i64 0, .int .i64 0, .bool false] 26 (0, 0)) := by rw [hw3]; exact carryA _ K4.out
    have g3 : w3.heap[w2.heap.size]? = some (.cells #[.int .i64 uw, .int .i64 uh, .slice A1 ul.length cap1, .int .i64 ux, .int .i64 uy, .bool false] 64 (0, 0)) := by rw [hw3]; exact heap_alloc_new _ _
    have HK3 := Lib.hid (show Kp (W.heap.size + 1 + 1 + 1) (.slice A l.length cap) l w3 (.slice A1 ul.length cap1) ul by rw [hw3]; exact HK.out.alloc _)
    have HB3 := Lib.hid (show Below W.heap.size W w3 by rw [hw3]; exact HB2.out.alloc (by omega) _)
    clear hw3 k0 k1 k2 k3 k4 k5 e0 e1 e2 e3 e4 e5 z2 z3 d1
    obtain ⟨⟨c0, c1, c2, c3, c4, c5⟩, ⟨f0, f1, f2, f3, f4, f5⟩, z0⟩ := blk6 g3
    obtain ⟨⟨k0, k1, k2, k3, k4, k5⟩, ⟨e0, e1, e2, e3, e4, e5⟩, z2⟩ := blk6 g2
    clear g2 g3
    go_wp2
    refine bodyPost_ret (v := .agg #[.int .i64 uw, .int .i64 uh, .slice A1 ul.length cap1, .int .i64 ux, .int .i64 uy, .bool false]) (by simp [results, Tryz.results14, go_sem, *]) rfl ⟨TO.of rfl rfl ?_, ?_⟩
    · refine Kp.mono (B := W.heap.size + 1 + 1 + 1) ?_ (by omega)
      have HO' := HK3.out
      repeat (first | (with_reducible exact HO') | refine Kp.set1 ?_ _ _ _ (by omega))
    · repeat (first | (with_reducible exact HB3.out) | refine Below.setCell ?_ (by simp; omega) _)
  · obtain ⟨w3, hw3⟩ : ∃ w3, w3 = w2.alloc (.cells #[.int .i64 uw, .int .i64 uh, .slice A1 ul.length cap1, .int .i64 ux, .int .i64 uy, .bool true] 64) := ⟨_, rfl⟩
    rw [← hw3]
    have g2 : w3.heap[W.heap.size + 1 + 1]? = some (.cells #[.int .i64 0, .int .i64 0, .slice none 0 0, .int .i64 0, .int .i64 0, .bool false] 26 (0, 0)) := by rw [hw3]; exact carryA _ K4.out
    have g3 : w3.heap[w2.heap.size]? = some (.cells #[.int .i64 uw, .int .i64 uh, .slice A1 ul.length cap1, .int .i64 ux, .int .i64 uy, .bool true] 64 (0, 0)) := by rw [hw3]; exact heap_alloc_new _ _
    have HK3 := Lib.hid (show Kp (W.heap.size + 1 + 1 + 1) (.slice A l.length cap) l w3 (.slice A1 ul.length cap1) ul by rw [hw3]; exact HK.out.alloc _)
    have HB3 := Lib.hid (show Below W.heap.size W w3 by rw [hw3]; exact HB2.out.alloc (by omega) _)
    clear hw3 k0 k1 k2 k3 k4 k5 e0 e1 e2 e3 e4 e5 z2 z3 d1
    obtain ⟨⟨c0, c1, c2, c3, c4, c5⟩, ⟨f0, f1, f2, f3, f4, f5⟩, z0⟩ := blk6 g3
    obtain ⟨⟨k0, k1, k2, k3, k4, k5⟩, ⟨e0, e1, e2, e3, e4, e5⟩, z2⟩ := blk6 g2
    clear g2 g3
    go_wp2
    refine bodyPost_ret (v := .agg #[.int .i64 uw, .int .i64 uh, .slice A1 ul.length cap1, .int .i64 ux, .int .i64 uy, .bool true]) (by simp [results, Tryz.results14, go_sem, *]) rfl ⟨TO.of rfl rfl ?_, ?_⟩
    · refine Kp.mono (B := W.heap.size + 1 + 1 + 1) ?_ (by omega)
      have HO' := HK3.out
      repeat (first | (with_reducible exact HO') | refine Kp.set1 ?_ _ _ _ (by omega))
    · repeat (first | (with_reducible exact HB3.out) | refine Below.setCell ?_ (by simp; omega) _)
theorem and_f (u : Trm) : { u with k := u.k && false } = { u with k := false } := by cases u; simp
theorem and_t (u : Trm) : { u with k := u.k && true } = u := by cases u; simp
theorem after_any (gw gh x y K a b r : Int) (k : Bool) (l : List (Int × Int)) (h : rt ⟨gw, gh, l, x, y, k⟩) (hc : isR (K, a, b, r) = true) (A : Option Addr) (cap : Nat) (W : World) (hv : Rc W (.slice A l.length cap) l) (S : Spans W 2) (T : Blk W 0) :
    Calls Tryz.prog 14 #[.agg #[.int .i64 gw, .int .i64 gh, .slice A l.length cap, .int .i64 x, .int .i64 y, .bool k], .agg #[.int .i64 K, .int .i64 a, .int .i64 b, .int .i32 r]] W fun e w' => TO W.heap.size (.slice A l.length cap) l w' e (doT ⟨gw, gh, l, x, y, k⟩ (K, a, b, r)) ∧ Below W.heap.size W w' := by
  have h' := h
  obtain ⟨h0, hx0, hx1, hy0, hy1, -⟩ := h'
  simp only at h0 hx0 hx1 hy0 hy1
  have hx : 0 ≤ x ∧ x < gw := ⟨hx0, hx1⟩
  have hy : 0 ≤ y ∧ y < gh := ⟨hy0, hy1⟩
  have hsd := h0.1
  have hw : 2 ≤ gw ∧ gw ≤ 80 := ⟨hsd.1, hsd.2.1⟩
  have hh : 1 ≤ gh ∧ gh ≤ 24 := hsd.2.2
  have ex := wi_id x (gw - 1) (by omega)
  have ey := wi_id y (gh - 1) (by omega)
  have e0 := wi_id 0 (gw - 1) (by omega)
  have hca := (isC_iff K a b r).1 hc
  have ha : 0 ≤ a ∧ a ≤ 100 := by omega
  have hkk : 1 ≤ K ∧ K ≤ 12 := by omega
  rcases (show K = 1 ∨ K = 2 ∨ K = 3 ∨ K = 4 ∨ K = 5 ∨ K = 6 ∨ K = 7 ∨ K = 8 ∨ K = 9 ∨ K = 10 ∨ K = 11 ∨ K = 12 by omega) with rfl | rfl | rfl | rfl | rfl | rfl | rfl | rfl | rfl | rfl | rfl | rfl
  · have hs : shw r = true := by rcases hca with h | h | h | h; exact h.2.1; all_goals omega
    have H := after_gen gw gh x y 1 a b r k l hkk 48 true rfl rfl (fun _ _ => by kernel_rfl) (tx ⟨gw, gh, l, x, y, k⟩ r) A cap W hv (fun wz hb => mtext_any gw gh x y 1 a b r k l h hs A cap wz (hv.below hb) (S.below hb) (T.below hb))
    rw [and_t] at H
    exact H
  · have H := after_gen gw gh x y 2 a b r k l hkk 49 false rfl rfl (fun _ _ => by kernel_rfl) ⟨gw, gh, l, wi b (gw - 1), wi a (gh - 1), k⟩ A cap W hv (fun wz hb => mplace_any gw gh x y 2 a b r k l hw hh hx hy ha A cap wz (hv.below hb))
    rw [and_f] at H
    exact H
  · have H := after_gen gw gh x y 3 a b r k l hkk 50 false rfl rfl (fun _ _ => by kernel_rfl) ⟨gw, gh, l, wi x (gw - 1), wi (y - a) (gh - 1), k⟩ A cap W hv (fun wz hb => mup_any gw gh x y 3 a b r k l hw hh hx hy ha A cap wz (hv.below hb))
    rw [and_f] at H
    simp only [ex] at H
    exact H
  · have H := after_gen gw gh x y 4 a b r k l hkk 51 false rfl rfl (fun _ _ => by kernel_rfl) ⟨gw, gh, l, wi x (gw - 1), wi (y + a) (gh - 1), k⟩ A cap W hv (fun wz hb => mdown_any gw gh x y 4 a b r k l hw hh hx hy ha A cap wz (hv.below hb))
    rw [and_f] at H
    simp only [ex] at H
    exact H
  · have H := after_gen gw gh x y 5 a b r k l hkk 52 false rfl rfl (fun _ _ => by kernel_rfl) ⟨gw, gh, l, wi (x + a) (gw - 1), wi y (gh - 1), k⟩ A cap W hv (fun wz hb => mright_any gw gh x y 5 a b r k l hw hh hx hy ha A cap wz (hv.below hb))
    rw [and_f] at H
    simp only [ey] at H
    exact H
  · have H := after_gen gw gh x y 6 a b r k l hkk 53 false rfl rfl (fun _ _ => by kernel_rfl) ⟨gw, gh, l, wi (x - a) (gw - 1), wi y (gh - 1), k⟩ A cap W hv (fun wz hb => mleft_any gw gh x y 6 a b r k l hw hh hx hy ha A cap wz (hv.below hb))
    rw [and_f] at H
    simp only [ey] at H
    exact H
  · have H := after_gen gw gh x y 7 a b r k l hkk 54 false rfl rfl (fun _ _ => by kernel_rfl) ⟨gw, gh, blankL gw l (y * gw + x) ((y + 1) * gw), x, y, k⟩ A cap W hv (fun wz hb => mrow_any gw gh x y 7 a b r k l h0 hx hy A cap wz (hv.below hb) (S.below hb) (T.below hb))
    rw [and_f] at H
    exact H
  · have H := after_gen gw gh x y 8 a b r k l hkk 55 false rfl rfl (fun _ _ => by kernel_rfl) ⟨gw, gh, blankL gw l (y * gw + x) (gh * gw), x, y, k⟩ A cap W hv (fun wz hb => mall_any gw gh x y 8 a b r k l h0 hx hy A cap wz (hv.below hb) (S.below hb) (T.below hb))
    rw [and_f] at H
    rw [Int.mul_comm gh gw] at H
    exact H
  · have H := after_gen gw gh x y 9 a b r k l hkk 56 false rfl rfl (fun _ _ => by kernel_rfl) ⟨gw, gh, l, wi 0 (gw - 1), wi y (gh - 1), k⟩ A cap W hv (fun wz hb => mhome_any gw gh x y 9 a b r k l hw hh hx hy ha A cap wz (hv.below hb))
    rw [and_f] at H
    simp only [ey, e0] at H
    exact H
  · have H := after_gen gw gh x y 10 a b r k l hkk 57 false rfl rfl (fun _ _ => by kernel_rfl) (dn ⟨gw, gh, l, x, y, k⟩) A cap W hv (fun wz hb => mfeed_any gw gh x y 10 a b r k l h0 hx hy A cap wz (hv.below hb) (S.below hb) (T.below hb))
    rw [and_f] at H
    exact H
  · have H := after_gen gw gh x y 11 a b r k l hkk 58 false rfl rfl (fun _ _ => by kernel_rfl) ⟨gw, gh, l, wi (x - 1) (gw - 1), wi y (gh - 1), k⟩ A cap W hv (fun wz hb => mback_any gw gh x y 11 a b r k l hw hh hx hy ha A cap wz (hv.below hb))
    rw [and_f] at H
    simp only [ey] at H
    exact H
  · have H := after_gen gw gh x y 12 a b r k l hkk 59 true rfl rfl (fun _ _ => by kernel_rfl) ⟨gw, gh, l, x, y, k⟩ A cap W hv (fun wz hb => mbell_any gw gh x y 12 a b r k l h0 hx hy A cap wz (hv.below hb))
    rw [and_t] at H
    exact H
end Go.Proofs.YtkkioajmfkcloaaGreatDoor
