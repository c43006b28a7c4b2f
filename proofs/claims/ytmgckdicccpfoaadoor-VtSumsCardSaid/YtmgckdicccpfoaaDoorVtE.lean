/- The contract of the statements' example: it is true. Condition: the table of the kinds with one form as the program lays it. -/
import Derived.Test.YtmgckdicccpfoaaDoorVtO
import Derived.Test.YtmgckdicccpfoaaDoorVtV
set_option linter.unusedVariables false
namespace Go.Proofs.YtmgckdicccpfoaaDoor
open Go.RowKit Gl L Vt
namespace Vt
def cg : Cmd := (2, 23, 0, 0)
def cu : Cmd := (3, 1, 0, 0)
def cr : Cmd := (7, 0, 0, 0)
def ct : Cmd := (1, 0, 0, 233)
theorem e1 : pv 2 23 0 0 = .tuple #[.string ⟨#[27, 91, 50, 52, 59, 49, 72]⟩, .int .i64 0] := by rw [pv_yes (by decide), show bts 2 23 0 0 = ⟨#[27, 91, 50, 52, 59, 49, 72]⟩ by decide +kernel]
theorem e2 : pv 3 1 0 0 = .tuple #[.string ⟨#[27, 91, 65]⟩, .int .i64 0] := by rw [pv_yes (by decide), show bts 3 1 0 0 = ⟨#[27, 91, 65]⟩ by decide +kernel]
theorem e3 : pv 1 0 0 233 = .tuple #[.string ⟨#[195, 169]⟩, .int .i64 0] := by rw [pv_yes (by decide), show bts 1 0 0 233 = ⟨#[195, 169]⟩ by decide +kernel]
theorem e4 : pv 6 80 0 0 = .tuple #[.string ⟨#[27, 91, 56, 48, 68]⟩, .int .i64 0] := by rw [pv_yes (by decide), show bts 6 80 0 0 = ⟨#[27, 91, 56, 48, 68]⟩ by decide +kernel]
theorem e5 : pv 0 0 0 0 = .tuple #[.string ⟨#[]⟩, .int .i64 1] := pv_no (by decide)
theorem e6 : costL [cg, cu, cr, ct] = 15 := by decide +kernel
theorem e7 : padL [cg, cr, cr] = 2 := by decide +kernel
theorem e8 : isC 2 23 0 0 = true := by decide
theorem e9 : isC 2 24 0 0 = false := by decide
end Vt
theorem Forms.alloc {w : World} {g : Nat} (h : Forms w g) (o : Obj) : Forms (w.alloc o) g := h.below ((Below.refl _ _).alloc (Nat.le_refl _) o)
theorem bl4 {w w1 : World} {x y z u : Obj} (h : Below ((((w.alloc x).alloc y).alloc z).alloc u).heap.size ((((w.alloc x).alloc y).alloc z).alloc u) w1) : Below w.heap.size w w1 :=
  (((((Below.refl _ _).alloc (Nat.le_refl _) _).alloc (by simp) _).alloc (by simp; omega) _).alloc (by simp; omega) _).trans (h.mono (by simp; omega))
theorem row_lit4 (w : World) (cs : Array Value) (t : TypeId) (l : List Cmd) (h : cs.toList = flatC l) (cap : Nat) : Rw (w.alloc (.cells cs t)) (.slice (some ⟨w.heap.size, 0, none⟩) l.length cap) 4 l.length (flatC l) := by
  have hs : cs.size = l.length * 4 := by rw [← Array.length_toList, h, flatC_len]
  have := Rw.lit w cs t 4 l.length cap (by omega)
  rw [h, List.take_of_length_le (by rw [flatC_len]; omega)] at this
  exact this
set_option maxHeartbeats 4000000 in
theorem ex_any (w : World) (F : Forms w 0) : Calls Tryd.prog 10 #[] w fun e w' => e = .returned (.bool true) ∧ Below w.heap.size w w' := by
  have HF := Lib.hid (fun (x y z u : Obj) => (((F.alloc x).alloc y).alloc z).alloc u)
  have HP := Lib.hid (fun k a b r wz hf => vput_any k a b r wz hf)
  clear F
  go_enter Tryd.func10, Tryd.ntmps10
  go_wp2_with fail
  refine (HP.out _ _ _ _ _ (HF.out _ _ _ _)).mono ?_
  rintro e w1 ⟨rfl, hw1⟩
  rw [e1]
  have hc1 := old_cell hw1
  have F1 := Lib.hid ((HF.out _ _ _ _).below hw1)
  go_wp2_with fail
  refine (HP.out _ _ _ _ _ F1.out).mono ?_
  rintro e w2 ⟨rfl, hw2⟩
  rw [e2]
  have h2 := hw1.trans (hw2.mono hw1.size)
  have F2 := Lib.hid (F1.out.below hw2)
  clear hc1
  have hc2 := old_cell h2
  go_wp2_with fail
  refine (HP.out _ _ _ _ _ F2.out).mono ?_
  rintro e w3 ⟨rfl, hw3⟩
  rw [e3]
  have h3 := h2.trans (hw3.mono h2.size)
  have F3 := Lib.hid (F2.out.below hw3)
  clear hc2
  have hc3 := old_cell h3
  go_wp2_with fail
  refine (HP.out _ _ _ _ _ F3.out).mono ?_
  rintro e w4 ⟨rfl, hw4⟩
  rw [e4]
  have h4 := h3.trans (hw4.mono h3.size)
  have F4 := Lib.hid (F3.out.below hw4)
  clear hc3
  have hc4 := old_cell h4
  go_wp2_with fail
  refine (HP.out _ _ _ _ _ F4.out).mono ?_
  rintro e w5 ⟨rfl, hw5⟩
  rw [e5]
  have h5 := h4.trans (hw5.mono h4.size)
  have F5 := Lib.hid (F4.out.below hw5)
  clear hc4
  have hc5 := old_cell h5
  go_wp2_with fail
  refine (vcost_any _ [cg, cu, cr, ct] _ (F5.out.alloc _) (row_lit4 w5 _ 23 [cg, cu, cr, ct] rfl 4) (by decide)).mono ?_
  rintro e w6 ⟨rfl, hw6⟩
  rw [e6]
  have h6 := h5.trans ((bl1 hw6).mono h5.size)
  have F6 := Lib.hid ((F5.out.alloc _).below hw6)
  clear hc5
  have hc6 := old_cell h6
  go_wp2_with fail
  refine (vpads_any _ [cg, cr, cr] _ (F6.out.alloc _) (row_lit4 w6 _ 23 [cg, cr, cr] rfl 3) (by decide)).mono ?_
  rintro e w7 ⟨rfl, hw7⟩
  rw [e7]
  have h7 := h6.trans ((bl1 hw7).mono h6.size)
  have F7 := Lib.hid ((F6.out.alloc _).below hw7)
  clear hc6
  have hc7 := old_cell h7
  go_wp2_with fail
  refine (vis_any _ _ _ _ _ F7.out).mono ?_
  rintro e w8 ⟨rfl, hw8⟩
  rw [e8]
  have h8 := h7.trans (hw8.mono h7.size)
  have F8 := Lib.hid (F7.out.below hw8)
  clear hc7
  have hc8 := old_cell h8
  go_wp2_with fail
  refine (vis_any _ _ _ _ _ F8.out).mono ?_
  rintro e w9 ⟨rfl, hw9⟩
  rw [e9]
  have h9 := h8.trans (hw9.mono h8.size)
  clear hc8
  go_wp2
  go_ret
  exact ⟨rfl, bl4 h9⟩
end Go.Proofs.YtmgckdicccpfoaaDoor
