/- The walk of VtPuts. Condition: the table of the kinds with one form as the program lays it. -/
import Derived.Test.YtmgckdicccpfoaaDoorVtE
import Derived.Test.YtmgckdicccpfoaaDoorVtL
import Derived.Deep.RegionHeld3
set_option linter.unusedVariables false
namespace Go.Proofs.YtmgckdicccpfoaaDoor
open Go.RowKit Gl L Vt
namespace Vt
/-- What lasts: the table, and all that was there. -/
def Hv (w w' : World) : Prop := Forms w' 0 ∧ Below w.heap.size w w'
theorem Hv.below {w w1 w2 : World} (h : Hv w w1) (hb : Below w1.heap.size w1 w2) : Hv w w2 := ⟨h.1.below hb, h.2.trans (hb.mono h.2.size)⟩
theorem held4 {w w1 w2 : World} {n : Nat} {x y z u : Value} (hb : Below w1.heap.size w1 w2) (h : w1.cell? ⟨n, 0, none⟩ = some x ∧ w1.cell? ⟨n, 1, none⟩ = some y ∧ w1.cell? ⟨n, 2, none⟩ = some z ∧ w1.cell? ⟨n, 3, none⟩ = some u ∧ Hv w w1) :
    w2.cell? ⟨n, 0, none⟩ = some x ∧ w2.cell? ⟨n, 1, none⟩ = some y ∧ w2.cell? ⟨n, 2, none⟩ = some z ∧ w2.cell? ⟨n, 3, none⟩ = some u ∧ Hv w w2 := by
  obtain ⟨h0, h1, h2, h3, hw⟩ := h
  have hk : ∀ o v, w1.cell? ⟨n, o, none⟩ = some v → w2.cell? ⟨n, o, none⟩ = some v := fun o v hv => by
    rw [old_cell hb _ _ (World.block_lt_of_cell? w1 _ hv)]; exact hv
  exact ⟨hk _ _ h0, hk _ _ h1, hk _ _ h2, hk _ _ h3, hw.below hb⟩
theorem below_drew {w w' : World} (h : Below w.heap.size w w') : Below w.heap.size w w'.drew := h.drew
theorem Forms.drew {w : World} {g : Nat} (h : Forms w g) : Forms w.drew g := h.below ((Below.refl _ _).drew)
end Vt
set_option maxHeartbeats 4000000 in
theorem puts_law (k a b r : Int) (w : World) (F : Forms w 0) : Calls Tryd.prog 3 #[.agg #[.int .i64 k, .int .i64 a, .int .i64 b, .int .i32 r]] w fun e w' => e = .returned (.bool true) ∧ Below w.heap.size w w' := by
  have HF := Lib.hid (fun x => F.alloc x)
  clear F
  go_enter Tryd.func3, Tryd.ntmps3
  go_wp2_with fail
  refine (vput_any _ _ _ _ _ (HF.out _)).mono ?_
  rintro e w1 ⟨rfl, hw1⟩
  have F1 := Lib.hid ((HF.out _).below hw1)
  have hc1 := old_cell hw1
  unfold pv
  generalize hS : bts k a b r = S
  generalize hE : err k a b r = E
  go_wp2_with fail
  refine (rput5_any _ _ _ _ _).mono ?_
  rintro e w2 ⟨rfl, hw2⟩
  have F2 := Lib.hid (F1.out.below hw2)
  have h2 := hw1.trans (hw2.mono hw1.size)
  clear hc1
  have hc2 := old_cell h2
  unfold pv
  rw [hS, hE]
  clear hS hE
  go_wp2
  have x0 : w2.cell? ⟨w.heap.size, 0, none⟩ = some (.int .i64 k) := by rw [hc2 _ _ (by simp)]; simp
  have x1 : w2.cell? ⟨w.heap.size, 1, none⟩ = some (.int .i64 a) := by rw [hc2 _ _ (by simp)]; simp
  have x2 : w2.cell? ⟨w.heap.size, 2, none⟩ = some (.int .i64 b) := by rw [hc2 _ _ (by simp)]; simp
  have x3 : w2.cell? ⟨w.heap.size, 3, none⟩ = some (.int .i32 r) := by rw [hc2 _ _ (by simp)]; simp
  have hv := Lib.hid (show Hv w w2.drew from ⟨Vt.Forms.drew F2.out, below_drew (bl1 h2)⟩)
  clear hc2 F2 h2 hw2 F1 hw1 HF
  go_region_held3 (fun w' => w'.cell? ⟨w.heap.size, 0, none⟩ = some (.int .i64 k) ∧ w'.cell? ⟨w.heap.size, 1, none⟩ = some (.int .i64 a) ∧ w'.cell? ⟨w.heap.size, 2, none⟩ = some (.int .i64 b) ∧ w'.cell? ⟨w.heap.size, 3, none⟩ = some (.int .i32 r) ∧ Hv w w') (first | exact held4 (by assumption) (by assumption) | (go_keep; done) | exact ⟨by simpa using x0, by simpa using x1, by simpa using x2, by simpa using x3, hv.out⟩)
    (first | (go_at_call 10; refine (ex_any _ ?_).mono ?_; (exact And.left (And.right (And.right (And.right (And.right (by assumption)))))); rintro e w' ⟨rfl, hb⟩)
           | (go_at_call 11; refine (vis_any _ _ _ _ _ ?_).mono ?_; (exact And.left (And.right (And.right (And.right (And.right (by assumption)))))); rintro e w' ⟨rfl, hb⟩)
           | (go_at_call 12; refine (ris5_any _ _ _ _ _).mono ?_; rintro e w' ⟨rfl, hb⟩))
  all_goals go_wp2
  all_goals go_ret
  all_goals refine ⟨by simp, ?_⟩
  all_goals exact And.right (And.right (And.right (And.right (And.right (by assumption)))))
end Go.Proofs.YtmgckdicccpfoaaDoor
