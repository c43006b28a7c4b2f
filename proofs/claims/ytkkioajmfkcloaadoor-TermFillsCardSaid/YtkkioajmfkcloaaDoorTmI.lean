/- The statements' big of terminals, and the reference's Same at two that are the same. -/
import Derived.Test.YtkkioajmfkcloaaDoorTmH
import Derived.Test.YtkkioajmfkcloaaDoorGdR
set_option linter.unusedVariables false
namespace Go.Proofs.YtkkioajmfkcloaaDoor
open Go.RowKit Gl L Wd Gd Tm Vt
theorem tbig_any (gw gh x y : Int) (k : Bool) (A : Option Addr) (n cap : Nat) (hn : n ≤ maxLen) (W : World) :
    Calls Tryd.prog 5 #[.agg #[.int .i64 gw, .int .i64 gh, .slice A n cap, .int .i64 x, .int .i64 y, .bool k]] W fun e w' => e = .returned (.bool (decide (3000 < n))) ∧ Below W.heap.size W w' := by
  unfold maxLen at hn
  go_enter Tryd.func5, Tryd.ntmps5
  go_wp2
  go_ret
  exact ⟨ret_bool (by rw [decide_eq_decide]; omega), (Below.refl _ _).alloc (Nat.le_refl _) _⟩
set_option maxHeartbeats 2000000 in
theorem tsame_any (gw gh x y : Int) (k : Bool) (l : List (Int × Int)) (A1 A2 : Option Addr) (cap1 cap2 : Nat) (W : World) (h1 : Rc W (.slice A1 l.length cap1) l) (h2 : Rc W (.slice A2 l.length cap2) l) (hm : l.length ≤ 1000000000) :
    Calls Tryd.prog 9 #[.agg #[.int .i64 gw, .int .i64 gh, .slice A1 l.length cap1, .int .i64 x, .int .i64 y, .bool k], .agg #[.int .i64 gw, .int .i64 gh, .slice A2 l.length cap2, .int .i64 x, .int .i64 y, .bool k]] W fun e w' => e = .returned (.bool true) ∧ Below W.heap.size W w' := by
  have V := Lib.hid ((((Lv.start W).row h1).row h2).box (Nat.le_refl _) #[.int .i64 gw, .int .i64 gh, .slice A1 l.length cap1, .int .i64 x, .int .i64 y, .bool k] 26)
  replace V := Lib.hid (V.out.box (Nat.le_refl _) #[.int .i64 gw, .int .i64 gh, .slice A2 l.length cap2, .int .i64 x, .int .i64 y, .bool k] 26)
  have HM := Lib.hid hm
  clear h1 h2 hm
  go_enter Tryd.func9, Tryd.ntmps9
  go_wp2_with fail
  refine (gsame_any gw gh gw gh _ _ l l _ (V.out.rws 1 _ rfl).rw (V.out.rws 0 _ rfl).rw HM.out HM.out ⟨rfl, rfl, rfl⟩).mono ?_
  rintro e w1 ⟨rfl, hb1⟩
  replace V := Lib.hid (V.out.call hb1 (Nat.le_refl _))
  clear hb1
  have gp := V.out.bks 1 _ rfl
  dsimp only at gp
  obtain ⟨⟨pa, pb, pc, pd, pe, pf⟩, -, pz⟩ := blk6 gp
  have gq := V.out.bks 0 _ rfl
  dsimp only at gq
  rw [one_size] at gq
  obtain ⟨⟨qa, qb, qc, qd, qe, qf⟩, -, qz⟩ := blk6 gq
  clear gp gq
  go_wp2
  go_ret
  exact ⟨by simp, V.out.below⟩
end Go.Proofs.YtkkioajmfkcloaaDoor
