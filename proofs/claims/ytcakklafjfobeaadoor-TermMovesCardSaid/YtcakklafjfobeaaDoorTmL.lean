/- The walk of TermMoves: it returns true, and turns nothing that was there. -/
import Derived.Test.YtcakklafjfobeaaDoorTmI
set_option linter.unusedVariables false
namespace Go.Proofs.YtcakklafjfobeaaDoor
open Go.RowKit Gl L Wd Gd Tm Vt
set_option maxRecDepth 100000 in
set_option maxHeartbeats 16000000 in
theorem tmoves_m36 (gw gh x y K a b r : Int) (k : Bool) (l : List (Int × Int)) (A : Option Addr) (cap : Nat) (W : World) (hv : Rc W (.slice A l.length cap) l) (hm : l.length ≤ maxLen) (hg : gw ≤ 9223372036854775807) (hh : -9223372036854775808 ≤ gh ∧ gh ≤ 9223372036854775807) (hK : 3 ≤ K ∧ K ≤ 6) (hr : rt ⟨gw, gh, l, x, y, k⟩) (hc : isR (K, a, b, r) = true) (S : Spans W 1) (T : Blk W 0) (F : Forms W 2) (U : Tabs W 3 4) :
    Calls Tryd.prog 7 #[.agg #[.int .i64 gw, .int .i64 gh, .slice A l.length cap, .int .i64 x, .int .i64 y, .bool k], .agg #[.int .i64 K, .int .i64 a, .int .i64 b, .int .i32 r]] W fun e w' => e = .returned (.bool true) ∧ Below W.heap.size W w' := by
  have b1 : (decide (3 ≤ K)) = true := by rw [decide_eq_true_iff]; omega
  have b2 : (decide (K ≤ 6)) = true := by rw [decide_eq_true_iff]; omega
  have HK := Lib.hid hK
  have V := Lib.hid ((Lv.start W).row hv)
  replace V := Lib.hid (V.out.box (Nat.le_refl _) #[.int .i64 gw, .int .i64 gh, .slice A l.length cap, .int .i64 x, .int .i64 y, .bool k] 26)
  replace V := Lib.hid (V.out.box (Nat.le_refl _) #[.int .i64 K, .int .i64 a, .int .i64 b, .int .i32 r] 37)
  clear hv
  have HR := Lib.hid hr
  have HC := Lib.hid hc
  have hl1 := right_len hr.1
  have hs := hr.1.1
  have hy0 := hr.2.2.2.1
  have hy1 := hr.2.2.2.2.1
  simp only at hl1 hs hy0 hy1
  obtain ⟨hgo, hl, hw, hht, hri⟩ := move_go hr hc (by unfold movesB; rw [decide_eq_true_iff]; simp only; omega)
  obtain ⟨⟨uw, uh, ul, ux, uy, uk⟩, hu⟩ : ∃ u : Trm, doT ⟨gw, gh, l, x, y, k⟩ (K, a, b, r) = u := ⟨_, rfl⟩
  rw [hu] at hgo hl hw hht hri
  simp only at hgo hl hw hht hri
  replace hl := hl.symm
  replace hw := hw.symm
  replace hht := hht.symm
  subst hl hw hht
  have HU := Lib.hid hu
  have HGO := Lib.hid hgo
  have HRI := Lib.hid hri
  clear hu hgo hri hr hc
  clear hK
  go_enter Tryd.func7, Tryd.ntmps7
  go_wp2_with fail
  refine (tdo_any gw gh x y K a b r k l A cap _ (V.out.rws 0 _ rfl) hm hg (S.below V.out.below) (T.below V.out.below) (F.below V.out.below)).mono ?_
  rintro e w3 ⟨ho, hb3⟩
  replace V := Lib.hid (V.out.call hb3 (Nat.le_refl _))
  rw [HU.out] at ho
  obtain ⟨A3, cap3, rfl, hk⟩ := ho.is (by rw [HC.out, decide_eq_true HR.out]; rfl) (V.out.rws 0 _ rfl)
  dsimp only at hk
  replace V := Lib.hid (V.out.row (hk.rc (V.out.rws 0 _ rfl)))
  clear ho hb3 hk
  replace V := Lib.hid (V.out.box (Nat.le_refl _) #[.int .i64 gw, .int .i64 gh, .slice A3 l.length cap3, .int .i64 ux, .int .i64 uy, .bool uk] 26)
  have gp := V.out.bks 2 _ rfl
  dsimp only at gp
  obtain ⟨⟨pa, pb, pc, pd, pe, pf⟩, -, pz⟩ := blk6 gp
  clear gp
  have gq := V.out.bks 1 _ rfl
  dsimp only at gq
  rw [one_size] at gq
  have q0 := cell_of_row _ _ 0 _ _ (0, 0) gq
  have q1 := cell_of_row _ _ 1 _ _ (0, 0) gq
  have q2 := cell_of_row _ _ 2 _ _ (0, 0) gq
  have q3 := cell_of_row _ _ 3 _ _ (0, 0) gq
  have qz := lt_of_block gq
  clear gq
  go_wp2_with fail
  clear pa pb pc pd pe pf pz
  clear q0 q1 q2 q3 qz
  refine (tbig_any gw gh x y k A l.length cap hm _).mono ?_
  rintro e w4 ⟨rfl, hb4⟩
  rw [decide_eq_false (by omega)]
  replace V := Lib.hid (V.out.call hb4 (Nat.le_refl _))
  clear hb4
  have gp := V.out.bks 2 _ rfl
  dsimp only at gp
  obtain ⟨⟨pa, pb, pc, pd, pe, pf⟩, -, pz⟩ := blk6 gp
  clear gp
  have gq := V.out.bks 0 _ rfl
  dsimp only at gq
  obtain ⟨⟨qa, qb, qc, qd, qe, qf⟩, -, qz⟩ := blk6 gq
  clear gq
  go_wp2_with fail
  clear pa pb pc pd pe pf pz
  clear qa qb qc qd qe qf qz
  refine (tdo_any gw gh x y 2 uy ux 0 k l A cap _ (V.out.rws 1 _ rfl) hm hg (S.below V.out.below) (T.below V.out.below) (F.below V.out.below)).mono ?_
  rintro e w6 ⟨ho, hb6⟩
  replace V := Lib.hid (V.out.call hb6 (Nat.le_refl _))
  rw [HGO.out] at ho
  obtain ⟨A6, cap6, rfl, hk⟩ := ho.is (by rw [HRI.out, decide_eq_true HR.out]; rfl) (V.out.rws 1 _ rfl)
  dsimp only at hk
  replace V := Lib.hid (V.out.row (hk.rc (V.out.rws 1 _ rfl)))
  clear ho hb6 hk
  replace V := Lib.hid (V.out.box (Nat.le_refl _) #[.int .i64 gw, .int .i64 gh, .slice A6 l.length cap6, .int .i64 ux, .int .i64 uy, .bool uk] 26)
  go_wp2_with fail
  refine (fed_any _ (S.below V.out.below) (T.below V.out.below) (F.below V.out.below) (U.below V.out.below)).mono ?_
  rintro e w7 ⟨rfl, hb7⟩
  replace V := Lib.hid (V.out.call hb7 (Nat.le_refl _))
  clear hb7
  have gp := V.out.bks 1 _ rfl
  dsimp only at gp
  obtain ⟨⟨pa, pb, pc, pd, pe, pf⟩, -, pz⟩ := blk6 gp
  clear gp
  have gq := V.out.bks 0 _ rfl
  dsimp only at gq
  obtain ⟨⟨qa, qb, qc, qd, qe, qf⟩, -, qz⟩ := blk6 gq
  clear gq
  go_wp2_with fail
  clear pa pb pc pd pe pf pz
  clear qa qb qc qd qe qf qz
  refine (tsame_any gw gh ux uy uk l A3 A6 cap3 cap6 _ (V.out.rws 1 _ rfl) (V.out.rws 0 _ rfl) (by omega)).mono ?_
  rintro e w8 ⟨rfl, hb8⟩
  replace V := Lib.hid (V.out.call hb8 (Nat.le_refl _))
  clear hb8
  have gp := V.out.bks 1 _ rfl
  dsimp only at gp
  obtain ⟨⟨pa, pb, pc, pd, pe, pf⟩, -, pz⟩ := blk6 gp
  clear gp
  have gq := V.out.bks 3 _ rfl
  dsimp only at gq
  obtain ⟨⟨qa, qb, qc, qd, qe, qf⟩, -, qz⟩ := blk6 gq
  clear gq
  go_wp2_with fail
  clear pa pb pc pd pe pf pz
  clear qa qb qc qd qe qf qz
  refine (gsame_any gw gh gw gh _ _ l l _ (V.out.rws 1 _ rfl).rw (V.out.rws 2 _ rfl).rw (by omega) (by omega) ⟨rfl, rfl, rfl⟩).mono ?_
  rintro e w9 ⟨rfl, hb9⟩
  replace V := Lib.hid (V.out.call hb9 (Nat.le_refl _))
  go_wp2
  go_ret
  exact ⟨rfl, V.out.below⟩
set_option maxRecDepth 100000 in
set_option maxHeartbeats 16000000 in
theorem tmoves_m9 (gw gh x y K a b r : Int) (k : Bool) (l : List (Int × Int)) (A : Option Addr) (cap : Nat) (W : World) (hv : Rc W (.slice A l.length cap) l) (hm : l.length ≤ maxLen) (hg : gw ≤ 9223372036854775807) (hh : -9223372036854775808 ≤ gh ∧ gh ≤ 9223372036854775807) (hK : K = 9) (hr : rt ⟨gw, gh, l, x, y, k⟩) (hc : isR (K, a, b, r) = true) (S : Spans W 1) (T : Blk W 0) (F : Forms W 2) (U : Tabs W 3 4) :
    Calls Tryd.prog 7 #[.agg #[.int .i64 gw, .int .i64 gh, .slice A l.length cap, .int .i64 x, .int .i64 y, .bool k], .agg #[.int .i64 K, .int .i64 a, .int .i64 b, .int .i32 r]] W fun e w' => e = .returned (.bool true) ∧ Below W.heap.size W w' := by
  subst hK
  have V := Lib.hid ((Lv.start W).row hv)
  replace V := Lib.hid (V.out.box (Nat.le_refl _) #[.int .i64 gw, .int .i64 gh, .slice A l.length cap, .int .i64 x, .int .i64 y, .bool k] 26)
  replace V := Lib.hid (V.out.box (Nat.le_refl _) #[.int .i64 9, .int .i64 a, .int .i64 b, .int .i32 r] 37)
  clear hv
  have HR := Lib.hid hr
  have HC := Lib.hid hc
  have hl1 := right_len hr.1
  have hs := hr.1.1
  have hy0 := hr.2.2.2.1
  have hy1 := hr.2.2.2.2.1
  simp only at hl1 hs hy0 hy1
  obtain ⟨hgo, hl, hw, hht, hri⟩ := move_go hr hc (by unfold movesB; rw [decide_eq_true_iff]; exact .inr (.inl rfl))
  obtain ⟨⟨uw, uh, ul, ux, uy, uk⟩, hu⟩ : ∃ u : Trm, doT ⟨gw, gh, l, x, y, k⟩ (9, a, b, r) = u := ⟨_, rfl⟩
  rw [hu] at hgo hl hw hht hri
  simp only at hgo hl hw hht hri
  replace hl := hl.symm
  replace hw := hw.symm
  replace hht := hht.symm
  subst hl hw hht
  have HU := Lib.hid hu
  have HGO := Lib.hid hgo
  have HRI := Lib.hid hri
  clear hu hgo hri hr hc
  go_enter Tryd.func7, Tryd.ntmps7
  go_wp2_with fail
  refine (tdo_any gw gh x y 9 a b r k l A cap _ (V.out.rws 0 _ rfl) hm hg (S.below V.out.below) (T.below V.out.below) (F.below V.out.below)).mono ?_
  rintro e w3 ⟨ho, hb3⟩
  replace V := Lib.hid (V.out.call hb3 (Nat.le_refl _))
  rw [HU.out] at ho
  obtain ⟨A3, cap3, rfl, hk⟩ := ho.is (by rw [HC.out, decide_eq_true HR.out]; rfl) (V.out.rws 0 _ rfl)
  dsimp only at hk
  replace V := Lib.hid (V.out.row (hk.rc (V.out.rws 0 _ rfl)))
  clear ho hb3 hk
  replace V := Lib.hid (V.out.box (Nat.le_refl _) #[.int .i64 gw, .int .i64 gh, .slice A3 l.length cap3, .int .i64 ux, .int .i64 uy, .bool uk] 26)
  have gp := V.out.bks 2 _ rfl
  dsimp only at gp
  obtain ⟨⟨pa, pb, pc, pd, pe, pf⟩, -, pz⟩ := blk6 gp
  clear gp
  have gq := V.out.bks 1 _ rfl
  dsimp only at gq
  rw [one_size] at gq
  have q0 := cell_of_row _ _ 0 _ _ (0, 0) gq
  have q1 := cell_of_row _ _ 1 _ _ (0, 0) gq
  have q2 := cell_of_row _ _ 2 _ _ (0, 0) gq
  have q3 := cell_of_row _ _ 3 _ _ (0, 0) gq
  have qz := lt_of_block gq
  clear gq
  go_wp2_with fail
  clear pa pb pc pd pe pf pz
  clear q0 q1 q2 q3 qz
  refine (tbig_any gw gh x y k A l.length cap hm _).mono ?_
  rintro e w4 ⟨rfl, hb4⟩
  rw [decide_eq_false (by omega)]
  replace V := Lib.hid (V.out.call hb4 (Nat.le_refl _))
  clear hb4
  have gp := V.out.bks 2 _ rfl
  dsimp only at gp
  obtain ⟨⟨pa, pb, pc, pd, pe, pf⟩, -, pz⟩ := blk6 gp
  clear gp
  have gq := V.out.bks 0 _ rfl
  dsimp only at gq
  obtain ⟨⟨qa, qb, qc, qd, qe, qf⟩, -, qz⟩ := blk6 gq
  clear gq
  go_wp2_with fail
  clear pa pb pc pd pe pf pz
  clear qa qb qc qd qe qf qz
  refine (tdo_any gw gh x y 2 uy ux 0 k l A cap _ (V.out.rws 1 _ rfl) hm hg (S.below V.out.below) (T.below V.out.below) (F.below V.out.below)).mono ?_
  rintro e w6 ⟨ho, hb6⟩
  replace V := Lib.hid (V.out.call hb6 (Nat.le_refl _))
  rw [HGO.out] at ho
  obtain ⟨A6, cap6, rfl, hk⟩ := ho.is (by rw [HRI.out, decide_eq_true HR.out]; rfl) (V.out.rws 1 _ rfl)
  dsimp only at hk
  replace V := Lib.hid (V.out.row (hk.rc (V.out.rws 1 _ rfl)))
  clear ho hb6 hk
  replace V := Lib.hid (V.out.box (Nat.le_refl _) #[.int .i64 gw, .int .i64 gh, .slice A6 l.length cap6, .int .i64 ux, .int .i64 uy, .bool uk] 26)
  go_wp2_with fail
  refine (fed_any _ (S.below V.out.below) (T.below V.out.below) (F.below V.out.below) (U.below V.out.below)).mono ?_
  rintro e w7 ⟨rfl, hb7⟩
  replace V := Lib.hid (V.out.call hb7 (Nat.le_refl _))
  clear hb7
  have gp := V.out.bks 1 _ rfl
  dsimp only at gp
  obtain ⟨⟨pa, pb, pc, pd, pe, pf⟩, -, pz⟩ := blk6 gp
  clear gp
  have gq := V.out.bks 0 _ rfl
  dsimp only at gq
  obtain ⟨⟨qa, qb, qc, qd, qe, qf⟩, -, qz⟩ := blk6 gq
  clear gq
  go_wp2_with fail
  clear pa pb pc pd pe pf pz
  clear qa qb qc qd qe qf qz
  refine (tsame_any gw gh ux uy uk l A3 A6 cap3 cap6 _ (V.out.rws 1 _ rfl) (V.out.rws 0 _ rfl) (by omega)).mono ?_
  rintro e w8 ⟨rfl, hb8⟩
  replace V := Lib.hid (V.out.call hb8 (Nat.le_refl _))
  clear hb8
  have gp := V.out.bks 1 _ rfl
  dsimp only at gp
  obtain ⟨⟨pa, pb, pc, pd, pe, pf⟩, -, pz⟩ := blk6 gp
  clear gp
  have gq := V.out.bks 3 _ rfl
  dsimp only at gq
  obtain ⟨⟨qa, qb, qc, qd, qe, qf⟩, -, qz⟩ := blk6 gq
  clear gq
  go_wp2_with fail
  clear pa pb pc pd pe pf pz
  clear qa qb qc qd qe qf qz
  refine (gsame_any gw gh gw gh _ _ l l _ (V.out.rws 1 _ rfl).rw (V.out.rws 2 _ rfl).rw (by omega) (by omega) ⟨rfl, rfl, rfl⟩).mono ?_
  rintro e w9 ⟨rfl, hb9⟩
  replace V := Lib.hid (V.out.call hb9 (Nat.le_refl _))
  go_wp2
  go_ret
  exact ⟨rfl, V.out.below⟩
set_option maxRecDepth 100000 in
set_option maxHeartbeats 16000000 in
theorem tmoves_m11 (gw gh x y K a b r : Int) (k : Bool) (l : List (Int × Int)) (A : Option Addr) (cap : Nat) (W : World) (hv : Rc W (.slice A l.length cap) l) (hm : l.length ≤ maxLen) (hg : gw ≤ 9223372036854775807) (hh : -9223372036854775808 ≤ gh ∧ gh ≤ 9223372036854775807) (hK : K = 11) (hr : rt ⟨gw, gh, l, x, y, k⟩) (hc : isR (K, a, b, r) = true) (S : Spans W 1) (T : Blk W 0) (F : Forms W 2) (U : Tabs W 3 4) :
    Calls Tryd.prog 7 #[.agg #[.int .i64 gw, .int .i64 gh, .slice A l.length cap, .int .i64 x, .int .i64 y, .bool k], .agg #[.int .i64 K, .int .i64 a, .int .i64 b, .int .i32 r]] W fun e w' => e = .returned (.bool true) ∧ Below W.heap.size W w' := by
  subst hK
  have V := Lib.hid ((Lv.start W).row hv)
  replace V := Lib.hid (V.out.box (Nat.le_refl _) #[.int .i64 gw, .int .i64 gh, .slice A l.length cap, .int .i64 x, .int .i64 y, .bool k] 26)
  replace V := Lib.hid (V.out.box (Nat.le_refl _) #[.int .i64 11, .int .i64 a, .int .i64 b, .int .i32 r] 37)
  clear hv
  have HR := Lib.hid hr
  have HC := Lib.hid hc
  have hl1 := right_len hr.1
  have hs := hr.1.1
  have hy0 := hr.2.2.2.1
  have hy1 := hr.2.2.2.2.1
  simp only at hl1 hs hy0 hy1
  obtain ⟨hgo, hl, hw, hht, hri⟩ := move_go hr hc (by unfold movesB; rw [decide_eq_true_iff]; exact .inr (.inr (.inl rfl)))
  obtain ⟨⟨uw, uh, ul, ux, uy, uk⟩, hu⟩ : ∃ u : Trm, doT ⟨gw, gh, l, x, y, k⟩ (11, a, b, r) = u := ⟨_, rfl⟩
  rw [hu] at hgo hl hw hht hri
  simp only at hgo hl hw hht hri
  replace hl := hl.symm
  replace hw := hw.symm
  replace hht := hht.symm
  subst hl hw hht
  have HU := Lib.hid hu
  have HGO := Lib.hid hgo
  have HRI := Lib.hid hri
  clear hu hgo hri hr hc
  go_enter Tryd.func7, Tryd.ntmps7
  go_wp2_with fail
  refine (tdo_any gw gh x y 11 a b r k l A cap _ (V.out.rws 0 _ rfl) hm hg (S.below V.out.below) (T.below V.out.below) (F.below V.out.below)).mono ?_
  rintro e w3 ⟨ho, hb3⟩
  replace V := Lib.hid (V.out.call hb3 (Nat.le_refl _))
  rw [HU.out] at ho
  obtain ⟨A3, cap3, rfl, hk⟩ := ho.is (by rw [HC.out, decide_eq_true HR.out]; rfl) (V.out.rws 0 _ rfl)
  dsimp only at hk
  replace V := Lib.hid (V.out.row (hk.rc (V.out.rws 0 _ rfl)))
  clear ho hb3 hk
  replace V := Lib.hid (V.out.box (Nat.le_refl _) #[.int .i64 gw, .int .i64 gh, .slice A3 l.length cap3, .int .i64 ux, .int .i64 uy, .bool uk] 26)
  have gp := V.out.bks 2 _ rfl
  dsimp only at gp
  obtain ⟨⟨pa, pb, pc, pd, pe, pf⟩, -, pz⟩ := blk6 gp
  clear gp
  have gq := V.out.bks 1 _ rfl
  dsimp only at gq
  rw [one_size] at gq
  have q0 := cell_of_row _ _ 0 _ _ (0, 0) gq
  have q1 := cell_of_row _ _ 1 _ _ (0, 0) gq
  have q2 := cell_of_row _ _ 2 _ _ (0, 0) gq
  have q3 := cell_of_row _ _ 3 _ _ (0, 0) gq
  have qz := lt_of_block gq
  clear gq
  go_wp2_with fail
  clear pa pb pc pd pe pf pz
  clear q0 q1 q2 q3 qz
  refine (tbig_any gw gh x y k A l.length cap hm _).mono ?_
  rintro e w4 ⟨rfl, hb4⟩
  rw [decide_eq_false (by omega)]
  replace V := Lib.hid (V.out.call hb4 (Nat.le_refl _))
  clear hb4
  have gp := V.out.bks 2 _ rfl
  dsimp only at gp
  obtain ⟨⟨pa, pb, pc, pd, pe, pf⟩, -, pz⟩ := blk6 gp
  clear gp
  have gq := V.out.bks 0 _ rfl
  dsimp only at gq
  obtain ⟨⟨qa, qb, qc, qd, qe, qf⟩, -, qz⟩ := blk6 gq
  clear gq
  go_wp2_with fail
  clear pa pb pc pd pe pf pz
  clear qa qb qc qd qe qf qz
  refine (tdo_any gw gh x y 2 uy ux 0 k l A cap _ (V.out.rws 1 _ rfl) hm hg (S.below V.out.below) (T.below V.out.below) (F.below V.out.below)).mono ?_
  rintro e w6 ⟨ho, hb6⟩
  replace V := Lib.hid (V.out.call hb6 (Nat.le_refl _))
  rw [HGO.out] at ho
  obtain ⟨A6, cap6, rfl, hk⟩ := ho.is (by rw [HRI.out, decide_eq_true HR.out]; rfl) (V.out.rws 1 _ rfl)
  dsimp only at hk
  replace V := Lib.hid (V.out.row (hk.rc (V.out.rws 1 _ rfl)))
  clear ho hb6 hk
  replace V := Lib.hid (V.out.box (Nat.le_refl _) #[.int .i64 gw, .int .i64 gh, .slice A6 l.length cap6, .int .i64 ux, .int .i64 uy, .bool uk] 26)
  go_wp2_with fail
  refine (fed_any _ (S.below V.out.below) (T.below V.out.below) (F.below V.out.below) (U.below V.out.below)).mono ?_
  rintro e w7 ⟨rfl, hb7⟩
  replace V := Lib.hid (V.out.call hb7 (Nat.le_refl _))
  clear hb7
  have gp := V.out.bks 1 _ rfl
  dsimp only at gp
  obtain ⟨⟨pa, pb, pc, pd, pe, pf⟩, -, pz⟩ := blk6 gp
  clear gp
  have gq := V.out.bks 0 _ rfl
  dsimp only at gq
  obtain ⟨⟨qa, qb, qc, qd, qe, qf⟩, -, qz⟩ := blk6 gq
  clear gq
  go_wp2_with fail
  clear pa pb pc pd pe pf pz
  clear qa qb qc qd qe qf qz
  refine (tsame_any gw gh ux uy uk l A3 A6 cap3 cap6 _ (V.out.rws 1 _ rfl) (V.out.rws 0 _ rfl) (by omega)).mono ?_
  rintro e w8 ⟨rfl, hb8⟩
  replace V := Lib.hid (V.out.call hb8 (Nat.le_refl _))
  clear hb8
  have gp := V.out.bks 1 _ rfl
  dsimp only at gp
  obtain ⟨⟨pa, pb, pc, pd, pe, pf⟩, -, pz⟩ := blk6 gp
  clear gp
  have gq := V.out.bks 3 _ rfl
  dsimp only at gq
  obtain ⟨⟨qa, qb, qc, qd, qe, qf⟩, -, qz⟩ := blk6 gq
  clear gq
  go_wp2_with fail
  clear pa pb pc pd pe pf pz
  clear qa qb qc qd qe qf qz
  refine (gsame_any gw gh gw gh _ _ l l _ (V.out.rws 1 _ rfl).rw (V.out.rws 2 _ rfl).rw (by omega) (by omega) ⟨rfl, rfl, rfl⟩).mono ?_
  rintro e w9 ⟨rfl, hb9⟩
  replace V := Lib.hid (V.out.call hb9 (Nat.le_refl _))
  go_wp2
  go_ret
  exact ⟨rfl, V.out.below⟩
set_option maxRecDepth 100000 in
set_option maxHeartbeats 16000000 in
theorem tmoves_m10 (gw gh x y K a b r : Int) (k : Bool) (l : List (Int × Int)) (A : Option Addr) (cap : Nat) (W : World) (hv : Rc W (.slice A l.length cap) l) (hm : l.length ≤ maxLen) (hg : gw ≤ 9223372036854775807) (hh : -9223372036854775808 ≤ gh ∧ gh ≤ 9223372036854775807) (hK : K = 10) (hyy : y < gh - 1) (hr : rt ⟨gw, gh, l, x, y, k⟩) (hc : isR (K, a, b, r) = true) (S : Spans W 1) (T : Blk W 0) (F : Forms W 2) (U : Tabs W 3 4) :
    Calls Tryd.prog 7 #[.agg #[.int .i64 gw, .int .i64 gh, .slice A l.length cap, .int .i64 x, .int .i64 y, .bool k], .agg #[.int .i64 K, .int .i64 a, .int .i64 b, .int .i32 r]] W fun e w' => e = .returned (.bool true) ∧ Below W.heap.size W w' := by
  subst hK
  have b6 : (decide (y < gh - 1)) = true := by rw [decide_eq_true_iff]; omega
  have V := Lib.hid ((Lv.start W).row hv)
  replace V := Lib.hid (V.out.box (Nat.le_refl _) #[.int .i64 gw, .int .i64 gh, .slice A l.length cap, .int .i64 x, .int .i64 y, .bool k] 26)
  replace V := Lib.hid (V.out.box (Nat.le_refl _) #[.int .i64 10, .int .i64 a, .int .i64 b, .int .i32 r] 37)
  clear hv
  have HR := Lib.hid hr
  have HC := Lib.hid hc
  have hl1 := right_len hr.1
  have hs := hr.1.1
  have hy0 := hr.2.2.2.1
  have hy1 := hr.2.2.2.2.1
  simp only at hl1 hs hy0 hy1
  obtain ⟨hgo, hl, hw, hht, hri⟩ := move_go hr hc (by unfold movesB; rw [decide_eq_true_iff]; exact .inr (.inr (.inr ⟨rfl, hyy⟩)))
  obtain ⟨⟨uw, uh, ul, ux, uy, uk⟩, hu⟩ : ∃ u : Trm, doT ⟨gw, gh, l, x, y, k⟩ (10, a, b, r) = u := ⟨_, rfl⟩
  rw [hu] at hgo hl hw hht hri
  simp only at hgo hl hw hht hri
  replace hl := hl.symm
  replace hw := hw.symm
  replace hht := hht.symm
  subst hl hw hht
  have HU := Lib.hid hu
  have HGO := Lib.hid hgo
  have HRI := Lib.hid hri
  clear hu hgo hri hr hc
  go_enter Tryd.func7, Tryd.ntmps7
  go_wp2_with fail
  refine (tdo_any gw gh x y 10 a b r k l A cap _ (V.out.rws 0 _ rfl) hm hg (S.below V.out.below) (T.below V.out.below) (F.below V.out.below)).mono ?_
  rintro e w3 ⟨ho, hb3⟩
  replace V := Lib.hid (V.out.call hb3 (Nat.le_refl _))
  rw [HU.out] at ho
  obtain ⟨A3, cap3, rfl, hk⟩ := ho.is (by rw [HC.out, decide_eq_true HR.out]; rfl) (V.out.rws 0 _ rfl)
  dsimp only at hk
  replace V := Lib.hid (V.out.row (hk.rc (V.out.rws 0 _ rfl)))
  clear ho hb3 hk
  replace V := Lib.hid (V.out.box (Nat.le_refl _) #[.int .i64 gw, .int .i64 gh, .slice A3 l.length cap3, .int .i64 ux, .int .i64 uy, .bool uk] 26)
  have gp := V.out.bks 2 _ rfl
  dsimp only at gp
  obtain ⟨⟨pa, pb, pc, pd, pe, pf⟩, -, pz⟩ := blk6 gp
  clear gp
  have gq := V.out.bks 1 _ rfl
  dsimp only at gq
  rw [one_size] at gq
  have q0 := cell_of_row _ _ 0 _ _ (0, 0) gq
  have q1 := cell_of_row _ _ 1 _ _ (0, 0) gq
  have q2 := cell_of_row _ _ 2 _ _ (0, 0) gq
  have q3 := cell_of_row _ _ 3 _ _ (0, 0) gq
  have qz := lt_of_block gq
  clear gq
  go_wp2_with fail
  clear pa pb pc pd pe pf pz
  clear q0 q1 q2 q3 qz
  refine (tbig_any gw gh x y k A l.length cap hm _).mono ?_
  rintro e w4 ⟨rfl, hb4⟩
  rw [decide_eq_false (by omega)]
  replace V := Lib.hid (V.out.call hb4 (Nat.le_refl _))
  clear hb4
  have gp := V.out.bks 2 _ rfl
  dsimp only at gp
  obtain ⟨⟨pa, pb, pc, pd, pe, pf⟩, -, pz⟩ := blk6 gp
  clear gp
  have gq := V.out.bks 0 _ rfl
  dsimp only at gq
  obtain ⟨⟨qa, qb, qc, qd, qe, qf⟩, -, qz⟩ := blk6 gq
  clear gq
  go_wp2_with fail
  clear pa pb pc pd pe pf pz
  clear qa qb qc qd qe qf qz
  refine (tdo_any gw gh x y 2 uy ux 0 k l A cap _ (V.out.rws 1 _ rfl) hm hg (S.below V.out.below) (T.below V.out.below) (F.below V.out.below)).mono ?_
  rintro e w6 ⟨ho, hb6⟩
  replace V := Lib.hid (V.out.call hb6 (Nat.le_refl _))
  rw [HGO.out] at ho
  obtain ⟨A6, cap6, rfl, hk⟩ := ho.is (by rw [HRI.out, decide_eq_true HR.out]; rfl) (V.out.rws 1 _ rfl)
  dsimp only at hk
  replace V := Lib.hid (V.out.row (hk.rc (V.out.rws 1 _ rfl)))
  clear ho hb6 hk
  replace V := Lib.hid (V.out.box (Nat.le_refl _) #[.int .i64 gw, .int .i64 gh, .slice A6 l.length cap6, .int .i64 ux, .int .i64 uy, .bool uk] 26)
  go_wp2_with fail
  refine (fed_any _ (S.below V.out.below) (T.below V.out.below) (F.below V.out.below) (U.below V.out.below)).mono ?_
  rintro e w7 ⟨rfl, hb7⟩
  replace V := Lib.hid (V.out.call hb7 (Nat.le_refl _))
  clear hb7
  have gp := V.out.bks 1 _ rfl
  dsimp only at gp
  obtain ⟨⟨pa, pb, pc, pd, pe, pf⟩, -, pz⟩ := blk6 gp
  clear gp
  have gq := V.out.bks 0 _ rfl
  dsimp only at gq
  obtain ⟨⟨qa, qb, qc, qd, qe, qf⟩, -, qz⟩ := blk6 gq
  clear gq
  go_wp2_with fail
  clear pa pb pc pd pe pf pz
  clear qa qb qc qd qe qf qz
  refine (tsame_any gw gh ux uy uk l A3 A6 cap3 cap6 _ (V.out.rws 1 _ rfl) (V.out.rws 0 _ rfl) (by omega)).mono ?_
  rintro e w8 ⟨rfl, hb8⟩
  replace V := Lib.hid (V.out.call hb8 (Nat.le_refl _))
  clear hb8
  have gp := V.out.bks 1 _ rfl
  dsimp only at gp
  obtain ⟨⟨pa, pb, pc, pd, pe, pf⟩, -, pz⟩ := blk6 gp
  clear gp
  have gq := V.out.bks 3 _ rfl
  dsimp only at gq
  obtain ⟨⟨qa, qb, qc, qd, qe, qf⟩, -, qz⟩ := blk6 gq
  clear gq
  go_wp2_with fail
  clear pa pb pc pd pe pf pz
  clear qa qb qc qd qe qf qz
  refine (gsame_any gw gh gw gh _ _ l l _ (V.out.rws 1 _ rfl).rw (V.out.rws 2 _ rfl).rw (by omega) (by omega) ⟨rfl, rfl, rfl⟩).mono ?_
  rintro e w9 ⟨rfl, hb9⟩
  replace V := Lib.hid (V.out.call hb9 (Nat.le_refl _))
  go_wp2
  go_ret
  exact ⟨rfl, V.out.below⟩
set_option maxRecDepth 100000 in
set_option maxHeartbeats 16000000 in
theorem tmoves_s10 (gw gh x y K a b r : Int) (k : Bool) (l : List (Int × Int)) (A : Option Addr) (cap : Nat) (W : World) (hv : Rc W (.slice A l.length cap) l) (hm : l.length ≤ maxLen) (hg : gw ≤ 9223372036854775807) (hh : -9223372036854775808 ≤ gh ∧ gh ≤ 9223372036854775807) (hK : K = 10) (hyy : ¬ y < gh - 1) (hr : rt ⟨gw, gh, l, x, y, k⟩) (hc : isR (K, a, b, r) = true) (S : Spans W 1) (T : Blk W 0) (F : Forms W 2) (U : Tabs W 3 4) :
    Calls Tryd.prog 7 #[.agg #[.int .i64 gw, .int .i64 gh, .slice A l.length cap, .int .i64 x, .int .i64 y, .bool k], .agg #[.int .i64 K, .int .i64 a, .int .i64 b, .int .i32 r]] W fun e w' => e = .returned (.bool true) ∧ Below W.heap.size W w' := by
  subst hK
  have b6 : (decide (y < gh - 1)) = false := by rw [decide_eq_false_iff_not]; omega
  have V := Lib.hid ((Lv.start W).row hv)
  replace V := Lib.hid (V.out.box (Nat.le_refl _) #[.int .i64 gw, .int .i64 gh, .slice A l.length cap, .int .i64 x, .int .i64 y, .bool k] 26)
  replace V := Lib.hid (V.out.box (Nat.le_refl _) #[.int .i64 10, .int .i64 a, .int .i64 b, .int .i32 r] 37)
  clear hv
  have HR := Lib.hid hr
  have HC := Lib.hid hc
  have hl1 := right_len hr.1
  have hs := hr.1.1
  have hy0 := hr.2.2.2.1
  have hy1 := hr.2.2.2.2.1
  simp only at hl1 hs hy0 hy1
  obtain ⟨⟨uw, uh, ul, ux, uy, uk⟩, hu⟩ : ∃ u : Trm, doT ⟨gw, gh, l, x, y, k⟩ (10, a, b, r) = u := ⟨_, rfl⟩
  have HU := Lib.hid hu
  clear hu hr hc
  go_enter Tryd.func7, Tryd.ntmps7
  go_wp2_with fail
  refine (tdo_any gw gh x y 10 a b r k l A cap _ (V.out.rws 0 _ rfl) hm hg (S.below V.out.below) (T.below V.out.below) (F.below V.out.below)).mono ?_
  rintro e w3 ⟨ho, hb3⟩
  replace V := Lib.hid (V.out.call hb3 (Nat.le_refl _))
  rw [HU.out] at ho
  obtain ⟨A3, cap3, rfl, hk⟩ := ho.is (by rw [HC.out, decide_eq_true HR.out]; rfl) (V.out.rws 0 _ rfl)
  dsimp only at hk
  replace V := Lib.hid (V.out.row (hk.rc (V.out.rws 0 _ rfl)))
  clear ho hb3 hk
  replace V := Lib.hid (V.out.box (Nat.le_refl _) #[.int .i64 uw, .int .i64 uh, .slice A3 ul.length cap3, .int .i64 ux, .int .i64 uy, .bool uk] 26)
  have gp := V.out.bks 2 _ rfl
  dsimp only at gp
  obtain ⟨⟨pa, pb, pc, pd, pe, pf⟩, -, pz⟩ := blk6 gp
  clear gp
  have gq := V.out.bks 1 _ rfl
  dsimp only at gq
  rw [one_size] at gq
  have q0 := cell_of_row _ _ 0 _ _ (0, 0) gq
  have q1 := cell_of_row _ _ 1 _ _ (0, 0) gq
  have q2 := cell_of_row _ _ 2 _ _ (0, 0) gq
  have q3 := cell_of_row _ _ 3 _ _ (0, 0) gq
  have qz := lt_of_block gq
  clear gq
  go_wp2_with fail
  clear pa pb pc pd pe pf pz
  clear q0 q1 q2 q3 qz
  refine (tbig_any gw gh x y k A l.length cap hm _).mono ?_
  rintro e w4 ⟨rfl, hb4⟩
  rw [decide_eq_false (by omega)]
  replace V := Lib.hid (V.out.call hb4 (Nat.le_refl _))
  clear hb4
  go_wp2_with fail
  refine (fed_any _ (S.below V.out.below) (T.below V.out.below) (F.below V.out.below) (U.below V.out.below)).mono ?_
  rintro e w5 ⟨rfl, hb5⟩
  replace V := Lib.hid (V.out.call hb5 (Nat.le_refl _))
  clear hb5
  go_wp2
  go_ret
  exact ⟨rfl, V.out.below⟩
set_option maxRecDepth 100000 in
set_option maxHeartbeats 16000000 in
theorem tmoves_s2 (gw gh x y K a b r : Int) (k : Bool) (l : List (Int × Int)) (A : Option Addr) (cap : Nat) (W : World) (hv : Rc W (.slice A l.length cap) l) (hm : l.length ≤ maxLen) (hg : gw ≤ 9223372036854775807) (hh : -9223372036854775808 ≤ gh ∧ gh ≤ 9223372036854775807) (hK : K < 3) (hr : rt ⟨gw, gh, l, x, y, k⟩) (hc : isR (K, a, b, r) = true) (S : Spans W 1) (T : Blk W 0) (F : Forms W 2) (U : Tabs W 3 4) :
    Calls Tryd.prog 7 #[.agg #[.int .i64 gw, .int .i64 gh, .slice A l.length cap, .int .i64 x, .int .i64 y, .bool k], .agg #[.int .i64 K, .int .i64 a, .int .i64 b, .int .i32 r]] W fun e w' => e = .returned (.bool true) ∧ Below W.heap.size W w' := by
  have b1 : (decide (3 ≤ K)) = false := by rw [decide_eq_false_iff_not]; omega
  have b3 : (K == 9) = false := by rw [beq_eq_false_iff_ne]; omega
  have b4 : (K == 11) = false := by rw [beq_eq_false_iff_ne]; omega
  have b5 : (K == 10) = false := by rw [beq_eq_false_iff_ne]; omega
  have HK := Lib.hid hK
  have V := Lib.hid ((Lv.start W).row hv)
  replace V := Lib.hid (V.out.box (Nat.le_refl _) #[.int .i64 gw, .int .i64 gh, .slice A l.length cap, .int .i64 x, .int .i64 y, .bool k] 26)
  replace V := Lib.hid (V.out.box (Nat.le_refl _) #[.int .i64 K, .int .i64 a, .int .i64 b, .int .i32 r] 37)
  clear hv
  have HR := Lib.hid hr
  have HC := Lib.hid hc
  have hl1 := right_len hr.1
  have hs := hr.1.1
  have hy0 := hr.2.2.2.1
  have hy1 := hr.2.2.2.2.1
  simp only at hl1 hs hy0 hy1
  obtain ⟨⟨uw, uh, ul, ux, uy, uk⟩, hu⟩ : ∃ u : Trm, doT ⟨gw, gh, l, x, y, k⟩ (K, a, b, r) = u := ⟨_, rfl⟩
  have HU := Lib.hid hu
  clear hu hr hc
  clear hK
  go_enter Tryd.func7, Tryd.ntmps7
  go_wp2_with fail
  refine (tdo_any gw gh x y K a b r k l A cap _ (V.out.rws 0 _ rfl) hm hg (S.below V.out.below) (T.below V.out.below) (F.below V.out.below)).mono ?_
  rintro e w3 ⟨ho, hb3⟩
  replace V := Lib.hid (V.out.call hb3 (Nat.le_refl _))
  rw [HU.out] at ho
  obtain ⟨A3, cap3, rfl, hk⟩ := ho.is (by rw [HC.out, decide_eq_true HR.out]; rfl) (V.out.rws 0 _ rfl)
  dsimp only at hk
  replace V := Lib.hid (V.out.row (hk.rc (V.out.rws 0 _ rfl)))
  clear ho hb3 hk
  replace V := Lib.hid (V.out.box (Nat.le_refl _) #[.int .i64 uw, .int .i64 uh, .slice A3 ul.length cap3, .int .i64 ux, .int .i64 uy, .bool uk] 26)
  have gp := V.out.bks 2 _ rfl
  dsimp only at gp
  obtain ⟨⟨pa, pb, pc, pd, pe, pf⟩, -, pz⟩ := blk6 gp
  clear gp
  have gq := V.out.bks 1 _ rfl
  dsimp only at gq
  rw [one_size] at gq
  have q0 := cell_of_row _ _ 0 _ _ (0, 0) gq
  have q1 := cell_of_row _ _ 1 _ _ (0, 0) gq
  have q2 := cell_of_row _ _ 2 _ _ (0, 0) gq
  have q3 := cell_of_row _ _ 3 _ _ (0, 0) gq
  have qz := lt_of_block gq
  clear gq
  go_wp2_with fail
  clear pa pb pc pd pe pf pz
  clear q0 q1 q2 q3 qz
  refine (tbig_any gw gh x y k A l.length cap hm _).mono ?_
  rintro e w4 ⟨rfl, hb4⟩
  rw [decide_eq_false (by omega)]
  replace V := Lib.hid (V.out.call hb4 (Nat.le_refl _))
  clear hb4
  go_wp2_with fail
  refine (fed_any _ (S.below V.out.below) (T.below V.out.below) (F.below V.out.below) (U.below V.out.below)).mono ?_
  rintro e w5 ⟨rfl, hb5⟩
  replace V := Lib.hid (V.out.call hb5 (Nat.le_refl _))
  clear hb5
  go_wp2
  go_ret
  exact ⟨rfl, V.out.below⟩
set_option maxRecDepth 100000 in
set_option maxHeartbeats 16000000 in
theorem tmoves_s7 (gw gh x y K a b r : Int) (k : Bool) (l : List (Int × Int)) (A : Option Addr) (cap : Nat) (W : World) (hv : Rc W (.slice A l.length cap) l) (hm : l.length ≤ maxLen) (hg : gw ≤ 9223372036854775807) (hh : -9223372036854775808 ≤ gh ∧ gh ≤ 9223372036854775807) (hK : 6 < K ∧ K ≠ 9 ∧ K ≠ 10 ∧ K ≠ 11) (hr : rt ⟨gw, gh, l, x, y, k⟩) (hc : isR (K, a, b, r) = true) (S : Spans W 1) (T : Blk W 0) (F : Forms W 2) (U : Tabs W 3 4) :
    Calls Tryd.prog 7 #[.agg #[.int .i64 gw, .int .i64 gh, .slice A l.length cap, .int .i64 x, .int .i64 y, .bool k], .agg #[.int .i64 K, .int .i64 a, .int .i64 b, .int .i32 r]] W fun e w' => e = .returned (.bool true) ∧ Below W.heap.size W w' := by
  have b1 : (decide (3 ≤ K)) = true := by rw [decide_eq_true_iff]; omega
  have b2 : (decide (K ≤ 6)) = false := by rw [decide_eq_false_iff_not]; omega
  have b3 : (K == 9) = false := by rw [beq_eq_false_iff_ne]; omega
  have b4 : (K == 11) = false := by rw [beq_eq_false_iff_ne]; omega
  have b5 : (K == 10) = false := by rw [beq_eq_false_iff_ne]; omega
  have HK := Lib.hid hK
  have V := Lib.hid ((Lv.start W).row hv)
  replace V := Lib.hid (V.out.box (Nat.le_refl _) #[.int .i64 gw, .int .i64 gh, .slice A l.length cap, .int .i64 x, .int .i64 y, .bool k] 26)
  replace V := Lib.hid (V.out.box (Nat.le_refl _) #[.int .i64 K, .int .i64 a, .int .i64 b, .int .i32 r] 37)
  clear hv
  have HR := Lib.hid hr
  have HC := Lib.hid hc
  have hl1 := right_len hr.1
  have hs := hr.1.1
  have hy0 := hr.2.2.2.1
  have hy1 := hr.2.2.2.2.1
  simp only at hl1 hs hy0 hy1
  obtain ⟨⟨uw, uh, ul, ux, uy, uk⟩, hu⟩ : ∃ u : Trm, doT ⟨gw, gh, l, x, y, k⟩ (K, a, b, r) = u := ⟨_, rfl⟩
  have HU := Lib.hid hu
  clear hu hr hc
  clear hK
  go_enter Tryd.func7, Tryd.ntmps7
  go_wp2_with fail
  refine (tdo_any gw gh x y K a b r k l A cap _ (V.out.rws 0 _ rfl) hm hg (S.below V.out.below) (T.below V.out.below) (F.below V.out.below)).mono ?_
  rintro e w3 ⟨ho, hb3⟩
  replace V := Lib.hid (V.out.call hb3 (Nat.le_refl _))
  rw [HU.out] at ho
  obtain ⟨A3, cap3, rfl, hk⟩ := ho.is (by rw [HC.out, decide_eq_true HR.out]; rfl) (V.out.rws 0 _ rfl)
  dsimp only at hk
  replace V := Lib.hid (V.out.row (hk.rc (V.out.rws 0 _ rfl)))
  clear ho hb3 hk
  replace V := Lib.hid (V.out.box (Nat.le_refl _) #[.int .i64 uw, .int .i64 uh, .slice A3 ul.length cap3, .int .i64 ux, .int .i64 uy, .bool uk] 26)
  have gp := V.out.bks 2 _ rfl
  dsimp only at gp
  obtain ⟨⟨pa, pb, pc, pd, pe, pf⟩, -, pz⟩ := blk6 gp
  clear gp
  have gq := V.out.bks 1 _ rfl
  dsimp only at gq
  rw [one_size] at gq
  have q0 := cell_of_row _ _ 0 _ _ (0, 0) gq
  have q1 := cell_of_row _ _ 1 _ _ (0, 0) gq
  have q2 := cell_of_row _ _ 2 _ _ (0, 0) gq
  have q3 := cell_of_row _ _ 3 _ _ (0, 0) gq
  have qz := lt_of_block gq
  clear gq
  go_wp2_with fail
  clear pa pb pc pd pe pf pz
  clear q0 q1 q2 q3 qz
  refine (tbig_any gw gh x y k A l.length cap hm _).mono ?_
  rintro e w4 ⟨rfl, hb4⟩
  rw [decide_eq_false (by omega)]
  replace V := Lib.hid (V.out.call hb4 (Nat.le_refl _))
  clear hb4
  go_wp2_with fail
  refine (fed_any _ (S.below V.out.below) (T.below V.out.below) (F.below V.out.below) (U.below V.out.below)).mono ?_
  rintro e w5 ⟨rfl, hb5⟩
  replace V := Lib.hid (V.out.call hb5 (Nat.le_refl _))
  clear hb5
  go_wp2
  go_ret
  exact ⟨rfl, V.out.below⟩
set_option maxRecDepth 100000 in
set_option maxHeartbeats 16000000 in
theorem tmoves_n36 (gw gh x y K a b r : Int) (k : Bool) (l : List (Int × Int)) (A : Option Addr) (cap : Nat) (W : World) (hv : Rc W (.slice A l.length cap) l) (hm : l.length ≤ maxLen) (hg : gw ≤ 9223372036854775807) (hh : -9223372036854775808 ≤ gh ∧ gh ≤ 9223372036854775807) (hK : 3 ≤ K ∧ K ≤ 6) (hno : (isR (K, a, b, r) && decide (rt ⟨gw, gh, l, x, y, k⟩)) = false) (S : Spans W 1) (T : Blk W 0) (F : Forms W 2) (U : Tabs W 3 4) :
    Calls Tryd.prog 7 #[.agg #[.int .i64 gw, .int .i64 gh, .slice A l.length cap, .int .i64 x, .int .i64 y, .bool k], .agg #[.int .i64 K, .int .i64 a, .int .i64 b, .int .i32 r]] W fun e w' => e = .returned (.bool true) ∧ Below W.heap.size W w' := by
  have b1 : (decide (3 ≤ K)) = true := by rw [decide_eq_true_iff]; omega
  have b2 : (decide (K ≤ 6)) = true := by rw [decide_eq_true_iff]; omega
  have HK := Lib.hid hK
  have V := Lib.hid ((Lv.start W).row hv)
  replace V := Lib.hid (V.out.box (Nat.le_refl _) #[.int .i64 gw, .int .i64 gh, .slice A l.length cap, .int .i64 x, .int .i64 y, .bool k] 26)
  replace V := Lib.hid (V.out.box (Nat.le_refl _) #[.int .i64 K, .int .i64 a, .int .i64 b, .int .i32 r] 37)
  clear hv
  have HNO := Lib.hid hno
  clear hno
  clear hK
  go_enter Tryd.func7, Tryd.ntmps7
  go_wp2_with fail
  refine (tdo_any gw gh x y K a b r k l A cap _ (V.out.rws 0 _ rfl) hm hg (S.below V.out.below) (T.below V.out.below) (F.below V.out.below)).mono ?_
  rintro e w3 ⟨ho, hb3⟩
  replace V := Lib.hid (V.out.call hb3 (Nat.le_refl _))
  obtain rfl := ho.isnt HNO.out
  clear ho hb3
  replace V := Lib.hid (V.out.box (Nat.le_refl _) #[.int .i64 0, .int .i64 0, .slice none 0 0, .int .i64 0, .int .i64 0, .bool false] 26)
  have gp := V.out.bks 2 _ rfl
  dsimp only at gp
  obtain ⟨⟨pa, pb, pc, pd, pe, pf⟩, -, pz⟩ := blk6 gp
  clear gp
  have gq := V.out.bks 1 _ rfl
  dsimp only at gq
  rw [one_size] at gq
  have q0 := cell_of_row _ _ 0 _ _ (0, 0) gq
  have q1 := cell_of_row _ _ 1 _ _ (0, 0) gq
  have q2 := cell_of_row _ _ 2 _ _ (0, 0) gq
  have q3 := cell_of_row _ _ 3 _ _ (0, 0) gq
  have qz := lt_of_block gq
  clear gq
  go_wp2_with fail
  clear pa pb pc pd pe pf pz
  clear q0 q1 q2 q3 qz
  by_cases hbig : 3000 < l.length
  · skip
    refine (tbig_any gw gh x y k A l.length cap hm _).mono ?_
    rintro e w4 ⟨rfl, hb4⟩
    rw [decide_eq_true hbig]
    replace V := Lib.hid (V.out.call hb4 (Nat.le_refl _))
    clear hb4
    go_wp2_with fail
    refine (fed_any _ (S.below V.out.below) (T.below V.out.below) (F.below V.out.below) (U.below V.out.below)).mono ?_
    rintro e w5 ⟨rfl, hb5⟩
    replace V := Lib.hid (V.out.call hb5 (Nat.le_refl _))
    clear hb5
    go_wp2
    go_ret
    exact ⟨rfl, V.out.below⟩
  refine (tbig_any gw gh x y k A l.length cap hm _).mono ?_
  rintro e w4 ⟨rfl, hb4⟩
  rw [decide_eq_false hbig]
  replace V := Lib.hid (V.out.call hb4 (Nat.le_refl _))
  clear hb4
  go_wp2_with fail
  refine (fed_any _ (S.below V.out.below) (T.below V.out.below) (F.below V.out.below) (U.below V.out.below)).mono ?_
  rintro e w5 ⟨rfl, hb5⟩
  replace V := Lib.hid (V.out.call hb5 (Nat.le_refl _))
  clear hb5
  go_wp2
  go_ret
  exact ⟨rfl, V.out.below⟩
set_option maxRecDepth 100000 in
set_option maxHeartbeats 16000000 in
theorem tmoves_n9 (gw gh x y K a b r : Int) (k : Bool) (l : List (Int × Int)) (A : Option Addr) (cap : Nat) (W : World) (hv : Rc W (.slice A l.length cap) l) (hm : l.length ≤ maxLen) (hg : gw ≤ 9223372036854775807) (hh : -9223372036854775808 ≤ gh ∧ gh ≤ 9223372036854775807) (hK : K = 9) (hno : (isR (K, a, b, r) && decide (rt ⟨gw, gh, l, x, y, k⟩)) = false) (S : Spans W 1) (T : Blk W 0) (F : Forms W 2) (U : Tabs W 3 4) :
    Calls Tryd.prog 7 #[.agg #[.int .i64 gw, .int .i64 gh, .slice A l.length cap, .int .i64 x, .int .i64 y, .bool k], .agg #[.int .i64 K, .int .i64 a, .int .i64 b, .int .i32 r]] W fun e w' => e = .returned (.bool true) ∧ Below W.heap.size W w' := by
  subst hK
  have V := Lib.hid ((Lv.start W).row hv)
  replace V := Lib.hid (V.out.box (Nat.le_refl _) #[.int .i64 gw, .int .i64 gh, .slice A l.length cap, .int .i64 x, .int .i64 y, .bool k] 26)
  replace V := Lib.hid (V.out.box (Nat.le_refl _) #[.int .i64 9, .int .i64 a, .int .i64 b, .int .i32 r] 37)
  clear hv
  have HNO := Lib.hid hno
  clear hno
  go_enter Tryd.func7, Tryd.ntmps7
  go_wp2_with fail
  refine (tdo_any gw gh x y 9 a b r k l A cap _ (V.out.rws 0 _ rfl) hm hg (S.below V.out.below) (T.below V.out.below) (F.below V.out.below)).mono ?_
  rintro e w3 ⟨ho, hb3⟩
  replace V := Lib.hid (V.out.call hb3 (Nat.le_refl _))
  obtain rfl := ho.isnt HNO.out
  clear ho hb3
  replace V := Lib.hid (V.out.box (Nat.le_refl _) #[.int .i64 0, .int .i64 0, .slice none 0 0, .int .i64 0, .int .i64 0, .bool false] 26)
  have gp := V.out.bks 2 _ rfl
  dsimp only at gp
  obtain ⟨⟨pa, pb, pc, pd, pe, pf⟩, -, pz⟩ := blk6 gp
  clear gp
  have gq := V.out.bks 1 _ rfl
  dsimp only at gq
  rw [one_size] at gq
  have q0 := cell_of_row _ _ 0 _ _ (0, 0) gq
  have q1 := cell_of_row _ _ 1 _ _ (0, 0) gq
  have q2 := cell_of_row _ _ 2 _ _ (0, 0) gq
  have q3 := cell_of_row _ _ 3 _ _ (0, 0) gq
  have qz := lt_of_block gq
  clear gq
  go_wp2_with fail
  clear pa pb pc pd pe pf pz
  clear q0 q1 q2 q3 qz
  by_cases hbig : 3000 < l.length
  · skip
    refine (tbig_any gw gh x y k A l.length cap hm _).mono ?_
    rintro e w4 ⟨rfl, hb4⟩
    rw [decide_eq_true hbig]
    replace V := Lib.hid (V.out.call hb4 (Nat.le_refl _))
    clear hb4
    go_wp2_with fail
    refine (fed_any _ (S.below V.out.below) (T.below V.out.below) (F.below V.out.below) (U.below V.out.below)).mono ?_
    rintro e w5 ⟨rfl, hb5⟩
    replace V := Lib.hid (V.out.call hb5 (Nat.le_refl _))
    clear hb5
    go_wp2
    go_ret
    exact ⟨rfl, V.out.below⟩
  refine (tbig_any gw gh x y k A l.length cap hm _).mono ?_
  rintro e w4 ⟨rfl, hb4⟩
  rw [decide_eq_false hbig]
  replace V := Lib.hid (V.out.call hb4 (Nat.le_refl _))
  clear hb4
  go_wp2_with fail
  refine (fed_any _ (S.below V.out.below) (T.below V.out.below) (F.below V.out.below) (U.below V.out.below)).mono ?_
  rintro e w5 ⟨rfl, hb5⟩
  replace V := Lib.hid (V.out.call hb5 (Nat.le_refl _))
  clear hb5
  go_wp2
  go_ret
  exact ⟨rfl, V.out.below⟩
set_option maxRecDepth 100000 in
set_option maxHeartbeats 16000000 in
theorem tmoves_n11 (gw gh x y K a b r : Int) (k : Bool) (l : List (Int × Int)) (A : Option Addr) (cap : Nat) (W : World) (hv : Rc W (.slice A l.length cap) l) (hm : l.length ≤ maxLen) (hg : gw ≤ 9223372036854775807) (hh : -9223372036854775808 ≤ gh ∧ gh ≤ 9223372036854775807) (hK : K = 11) (hno : (isR (K, a, b, r) && decide (rt ⟨gw, gh, l, x, y, k⟩)) = false) (S : Spans W 1) (T : Blk W 0) (F : Forms W 2) (U : Tabs W 3 4) :
    Calls Tryd.prog 7 #[.agg #[.int .i64 gw, .int .i64 gh, .slice A l.length cap, .int .i64 x, .int .i64 y, .bool k], .agg #[.int .i64 K, .int .i64 a, .int .i64 b, .int .i32 r]] W fun e w' => e = .returned (.bool true) ∧ Below W.heap.size W w' := by
  subst hK
  have V := Lib.hid ((Lv.start W).row hv)
  replace V := Lib.hid (V.out.box (Nat.le_refl _) #[.int .i64 gw, .int .i64 gh, .slice A l.length cap, .int .i64 x, .int .i64 y, .bool k] 26)
  replace V := Lib.hid (V.out.box (Nat.le_refl _) #[.int .i64 11, .int .i64 a, .int .i64 b, .int .i32 r] 37)
  clear hv
  have HNO := Lib.hid hno
  clear hno
  go_enter Tryd.func7, Tryd.ntmps7
  go_wp2_with fail
  refine (tdo_any gw gh x y 11 a b r k l A cap _ (V.out.rws 0 _ rfl) hm hg (S.below V.out.below) (T.below V.out.below) (F.below V.out.below)).mono ?_
  rintro e w3 ⟨ho, hb3⟩
  replace V := Lib.hid (V.out.call hb3 (Nat.le_refl _))
  obtain rfl := ho.isnt HNO.out
  clear ho hb3
  replace V := Lib.hid (V.out.box (Nat.le_refl _) #[.int .i64 0, .int .i64 0, .slice none 0 0, .int .i64 0, .int .i64 0, .bool false] 26)
  have gp := V.out.bks 2 _ rfl
  dsimp only at gp
  obtain ⟨⟨pa, pb, pc, pd, pe, pf⟩, -, pz⟩ := blk6 gp
  clear gp
  have gq := V.out.bks 1 _ rfl
  dsimp only at gq
  rw [one_size] at gq
  have q0 := cell_of_row _ _ 0 _ _ (0, 0) gq
  have q1 := cell_of_row _ _ 1 _ _ (0, 0) gq
  have q2 := cell_of_row _ _ 2 _ _ (0, 0) gq
  have q3 := cell_of_row _ _ 3 _ _ (0, 0) gq
  have qz := lt_of_block gq
  clear gq
  go_wp2_with fail
  clear pa pb pc pd pe pf pz
  clear q0 q1 q2 q3 qz
  by_cases hbig : 3000 < l.length
  · skip
    refine (tbig_any gw gh x y k A l.length cap hm _).mono ?_
    rintro e w4 ⟨rfl, hb4⟩
    rw [decide_eq_true hbig]
    replace V := Lib.hid (V.out.call hb4 (Nat.le_refl _))
    clear hb4
    go_wp2_with fail
    refine (fed_any _ (S.below V.out.below) (T.below V.out.below) (F.below V.out.below) (U.below V.out.below)).mono ?_
    rintro e w5 ⟨rfl, hb5⟩
    replace V := Lib.hid (V.out.call hb5 (Nat.le_refl _))
    clear hb5
    go_wp2
    go_ret
    exact ⟨rfl, V.out.below⟩
  refine (tbig_any gw gh x y k A l.length cap hm _).mono ?_
  rintro e w4 ⟨rfl, hb4⟩
  rw [decide_eq_false hbig]
  replace V := Lib.hid (V.out.call hb4 (Nat.le_refl _))
  clear hb4
  go_wp2_with fail
  refine (fed_any _ (S.below V.out.below) (T.below V.out.below) (F.below V.out.below) (U.below V.out.below)).mono ?_
  rintro e w5 ⟨rfl, hb5⟩
  replace V := Lib.hid (V.out.call hb5 (Nat.le_refl _))
  clear hb5
  go_wp2
  go_ret
  exact ⟨rfl, V.out.below⟩
set_option maxRecDepth 100000 in
set_option maxHeartbeats 16000000 in
theorem tmoves_n10 (gw gh x y K a b r : Int) (k : Bool) (l : List (Int × Int)) (A : Option Addr) (cap : Nat) (W : World) (hv : Rc W (.slice A l.length cap) l) (hm : l.length ≤ maxLen) (hg : gw ≤ 9223372036854775807) (hh : -9223372036854775808 ≤ gh ∧ gh ≤ 9223372036854775807) (hK : K = 10) (hno : (isR (K, a, b, r) && decide (rt ⟨gw, gh, l, x, y, k⟩)) = false) (S : Spans W 1) (T : Blk W 0) (F : Forms W 2) (U : Tabs W 3 4) :
    Calls Tryd.prog 7 #[.agg #[.int .i64 gw, .int .i64 gh, .slice A l.length cap, .int .i64 x, .int .i64 y, .bool k], .agg #[.int .i64 K, .int .i64 a, .int .i64 b, .int .i32 r]] W fun e w' => e = .returned (.bool true) ∧ Below W.heap.size W w' := by
  subst hK
  have V := Lib.hid ((Lv.start W).row hv)
  replace V := Lib.hid (V.out.box (Nat.le_refl _) #[.int .i64 gw, .int .i64 gh, .slice A l.length cap, .int .i64 x, .int .i64 y, .bool k] 26)
  replace V := Lib.hid (V.out.box (Nat.le_refl _) #[.int .i64 10, .int .i64 a, .int .i64 b, .int .i32 r] 37)
  clear hv
  have HNO := Lib.hid hno
  clear hno
  go_enter Tryd.func7, Tryd.ntmps7
  go_wp2_with fail
  refine (tdo_any gw gh x y 10 a b r k l A cap _ (V.out.rws 0 _ rfl) hm hg (S.below V.out.below) (T.below V.out.below) (F.below V.out.below)).mono ?_
  rintro e w3 ⟨ho, hb3⟩
  replace V := Lib.hid (V.out.call hb3 (Nat.le_refl _))
  obtain rfl := ho.isnt HNO.out
  clear ho hb3
  replace V := Lib.hid (V.out.box (Nat.le_refl _) #[.int .i64 0, .int .i64 0, .slice none 0 0, .int .i64 0, .int .i64 0, .bool false] 26)
  have gp := V.out.bks 2 _ rfl
  dsimp only at gp
  obtain ⟨⟨pa, pb, pc, pd, pe, pf⟩, -, pz⟩ := blk6 gp
  clear gp
  have gq := V.out.bks 1 _ rfl
  dsimp only at gq
  rw [one_size] at gq
  have q0 := cell_of_row _ _ 0 _ _ (0, 0) gq
  have q1 := cell_of_row _ _ 1 _ _ (0, 0) gq
  have q2 := cell_of_row _ _ 2 _ _ (0, 0) gq
  have q3 := cell_of_row _ _ 3 _ _ (0, 0) gq
  have qz := lt_of_block gq
  clear gq
  go_wp2_with fail
  clear pa pb pc pd pe pf pz
  clear q0 q1 q2 q3 qz
  by_cases hbig : 3000 < l.length
  · skip
    refine (tbig_any gw gh x y k A l.length cap hm _).mono ?_
    rintro e w4 ⟨rfl, hb4⟩
    rw [decide_eq_true hbig]
    replace V := Lib.hid (V.out.call hb4 (Nat.le_refl _))
    clear hb4
    go_wp2_with fail
    refine (fed_any _ (S.below V.out.below) (T.below V.out.below) (F.below V.out.below) (U.below V.out.below)).mono ?_
    rintro e w5 ⟨rfl, hb5⟩
    replace V := Lib.hid (V.out.call hb5 (Nat.le_refl _))
    clear hb5
    go_wp2
    go_ret
    exact ⟨rfl, V.out.below⟩
  refine (tbig_any gw gh x y k A l.length cap hm _).mono ?_
  rintro e w4 ⟨rfl, hb4⟩
  rw [decide_eq_false hbig]
  replace V := Lib.hid (V.out.call hb4 (Nat.le_refl _))
  clear hb4
  go_wp2_with fail
  refine (fed_any _ (S.below V.out.below) (T.below V.out.below) (F.below V.out.below) (U.below V.out.below)).mono ?_
  rintro e w5 ⟨rfl, hb5⟩
  replace V := Lib.hid (V.out.call hb5 (Nat.le_refl _))
  clear hb5
  go_wp2
  go_ret
  exact ⟨rfl, V.out.below⟩
set_option maxRecDepth 100000 in
set_option maxHeartbeats 16000000 in
theorem tmoves_n2 (gw gh x y K a b r : Int) (k : Bool) (l : List (Int × Int)) (A : Option Addr) (cap : Nat) (W : World) (hv : Rc W (.slice A l.length cap) l) (hm : l.length ≤ maxLen) (hg : gw ≤ 9223372036854775807) (hh : -9223372036854775808 ≤ gh ∧ gh ≤ 9223372036854775807) (hK : K < 3) (hno : (isR (K, a, b, r) && decide (rt ⟨gw, gh, l, x, y, k⟩)) = false) (S : Spans W 1) (T : Blk W 0) (F : Forms W 2) (U : Tabs W 3 4) :
    Calls Tryd.prog 7 #[.agg #[.int .i64 gw, .int .i64 gh, .slice A l.length cap, .int .i64 x, .int .i64 y, .bool k], .agg #[.int .i64 K, .int .i64 a, .int .i64 b, .int .i32 r]] W fun e w' => e = .returned (.bool true) ∧ Below W.heap.size W w' := by
  have b1 : (decide (3 ≤ K)) = false := by rw [decide_eq_false_iff_not]; omega
  have b3 : (K == 9) = false := by rw [beq_eq_false_iff_ne]; omega
  have b4 : (K == 11) = false := by rw [beq_eq_false_iff_ne]; omega
  have b5 : (K == 10) = false := by rw [beq_eq_false_iff_ne]; omega
  have HK := Lib.hid hK
  have V := Lib.hid ((Lv.start W).row hv)
  replace V := Lib.hid (V.out.box (Nat.le_refl _) #[.int .i64 gw, .int .i64 gh, .slice A l.length cap, .int .i64 x, .int .i64 y, .bool k] 26)
  replace V := Lib.hid (V.out.box (Nat.le_refl _) #[.int .i64 K, .int .i64 a, .int .i64 b, .int .i32 r] 37)
  clear hv
  have HNO := Lib.hid hno
  clear hno
  clear hK
  go_enter Tryd.func7, Tryd.ntmps7
  go_wp2_with fail
  refine (tdo_any gw gh x y K a b r k l A cap _ (V.out.rws 0 _ rfl) hm hg (S.below V.out.below) (T.below V.out.below) (F.below V.out.below)).mono ?_
  rintro e w3 ⟨ho, hb3⟩
  replace V := Lib.hid (V.out.call hb3 (Nat.le_refl _))
  obtain rfl := ho.isnt HNO.out
  clear ho hb3
  replace V := Lib.hid (V.out.box (Nat.le_refl _) #[.int .i64 0, .int .i64 0, .slice none 0 0, .int .i64 0, .int .i64 0, .bool false] 26)
  have gp := V.out.bks 2 _ rfl
  dsimp only at gp
  obtain ⟨⟨pa, pb, pc, pd, pe, pf⟩, -, pz⟩ := blk6 gp
  clear gp
  have gq := V.out.bks 1 _ rfl
  dsimp only at gq
  rw [one_size] at gq
  have q0 := cell_of_row _ _ 0 _ _ (0, 0) gq
  have q1 := cell_of_row _ _ 1 _ _ (0, 0) gq
  have q2 := cell_of_row _ _ 2 _ _ (0, 0) gq
  have q3 := cell_of_row _ _ 3 _ _ (0, 0) gq
  have qz := lt_of_block gq
  clear gq
  go_wp2_with fail
  clear pa pb pc pd pe pf pz
  clear q0 q1 q2 q3 qz
  by_cases hbig : 3000 < l.length
  · skip
    refine (tbig_any gw gh x y k A l.length cap hm _).mono ?_
    rintro e w4 ⟨rfl, hb4⟩
    rw [decide_eq_true hbig]
    replace V := Lib.hid (V.out.call hb4 (Nat.le_refl _))
    clear hb4
    go_wp2_with fail
    refine (fed_any _ (S.below V.out.below) (T.below V.out.below) (F.below V.out.below) (U.below V.out.below)).mono ?_
    rintro e w5 ⟨rfl, hb5⟩
    replace V := Lib.hid (V.out.call hb5 (Nat.le_refl _))
    clear hb5
    go_wp2
    go_ret
    exact ⟨rfl, V.out.below⟩
  refine (tbig_any gw gh x y k A l.length cap hm _).mono ?_
  rintro e w4 ⟨rfl, hb4⟩
  rw [decide_eq_false hbig]
  replace V := Lib.hid (V.out.call hb4 (Nat.le_refl _))
  clear hb4
  go_wp2_with fail
  refine (fed_any _ (S.below V.out.below) (T.below V.out.below) (F.below V.out.below) (U.below V.out.below)).mono ?_
  rintro e w5 ⟨rfl, hb5⟩
  replace V := Lib.hid (V.out.call hb5 (Nat.le_refl _))
  clear hb5
  go_wp2
  go_ret
  exact ⟨rfl, V.out.below⟩
set_option maxRecDepth 100000 in
set_option maxHeartbeats 16000000 in
theorem tmoves_n7 (gw gh x y K a b r : Int) (k : Bool) (l : List (Int × Int)) (A : Option Addr) (cap : Nat) (W : World) (hv : Rc W (.slice A l.length cap) l) (hm : l.length ≤ maxLen) (hg : gw ≤ 9223372036854775807) (hh : -9223372036854775808 ≤ gh ∧ gh ≤ 9223372036854775807) (hK : 6 < K ∧ K ≠ 9 ∧ K ≠ 10 ∧ K ≠ 11) (hno : (isR (K, a, b, r) && decide (rt ⟨gw, gh, l, x, y, k⟩)) = false) (S : Spans W 1) (T : Blk W 0) (F : Forms W 2) (U : Tabs W 3 4) :
    Calls Tryd.prog 7 #[.agg #[.int .i64 gw, .int .i64 gh, .slice A l.length cap, .int .i64 x, .int .i64 y, .bool k], .agg #[.int .i64 K, .int .i64 a, .int .i64 b, .int .i32 r]] W fun e w' => e = .returned (.bool true) ∧ Below W.heap.size W w' := by
  have b1 : (decide (3 ≤ K)) = true := by rw [decide_eq_true_iff]; omega
  have b2 : (decide (K ≤ 6)) = false := by rw [decide_eq_false_iff_not]; omega
  have b3 : (K == 9) = false := by rw [beq_eq_false_iff_ne]; omega
  have b4 : (K == 11) = false := by rw [beq_eq_false_iff_ne]; omega
  have b5 : (K == 10) = false := by rw [beq_eq_false_iff_ne]; omega
  have HK := Lib.hid hK
  have V := Lib.hid ((Lv.start W).row hv)
  replace V := Lib.hid (V.out.box (Nat.le_refl _) #[.int .i64 gw, .int .i64 gh, .slice A l.length cap, .int .i64 x, .int .i64 y, .bool k] 26)
  replace V := Lib.hid (V.out.box (Nat.le_refl _) #[.int .i64 K, .int .i64 a, .int .i64 b, .int .i32 r] 37)
  clear hv
  have HNO := Lib.hid hno
  clear hno
  clear hK
  go_enter Tryd.func7, Tryd.ntmps7
  go_wp2_with fail
  refine (tdo_any gw gh x y K a b r k l A cap _ (V.out.rws 0 _ rfl) hm hg (S.below V.out.below) (T.below V.out.below) (F.below V.out.below)).mono ?_
  rintro e w3 ⟨ho, hb3⟩
  replace V := Lib.hid (V.out.call hb3 (Nat.le_refl _))
  obtain rfl := ho.isnt HNO.out
  clear ho hb3
  replace V := Lib.hid (V.out.box (Nat.le_refl _) #[.int .i64 0, .int .i64 0, .slice none 0 0, .int .i64 0, .int .i64 0, .bool false] 26)
  have gp := V.out.bks 2 _ rfl
  dsimp only at gp
  obtain ⟨⟨pa, pb, pc, pd, pe, pf⟩, -, pz⟩ := blk6 gp
  clear gp
  have gq := V.out.bks 1 _ rfl
  dsimp only at gq
  rw [one_size] at gq
  have q0 := cell_of_row _ _ 0 _ _ (0, 0) gq
  have q1 := cell_of_row _ _ 1 _ _ (0, 0) gq
  have q2 := cell_of_row _ _ 2 _ _ (0, 0) gq
  have q3 := cell_of_row _ _ 3 _ _ (0, 0) gq
  have qz := lt_of_block gq
  clear gq
  go_wp2_with fail
  clear pa pb pc pd pe pf pz
  clear q0 q1 q2 q3 qz
  by_cases hbig : 3000 < l.length
  · skip
    refine (tbig_any gw gh x y k A l.length cap hm _).mono ?_
    rintro e w4 ⟨rfl, hb4⟩
    rw [decide_eq_true hbig]
    replace V := Lib.hid (V.out.call hb4 (Nat.le_refl _))
    clear hb4
    go_wp2_with fail
    refine (fed_any _ (S.below V.out.below) (T.below V.out.below) (F.below V.out.below) (U.below V.out.below)).mono ?_
    rintro e w5 ⟨rfl, hb5⟩
    replace V := Lib.hid (V.out.call hb5 (Nat.le_refl _))
    clear hb5
    go_wp2
    go_ret
    exact ⟨rfl, V.out.below⟩
  refine (tbig_any gw gh x y k A l.length cap hm _).mono ?_
  rintro e w4 ⟨rfl, hb4⟩
  rw [decide_eq_false hbig]
  replace V := Lib.hid (V.out.call hb4 (Nat.le_refl _))
  clear hb4
  go_wp2_with fail
  refine (fed_any _ (S.below V.out.below) (T.below V.out.below) (F.below V.out.below) (U.below V.out.below)).mono ?_
  rintro e w5 ⟨rfl, hb5⟩
  replace V := Lib.hid (V.out.call hb5 (Nat.le_refl _))
  clear hb5
  go_wp2
  go_ret
  exact ⟨rfl, V.out.below⟩
theorem tmoves_law (gw gh x y K a b r : Int) (k : Bool) (l : List (Int × Int)) (A : Option Addr) (cap : Nat) (W : World) (hv : Rc W (.slice A l.length cap) l) (hm : l.length ≤ maxLen) (hg : gw ≤ 9223372036854775807) (hh : -9223372036854775808 ≤ gh ∧ gh ≤ 9223372036854775807) (S : Spans W 1) (T : Blk W 0) (F : Forms W 2) (U : Tabs W 3 4) :
    Calls Tryd.prog 7 #[.agg #[.int .i64 gw, .int .i64 gh, .slice A l.length cap, .int .i64 x, .int .i64 y, .bool k], .agg #[.int .i64 K, .int .i64 a, .int .i64 b, .int .i32 r]] W fun e w' => e = .returned (.bool true) ∧ Below W.heap.size W w' := by
  cases hno : (isR (K, a, b, r) && decide (rt ⟨gw, gh, l, x, y, k⟩))
  · rcases (show 3 ≤ K ∧ K ≤ 6 ∨ K = 9 ∨ K = 11 ∨ K = 10 ∨ K < 3 ∨ 6 < K ∧ K ≠ 9 ∧ K ≠ 10 ∧ K ≠ 11 by omega) with h | h | h | h | h | h
    · exact tmoves_n36 gw gh x y K a b r k l A cap W hv hm hg hh h hno S T F U
    · exact tmoves_n9 gw gh x y K a b r k l A cap W hv hm hg hh h hno S T F U
    · exact tmoves_n11 gw gh x y K a b r k l A cap W hv hm hg hh h hno S T F U
    · exact tmoves_n10 gw gh x y K a b r k l A cap W hv hm hg hh h hno S T F U
    · exact tmoves_n2 gw gh x y K a b r k l A cap W hv hm hg hh h hno S T F U
    · exact tmoves_n7 gw gh x y K a b r k l A cap W hv hm hg hh h hno S T F U
  · rw [Bool.and_eq_true, decide_eq_true_iff] at hno
    obtain ⟨hc, hr⟩ := hno
    rcases (show 3 ≤ K ∧ K ≤ 6 ∨ K = 9 ∨ K = 11 ∨ K = 10 ∨ K < 3 ∨ 6 < K ∧ K ≠ 9 ∧ K ≠ 10 ∧ K ≠ 11 by omega) with h | h | h | h | h | h
    · exact tmoves_m36 gw gh x y K a b r k l A cap W hv hm hg hh h hr hc S T F U
    · exact tmoves_m9 gw gh x y K a b r k l A cap W hv hm hg hh h hr hc S T F U
    · exact tmoves_m11 gw gh x y K a b r k l A cap W hv hm hg hh h hr hc S T F U
    · by_cases hy : y < gh - 1
      · exact tmoves_m10 gw gh x y K a b r k l A cap W hv hm hg hh h hy hr hc S T F U
      · exact tmoves_s10 gw gh x y K a b r k l A cap W hv hm hg hh h hy hr hc S T F U
    · exact tmoves_s2 gw gh x y K a b r k l A cap W hv hm hg hh h hr hc S T F U
    · exact tmoves_s7 gw gh x y K a b r k l A cap W hv hm hg hh h hr hc S T F U
end Go.Proofs.YtcakklafjfobeaaDoor
