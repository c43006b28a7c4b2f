/- The walk of TermSizes: it returns true, and turns nothing that was there. -/
import Derived.Test.YtkkioajmfkcloaaDoorTmO
set_option linter.unusedVariables false
namespace Go.Proofs.YtkkioajmfkcloaaDoor
open Go.RowKit Gl L Wd Gd Tm Vt
set_option maxRecDepth 100000 in
set_option maxHeartbeats 16000000 in
theorem tsizes_law (gw gh x y fw fh : Int) (k : Bool) (l : List (Int × Int)) (A : Option Addr) (cap : Nat) (W : World) (hv : Rc W (.slice A l.length cap) l) (hm : l.length ≤ maxLen) (hg : gw ≤ 9223372036854775807) (S : Spans W 2) (T : Blk W 0) (F : Forms W 1) (U : Tabs W 3 4) :
    Calls Tryd.prog 3 #[.agg #[.int .i64 gw, .int .i64 gh, .slice A l.length cap, .int .i64 x, .int .i64 y, .bool k], .int .i64 fw, .int .i64 fh] W fun e w' => e = .returned (.bool true) ∧ Below W.heap.size W w' := by
  have V := Lib.hid ((Lv.start W).row hv)
  replace V := Lib.hid (V.out.box (Nat.le_refl _) #[.int .i64 gw, .int .i64 gh, .slice A l.length cap, .int .i64 x, .int .i64 y, .bool k] 26)
  clear hv
  by_cases hbig : 3000 < l.length
  · skip
    go_enter Tryd.func3, Tryd.ntmps3
    go_wp2_with fail
    refine (tbig_any gw gh x y k A l.length cap hm _).mono ?_
    rintro e w1 ⟨rfl, hb1⟩
    rw [decide_eq_true hbig]
    replace V := Lib.hid (V.out.call hb1 (Nat.le_refl _))
    clear hb1
    go_wp2
    go_ret
    exact ⟨rfl, V.out.below⟩
  cases hc : (decide (rt ⟨gw, gh, l, x, y, k⟩) && sidesB fw fh)
  · skip
    have HC := Lib.hid hc
    generalize hee : szE ⟨gw, gh, l, x, y, k⟩ = er at *
    have HEE := Lib.hid hee
    clear hee
    clear hc
    go_enter Tryd.func3, Tryd.ntmps3
    go_wp2_with fail
    refine (tbig_any gw gh x y k A l.length cap hm _).mono ?_
    rintro e w1 ⟨rfl, hb1⟩
    rw [decide_eq_false hbig]
    replace V := Lib.hid (V.out.call hb1 (Nat.le_refl _))
    clear hb1
    have gp := V.out.bks 0 _ rfl
    dsimp only at gp
    obtain ⟨⟨pa, pb, pc, pd, pe, pf⟩, -, pz⟩ := blk6 gp
    clear gp
    go_wp2_with fail
    clear pa pb pc pd pe pf pz
    refine (tsize_any gw gh x y fw fh k l A cap _ (V.out.rws 0 _ rfl) hm hg (S.below V.out.below) (T.below V.out.below)).mono ?_
    rintro e w2 ⟨ho, hb2⟩
    replace V := Lib.hid (V.out.call hb2 (Nat.le_refl _))
    obtain rfl := ho.isnt HC.out
    rw [HEE.out]
    clear ho hb2
    replace V := Lib.hid (V.out.box (Nat.le_refl _) #[.int .i64 0, .int .i64 0, .slice none 0 0, .int .i64 0, .int .i64 0, .bool false] 26)
    have gp := V.out.bks 1 _ rfl
    dsimp only at gp
    obtain ⟨⟨pa, pb, pc, pd, pe, pf⟩, -, pz⟩ := blk6 gp
    clear gp
    go_wp2_with fail
    clear pa pb pc pd pe pf pz
    refine (rtsize_any gw gh x y fw fh k l A cap _ (V.out.rws 0 _ rfl) hm).mono ?_
    rintro e w3 ⟨ho, hb3⟩
    replace V := Lib.hid (V.out.call hb3 (Nat.le_refl _))
    obtain rfl := ho.isnt HC.out
    rw [HEE.out]
    clear ho hb3
    replace V := Lib.hid (V.out.box (Nat.le_refl _) #[.int .i64 0, .int .i64 0, .slice none 0 0, .int .i64 0, .int .i64 0, .bool false] 26)
    go_wp2_with fail
    refine (fed_any _ (S.below V.out.below) (T.below V.out.below) (F.below V.out.below) (U.below V.out.below)).mono ?_
    rintro e w4 ⟨rfl, hb4⟩
    replace V := Lib.hid (V.out.call hb4 (Nat.le_refl _))
    clear hb4
    have gp := V.out.bks 1 _ rfl
    dsimp only at gp
    obtain ⟨⟨pa, pb, pc, pd, pe, pf⟩, -, pz⟩ := blk6 gp
    clear gp
    have gq := V.out.bks 0 _ rfl
    dsimp only at gq
    obtain ⟨⟨qa, qb, qc, qd, qe, qf⟩, -, qz⟩ := blk6 gq
    clear gq
    go_wp2_with fail
    clear pa pb pc pd pe pf pz
    clear qa qb qc qd qe qf qz
    refine (tsame_any 0 0 0 0 false [] none none 0 0 _ (rc_nil _) (rc_nil _) (by decide)).mono ?_
    rintro e w6 ⟨rfl, hb6⟩
    replace V := Lib.hid (V.out.call hb6 (Nat.le_refl _))
    go_wp2
    go_ret
    exact ⟨by simp, V.out.below⟩
  · skip
    have HC := Lib.hid hc
    obtain ⟨⟨uw, uh, ul, ux, uy, uk⟩, hu⟩ : ∃ u : Trm, szT ⟨gw, gh, l, x, y, k⟩ fw fh = u := ⟨_, rfl⟩
    have HU := Lib.hid hu
    have hru := sz_rt (of_decide_eq_true (Bool.and_eq_true_iff.1 hc).1) (Bool.and_eq_true_iff.1 hc).2
    rw [hu] at hru
    have hul := right_len hru.1
    simp only at hul
    have HUL := Lib.hid (show ul.length ≤ 1000000000 by omega)
    clear hu hru hul
    clear hc
    go_enter Tryd.func3, Tryd.ntmps3
    go_wp2_with fail
    refine (tbig_any gw gh x y k A l.length cap hm _).mono ?_
    rintro e w1 ⟨rfl, hb1⟩
    rw [decide_eq_false hbig]
    replace V := Lib.hid (V.out.call hb1 (Nat.le_refl _))
    clear hb1
    have gp := V.out.bks 0 _ rfl
    dsimp only at gp
    obtain ⟨⟨pa, pb, pc, pd, pe, pf⟩, -, pz⟩ := blk6 gp
    clear gp
    go_wp2_with fail
    clear pa pb pc pd pe pf pz
    refine (tsize_any gw gh x y fw fh k l A cap _ (V.out.rws 0 _ rfl) hm hg (S.below V.out.below) (T.below V.out.below)).mono ?_
    rintro e w2 ⟨ho, hb2⟩
    replace V := Lib.hid (V.out.call hb2 (Nat.le_refl _))
    rw [HU.out] at ho
    obtain ⟨A2, cap2, rfl, hk⟩ := ho.is HC.out (rc_nil _)
    dsimp only at hk
    replace V := Lib.hid (V.out.row (hk.rc (rc_nil _)))
    clear ho hb2 hk
    replace V := Lib.hid (V.out.box (Nat.le_refl _) #[.int .i64 uw, .int .i64 uh, .slice A2 ul.length cap2, .int .i64 ux, .int .i64 uy, .bool uk] 26)
    have gp := V.out.bks 1 _ rfl
    dsimp only at gp
    obtain ⟨⟨pa, pb, pc, pd, pe, pf⟩, -, pz⟩ := blk6 gp
    clear gp
    go_wp2_with fail
    clear pa pb pc pd pe pf pz
    refine (rtsize_any gw gh x y fw fh k l A cap _ (V.out.rws 1 _ rfl) hm).mono ?_
    rintro e w3 ⟨ho, hb3⟩
    replace V := Lib.hid (V.out.call hb3 (Nat.le_refl _))
    rw [HU.out] at ho
    obtain ⟨A3, cap3, rfl, hk⟩ := ho.is HC.out (rc_nil _)
    dsimp only at hk
    replace V := Lib.hid (V.out.row (hk.rc (rc_nil _)))
    clear ho hb3 hk
    replace V := Lib.hid (V.out.box (Nat.le_refl _) #[.int .i64 uw, .int .i64 uh, .slice A3 ul.length cap3, .int .i64 ux, .int .i64 uy, .bool uk] 26)
    go_wp2_with fail
    refine (fed_any _ (S.below V.out.below) (T.below V.out.below) (F.below V.out.below) (U.below V.out.below)).mono ?_
    rintro e w4 ⟨rfl, hb4⟩
    replace V := Lib.hid (V.out.call hb4 (Nat.le_refl _))
    clear hb4
    have gp := V.out.bks 1 _ rfl
    dsimp only at gp
    obtain ⟨⟨pa, pb, pc, pd, pe, pf⟩, -, pz⟩ := blk6 gp
    clear gp
    have gq := V.out.bks 0 _ rfl
    dsimp only at gq
    obtain ⟨⟨qa, qb, qc, qd, qe, qf⟩, -, qz⟩ := blk6 gq
    clear gq
    go_wp2_with fail
    clear pa pb pc pd pe pf pz
    clear qa qb qc qd qe qf qz
    refine (tsame_any uw uh ux uy uk ul A2 A3 cap2 cap3 _ (V.out.rws 1 _ rfl) (V.out.rws 0 _ rfl) HUL.out).mono ?_
    rintro e w6 ⟨rfl, hb6⟩
    replace V := Lib.hid (V.out.call hb6 (Nat.le_refl _))
    go_wp2
    go_ret
    exact ⟨by simp, V.out.below⟩
end Go.Proofs.YtkkioajmfkcloaaDoor
