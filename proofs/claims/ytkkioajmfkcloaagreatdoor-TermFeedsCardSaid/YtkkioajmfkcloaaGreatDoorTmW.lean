/- The walk of TermFeeds: it returns true, and turns nothing that was there. -/
import Derived.Test.YtkkioajmfkcloaaGreatDoorTmI
import Derived.Test.YtkkioajmfkcloaaGreatDoorTmU
import Derived.Test.YtkkioajmfkcloaaGreatDoorTmFo
set_option linter.unusedVariables false
namespace Go.Proofs.YtkkioajmfkcloaaGreatDoor
open Go.RowKit Gl L Wd Gd Tm Vt
set_option maxRecDepth 100000 in
set_option maxHeartbeats 16000000 in
theorem tfeeds_law (gw gh x y : Int) (k : Bool) (l : List (Int × Int)) (a : ByteArray) (A : Option Addr) (cap : Nat) (W : World) (hv : Rc W (.slice A l.length cap) l) (hm : l.length ≤ maxLen) (hg : gw ≤ 9223372036854775807) (ha : a.size ≤ 140737488351232) (S : Spans W 2) (T : Blk W 0) (F : Forms W 1) (U : Tabs W 3 4) :
    Calls Tryz.prog 4 #[.agg #[.int .i64 gw, .int .i64 gh, .slice A l.length cap, .int .i64 x, .int .i64 y, .bool k], .string a] W fun e w' => e = .returned (.bool true) ∧ Below W.heap.size W w' := by
  have V := Lib.hid ((Lv.start W).row hv)
  replace V := Lib.hid (V.out.box (Nat.le_refl _) #[.int .i64 gw, .int .i64 gh, .slice A l.length cap, .int .i64 x, .int .i64 y, .bool k] 26)
  clear hv
  by_cases hbig : 3000 < l.length
  · skip
    go_enter Tryz.func4, Tryz.ntmps4
    go_wp2_with fail
    refine (tbig_any gw gh x y k A l.length cap hm _).mono ?_
    rintro e w1 ⟨rfl, hb1⟩
    rw [decide_eq_true hbig]
    replace V := Lib.hid (V.out.call hb1 (Nat.le_refl _))
    clear hb1
    go_wp2
    go_ret
    exact ⟨rfl, V.out.below⟩
  by_cases ha3 : 300 < a.size
  · skip
    have d2 : decide ((300 : Int) < (a.size : Int)) = true := by rw [decide_eq_true_iff]; omega
    go_enter Tryz.func4, Tryz.ntmps4
    go_wp2_with fail
    refine (tbig_any gw gh x y k A l.length cap hm _).mono ?_
    rintro e w1 ⟨rfl, hb1⟩
    rw [decide_eq_false hbig]
    replace V := Lib.hid (V.out.call hb1 (Nat.le_refl _))
    clear hb1
    go_wp2
    go_ret
    exact ⟨rfl, V.out.below⟩
  have d1 : decide ((300 : Int) < (a.size : Int)) = false := by rw [decide_eq_false_iff_not]; omega
  by_cases hr : ¬ rt ⟨gw, gh, l, x, y, k⟩
  · skip
    have HR := Lib.hid hr
    clear hr
    go_enter Tryz.func4, Tryz.ntmps4
    go_wp2_with fail
    refine (tbig_any gw gh x y k A l.length cap hm _).mono ?_
    rintro e w1 ⟨rfl, hb1⟩
    rw [decide_eq_false hbig]
    replace V := Lib.hid (V.out.call hb1 (Nat.le_refl _))
    clear hb1
    have gp := V.out.bks 0 _ rfl
    dsimp only at gp
    obtain ⟨⟨pa, pb, pc, pd, pe, pf⟩, -, pz⟩ := blk6 gp
    clear gp
    go_wp2_with fail
    clear pa pb pc pd pe pf pz
    refine (tfeed_any gw gh x y k l a A cap _ (V.out.rws 0 _ rfl) hm hg (by omega) (S.below V.out.below) (T.below V.out.below) (U.below V.out.below)).mono ?_
    rintro e w2 ⟨ho, hb2⟩
    replace V := Lib.hid (V.out.call hb2 (Nat.le_refl _))
    obtain rfl := ho.bad1 HR.out
    clear ho hb2
    replace V := Lib.hid (V.out.box (Nat.le_refl _) #[.int .i64 0, .int .i64 0, .slice none 0 0, .int .i64 0, .int .i64 0, .bool false] 26)
    have gp := V.out.bks 1 _ rfl
    dsimp only at gp
    obtain ⟨⟨pa, pb, pc, pd, pe, pf⟩, -, pz⟩ := blk6 gp
    clear gp
    go_wp2_with fail
    clear pa pb pc pd pe pf pz
    refine (rfeed_any gw gh x y k l a A cap _ (V.out.rws 0 _ rfl) hm (by omega)).mono ?_
    rintro e w3 ⟨ho, hb3⟩
    replace V := Lib.hid (V.out.call hb3 (Nat.le_refl _))
    obtain rfl := ho.bad1 HR.out
    clear ho hb3
    replace V := Lib.hid (V.out.box (Nat.le_refl _) #[.int .i64 0, .int .i64 0, .slice none 0 0, .int .i64 0, .int .i64 0, .bool false] 26)
    go_wp2_with fail
    refine (fed_any _ (S.below V.out.below) (T.below V.out.below) (F.below V.out.below) (U.below V.out.below)).mono ?_
    rintro e w4 ⟨rfl, hb4⟩
    replace V := Lib.hid (V.out.call hb4 (Nat.le_refl _))
    clear hb4
    have gp := V.out.bks 1 _ rfl
    dsimp only at gp
    obtain ⟨⟨pa, pb, pc, pd, pe, pf⟩, -, pz⟩ := blk6 gp
    clear gp
    have gq := V.out.bks 0 _ rfl
    dsimp only at gq
    obtain ⟨⟨qa, qb, qc, qd, qe, qf⟩, -, qz⟩ := blk6 gq
    clear gq
    go_wp2_with fail
    clear pa pb pc pd pe pf pz
    clear qa qb qc qd qe qf qz
    refine (tsame_any 0 0 0 0 false [] none none 0 0 _ (rc_nil _) (rc_nil _) (by decide)).mono ?_
    rintro e w6 ⟨rfl, hb6⟩
    replace V := Lib.hid (V.out.call hb6 (Nat.le_refl _))
    go_wp2
    go_ret
    exact ⟨by simp, V.out.below⟩
  have HR := Lib.hid (Classical.not_not.1 hr)
  clear hr
  rcases all_some a.size a (Nat.le_refl _) with ⟨m, r, hA⟩ | hA
  case inr =>
    have HA := Lib.hid hA
    clear hA
    go_enter Tryz.func4, Tryz.ntmps4
    go_wp2_with fail
    refine (tbig_any gw gh x y k A l.length cap hm _).mono ?_
    rintro e w1 ⟨rfl, hb1⟩
    rw [decide_eq_false hbig]
    replace V := Lib.hid (V.out.call hb1 (Nat.le_refl _))
    clear hb1
    have gp := V.out.bks 0 _ rfl
    dsimp only at gp
    obtain ⟨⟨pa, pb, pc, pd, pe, pf⟩, -, pz⟩ := blk6 gp
    clear gp
    go_wp2_with fail
    clear pa pb pc pd pe pf pz
    refine (tfeed_any gw gh x y k l a A cap _ (V.out.rws 0 _ rfl) hm hg (by omega) (S.below V.out.below) (T.below V.out.below) (U.below V.out.below)).mono ?_
    rintro e w2 ⟨ho, hb2⟩
    replace V := Lib.hid (V.out.call hb2 (Nat.le_refl _))
    obtain rfl := ho.bad2 HR.out HA.out
    clear ho hb2
    replace V := Lib.hid (V.out.box (Nat.le_refl _) #[.int .i64 0, .int .i64 0, .slice none 0 0, .int .i64 0, .int .i64 0, .bool false] 26)
    have gp := V.out.bks 1 _ rfl
    dsimp only at gp
    obtain ⟨⟨pa, pb, pc, pd, pe, pf⟩, -, pz⟩ := blk6 gp
    clear gp
    go_wp2_with fail
    clear pa pb pc pd pe pf pz
    refine (rfeed_any gw gh x y k l a A cap _ (V.out.rws 0 _ rfl) hm (by omega)).mono ?_
    rintro e w3 ⟨ho, hb3⟩
    replace V := Lib.hid (V.out.call hb3 (Nat.le_refl _))
    obtain rfl := ho.bad2 HR.out HA.out
    clear ho hb3
    replace V := Lib.hid (V.out.box (Nat.le_refl _) #[.int .i64 0, .int .i64 0, .slice none 0 0, .int .i64 0, .int .i64 0, .bool false] 26)
    go_wp2_with fail
    refine (fed_any _ (S.below V.out.below) (T.below V.out.below) (F.below V.out.below) (U.below V.out.below)).mono ?_
    rintro e w4 ⟨rfl, hb4⟩
    replace V := Lib.hid (V.out.call hb4 (Nat.le_refl _))
    clear hb4
    have gp := V.out.bks 1 _ rfl
    dsimp only at gp
    obtain ⟨⟨pa, pb, pc, pd, pe, pf⟩, -, pz⟩ := blk6 gp
    clear gp
    have gq := V.out.bks 0 _ rfl
    dsimp only at gq
    obtain ⟨⟨qa, qb, qc, qd, qe, qf⟩, -, qz⟩ := blk6 gq
    clear gq
    go_wp2_with fail
    clear pa pb pc pd pe pf pz
    clear qa qb qc qd qe qf qz
    refine (tsame_any 0 0 0 0 false [] none none 0 0 _ (rc_nil _) (rc_nil _) (by decide)).mono ?_
    rintro e w6 ⟨rfl, hb6⟩
    replace V := Lib.hid (V.out.call hb6 (Nat.le_refl _))
    go_wp2
    go_ret
    exact ⟨by simp, V.out.below⟩
  obtain ⟨⟨uw, uh, ul, ux, uy, uk⟩, hu⟩ : ∃ u : Trm, feedT ⟨gw, gh, l, x, y, k⟩ m = u := ⟨_, rfl⟩
  have HU := Lib.hid hu
  have hru := feed_rt HR.out m hA.1
  rw [hu] at hru
  have hul := right_len hru.1
  simp only at hul
  have HUL := Lib.hid (show ul.length ≤ 1000000000 by omega)
  clear hu hru hul
  have HA := Lib.hid hA
  clear hA
  go_enter Tryz.func4, Tryz.ntmps4
  go_wp2_with fail
  refine (tbig_any gw gh x y k A l.length cap hm _).mono ?_
  rintro e w1 ⟨rfl, hb1⟩
  rw [decide_eq_false hbig]
  replace V := Lib.hid (V.out.call hb1 (Nat.le_refl _))
  clear hb1
  have gp := V.out.bks 0 _ rfl
  dsimp only at gp
  obtain ⟨⟨pa, pb, pc, pd, pe, pf⟩, -, pz⟩ := blk6 gp
  clear gp
  go_wp2_with fail
  clear pa pb pc pd pe pf pz
  refine (tfeed_any gw gh x y k l a A cap _ (V.out.rws 0 _ rfl) hm hg (by omega) (S.below V.out.below) (T.below V.out.below) (U.below V.out.below)).mono ?_
  rintro e w2 ⟨ho, hb2⟩
  replace V := Lib.hid (V.out.call hb2 (Nat.le_refl _))
  obtain ⟨A2, cap2, rfl, hk⟩ := ho.ok HA.out HR.out HU.out (V.out.rws 0 _ rfl)
  dsimp only at hk
  replace V := Lib.hid (V.out.row (hk.rc (V.out.rws 0 _ rfl)))
  clear ho hb2 hk
  replace V := Lib.hid (V.out.box (Nat.le_refl _) #[.int .i64 uw, .int .i64 uh, .slice A2 ul.length cap2, .int .i64 ux, .int .i64 uy, .bool uk] 26)
  have gp := V.out.bks 1 _ rfl
  dsimp only at gp
  obtain ⟨⟨pa, pb, pc, pd, pe, pf⟩, -, pz⟩ := blk6 gp
  clear gp
  go_wp2_with fail
  clear pa pb pc pd pe pf pz
  refine (rfeed_any gw gh x y k l a A cap _ (V.out.rws 1 _ rfl) hm (by omega)).mono ?_
  rintro e w3 ⟨ho, hb3⟩
  replace V := Lib.hid (V.out.call hb3 (Nat.le_refl _))
  obtain ⟨A3, cap3, rfl, hk⟩ := ho.ok HA.out HR.out HU.out (V.out.rws 1 _ rfl)
  dsimp only at hk
  replace V := Lib.hid (V.out.row (hk.rc (V.out.rws 1 _ rfl)))
  clear ho hb3 hk
  replace V := Lib.hid (V.out.box (Nat.le_refl _) #[.int .i64 uw, .int .i64 uh, .slice A3 ul.length cap3, .int .i64 ux, .int .i64 uy, .bool uk] 26)
  go_wp2_with fail
  refine (fed_any _ (S.below V.out.below) (T.below V.out.below) (F.below V.out.below) (U.below V.out.below)).mono ?_
  rintro e w4 ⟨rfl, hb4⟩
  replace V := Lib.hid (V.out.call hb4 (Nat.le_refl _))
  clear hb4
  have gp := V.out.bks 1 _ rfl
  dsimp only at gp
  obtain ⟨⟨pa, pb, pc, pd, pe, pf⟩, -, pz⟩ := blk6 gp
  clear gp
  have gq := V.out.bks 0 _ rfl
  dsimp only at gq
  obtain ⟨⟨qa, qb, qc, qd, qe, qf⟩, -, qz⟩ := blk6 gq
  clear gq
  go_wp2_with fail
  clear pa pb pc pd pe pf pz
  clear qa qb qc qd qe qf qz
  refine (tsame_any uw uh ux uy uk ul A2 A3 cap2 cap3 _ (V.out.rws 1 _ rfl) (V.out.rws 0 _ rfl) HUL.out).mono ?_
  rintro e w6 ⟨rfl, hb6⟩
  replace V := Lib.hid (V.out.call hb6 (Nat.le_refl _))
  go_wp2
  go_ret
  exact ⟨by simp, V.out.below⟩
end Go.Proofs.YtkkioajmfkcloaaGreatDoor
