/- The walk of TermStays: it returns true, and turns nothing that was there. -/
import Derived.Test.YtcakklafjfobeaaDoorTmI
set_option linter.unusedVariables false
namespace Go.Proofs.YtcakklafjfobeaaDoor
open Go.RowKit Gl L Wd Gd Tm Vt
set_option maxRecDepth 100000 in
set_option maxHeartbeats 16000000 in
theorem tstays_law (gw gh x y K a b r fw fh : Int) (k : Bool) (l : List (Int × Int)) (A : Option Addr) (cap : Nat) (W : World) (hv : Rc W (.slice A l.length cap) l) (hm : l.length ≤ maxLen) (hg : gw ≤ 9223372036854775807) (S : Spans W 1) (T : Blk W 0) (F : Forms W 2) (U : Tabs W 3 4) :
    Calls Tryd.prog 5 #[.agg #[.int .i64 gw, .int .i64 gh, .slice A l.length cap, .int .i64 x, .int .i64 y, .bool k], .agg #[.int .i64 K, .int .i64 a, .int .i64 b, .int .i32 r], .int .i64 fw, .int .i64 fh] W fun e w' => e = .returned (.bool true) ∧ Below W.heap.size W w' := by
  have V := Lib.hid ((Lv.start W).row hv)
  replace V := Lib.hid (V.out.box (Nat.le_refl _) #[.int .i64 gw, .int .i64 gh, .slice A l.length cap, .int .i64 x, .int .i64 y, .bool k] 26)
  replace V := Lib.hid (V.out.box (Nat.le_refl _) #[.int .i64 K, .int .i64 a, .int .i64 b, .int .i32 r] 37)
  have HV := Lib.hid hv
  clear hv
  by_cases hbig : 3000 < l.length
  · skip
    go_enter Tryd.func5, Tryd.ntmps5
    go_wp2_with fail
    refine (tbig_any gw gh x y k A l.length cap hm _).mono ?_
    rintro e w1 ⟨rfl, hb1⟩
    rw [decide_eq_true hbig]
    replace V := Lib.hid (V.out.call hb1 (Nat.le_refl _))
    clear hb1
    go_wp2_with fail
    refine (fed_any _ (S.below V.out.below) (T.below V.out.below) (F.below V.out.below) (U.below V.out.below)).mono ?_
    rintro e w2 ⟨rfl, hb2⟩
    replace V := Lib.hid (V.out.call hb2 (Nat.le_refl _))
    clear hb2
    go_wp2
    go_ret
    exact ⟨rfl, V.out.below⟩
  by_cases hr : ¬ rt ⟨gw, gh, l, x, y, k⟩
  · skip
    have HR := Lib.hid hr
    clear hr
    go_enter Tryd.func5, Tryd.ntmps5
    go_wp2_with fail
    refine (tbig_any gw gh x y k A l.length cap hm _).mono ?_
    rintro e w1 ⟨rfl, hb1⟩
    rw [decide_eq_false hbig]
    replace V := Lib.hid (V.out.call hb1 (Nat.le_refl _))
    clear hb1
    have gp := V.out.bks 1 _ rfl
    dsimp only at gp
    obtain ⟨⟨pa, pb, pc, pd, pe, pf⟩, -, pz⟩ := blk6 gp
    clear gp
    go_wp2_with fail
    clear pa pb pc pd pe pf pz
    refine (tis_any gw gh x y k l A cap _ (V.out.rws 0 _ rfl) hm hg (S.below V.out.below)).mono ?_
    rintro e w2 ⟨rfl, hb2⟩
    rw [decide_eq_false HR.out]
    replace V := Lib.hid (V.out.call hb2 (Nat.le_refl _))
    clear hb2
    go_wp2_with fail
    refine (fed_any _ (S.below V.out.below) (T.below V.out.below) (F.below V.out.below) (U.below V.out.below)).mono ?_
    rintro e w3 ⟨rfl, hb3⟩
    replace V := Lib.hid (V.out.call hb3 (Nat.le_refl _))
    clear hb3
    go_wp2
    go_ret
    exact ⟨rfl, V.out.below⟩
  have hr := Classical.not_not.1 hr
  have HR := Lib.hid hr
  have HSZ := Lib.hid (show szE ⟨gw, gh, l, x, y, k⟩ = 4 from if_pos hr)
  have hl1 := right_len hr.1
  have hgw := hr.1.1
  simp only at hl1 hgw
  clear hr hbig
  have HL := Lib.hid (show l.length ≤ maxLen by unfold maxLen; omega)
  cases hc1 : isR (K, a, b, r)
  · have HC1 := Lib.hid hc1
    clear hc1
    cases hc2 : sidesB fw fh
    · have HC2 := Lib.hid hc2
      clear hc2
      go_enter Tryd.func5, Tryd.ntmps5
      go_wp2_with fail
      refine (tbig_any gw gh x y k A l.length cap hm _).mono ?_
      rintro e w1 ⟨rfl, hb1⟩
      rw [decide_eq_false (by omega)]
      replace V := Lib.hid (V.out.call hb1 (Nat.le_refl _))
      clear hb1
      have gp := V.out.bks 1 _ rfl
      dsimp only at gp
      obtain ⟨⟨pa, pb, pc, pd, pe, pf⟩, -, pz⟩ := blk6 gp
      clear gp
      go_wp2_with fail
      clear pa pb pc pd pe pf pz
      refine (tis_any gw gh x y k l A cap _ (V.out.rws 0 _ rfl) hm hg (S.below V.out.below)).mono ?_
      rintro e w2 ⟨rfl, hb2⟩
      rw [decide_eq_true HR.out]
      replace V := Lib.hid (V.out.call hb2 (Nat.le_refl _))
      clear hb2
      have gp := V.out.bks 1 _ rfl
      dsimp only at gp
      obtain ⟨⟨pa, pb, pc, pd, pe, pf⟩, -, pz⟩ := blk6 gp
      clear gp
      have gq := V.out.bks 0 _ rfl
      dsimp only at gq
      rw [one_size] at gq
      have q0 := cell_of_row _ _ 0 _ _ (0, 0) gq
      have q1 := cell_of_row _ _ 1 _ _ (0, 0) gq
      have q2 := cell_of_row _ _ 2 _ _ (0, 0) gq
      have q3 := cell_of_row _ _ 3 _ _ (0, 0) gq
      have qz := lt_of_block gq
      clear gq
      go_wp2_with fail
      clear pa pb pc pd pe pf pz
      clear q0 q1 q2 q3 qz
      refine (tdo_any gw gh x y K a b r k l A cap _ (V.out.rws 0 _ rfl) hm hg (S.below V.out.below) (T.below V.out.below) (F.below V.out.below)).mono ?_
      rintro e w3 ⟨ho, hb3⟩
      replace V := Lib.hid (V.out.call hb3 (Nat.le_refl _))
      obtain rfl := ho.isnt (by rw [HC1.out]; rfl)
      clear ho hb3
      replace V := Lib.hid (V.out.box (Nat.le_refl _) #[.int .i64 0, .int .i64 0, .slice none 0 0, .int .i64 0, .int .i64 0, .bool false] 26)
      have gp := V.out.bks 2 _ rfl
      dsimp only at gp
      obtain ⟨⟨pa, pb, pc, pd, pe, pf⟩, -, pz⟩ := blk6 gp
      clear gp
      go_wp2_with fail
      clear pa pb pc pd pe pf pz
      refine (tsize_any gw gh x y fw fh k l A cap _ (V.out.rws 0 _ rfl) hm hg (S.below V.out.below) (T.below V.out.below)).mono ?_
      rintro e w4 ⟨ho, hb4⟩
      rw [HSZ.out] at ho
      replace V := Lib.hid (V.out.call hb4 (Nat.le_refl _))
      obtain rfl := ho.isnt (by rw [HC2.out, Bool.and_false])
      clear ho hb4
      replace V := Lib.hid (V.out.box (Nat.le_refl _) #[.int .i64 0, .int .i64 0, .slice none 0 0, .int .i64 0, .int .i64 0, .bool false] 26)
      go_wp2_with fail
      refine (tnew_any fw fh _ (T.below V.out.below)).mono ?_
      rintro e w7 ⟨ho, hb7⟩
      replace V := Lib.hid (V.out.call hb7 (Nat.le_refl _))
      obtain rfl := ho.isnt HC2.out
      clear ho hb7
      replace V := Lib.hid (V.out.box (Nat.le_refl _) #[.int .i64 0, .int .i64 0, .slice none 0 0, .int .i64 0, .int .i64 0, .bool false] 26)
      go_wp2_with fail
      refine (fed_any _ (S.below V.out.below) (T.below V.out.below) (F.below V.out.below) (U.below V.out.below)).mono ?_
      rintro e w8 ⟨rfl, hb8⟩
      replace V := Lib.hid (V.out.call hb8 (Nat.le_refl _))
      clear hb8
      have gp := V.out.bks 4 _ rfl
      dsimp only at gp
      obtain ⟨⟨pa, pb, pc, pd, pe, pf⟩, -, pz⟩ := blk6 gp
      clear gp
      go_wp2_with fail
      clear pa pb pc pd pe pf pz
      refine (tis_any gw gh x y k l A cap _ (V.out.rws 0 _ rfl) hm hg (S.below V.out.below)).mono ?_
      rintro e w9 ⟨rfl, hb9⟩
      rw [decide_eq_true HR.out]
      replace V := Lib.hid (V.out.call hb9 (Nat.le_refl _))
      clear hb9
      go_wp2
      go_ret
      exact ⟨rfl, V.out.below⟩
    · have HC2 := Lib.hid hc2
      obtain ⟨⟨vw, vh, vl, vx, vy, vk⟩, hu⟩ : ∃ u : Trm, szT ⟨gw, gh, l, x, y, k⟩ fw fh = u := ⟨_, rfl⟩
      have HU2 := Lib.hid hu
      have hru := sz_rt HR.out hc2
      rw [hu] at hru
      have HRV := Lib.hid hru
      have hul := right_len hru.1
      have huw := hru.1.1
      simp only at hul huw
      have HVL := Lib.hid (show vl.length ≤ maxLen by unfold maxLen; omega)
      have HVW := Lib.hid (show vw ≤ 9223372036854775807 by omega)
      clear hu hru hul huw
      obtain ⟨⟨nw, nh, nl, nx, ny, nk⟩, hu⟩ : ∃ u : Trm, nwT fw fh = u := ⟨_, rfl⟩
      have HU3 := Lib.hid hu
      have hru := nw_rt hc2
      rw [hu] at hru
      have HRN := Lib.hid hru
      have hul := right_len hru.1
      have huw := hru.1.1
      simp only at hul huw
      have HNL := Lib.hid (show nl.length ≤ maxLen by unfold maxLen; omega)
      have HNW := Lib.hid (show nw ≤ 9223372036854775807 by omega)
      clear hu hru hul huw
      clear hc2
      go_enter Tryd.func5, Tryd.ntmps5
      go_wp2_with fail
      refine (tbig_any gw gh x y k A l.length cap hm _).mono ?_
      rintro e w1 ⟨rfl, hb1⟩
      rw [decide_eq_false (by omega)]
      replace V := Lib.hid (V.out.call hb1 (Nat.le_refl _))
      clear hb1
      have gp := V.out.bks 1 _ rfl
      dsimp only at gp
      obtain ⟨⟨pa, pb, pc, pd, pe, pf⟩, -, pz⟩ := blk6 gp
      clear gp
      go_wp2_with fail
      clear pa pb pc pd pe pf pz
      refine (tis_any gw gh x y k l A cap _ (V.out.rws 0 _ rfl) hm hg (S.below V.out.below)).mono ?_
      rintro e w2 ⟨rfl, hb2⟩
      rw [decide_eq_true HR.out]
      replace V := Lib.hid (V.out.call hb2 (Nat.le_refl _))
      clear hb2
      have gp := V.out.bks 1 _ rfl
      dsimp only at gp
      obtain ⟨⟨pa, pb, pc, pd, pe, pf⟩, -, pz⟩ := blk6 gp
      clear gp
      have gq := V.out.bks 0 _ rfl
      dsimp only at gq
      rw [one_size] at gq
      have q0 := cell_of_row _ _ 0 _ _ (0, 0) gq
      have q1 := cell_of_row _ _ 1 _ _ (0, 0) gq
      have q2 := cell_of_row _ _ 2 _ _ (0, 0) gq
      have q3 := cell_of_row _ _ 3 _ _ (0, 0) gq
      have qz := lt_of_block gq
      clear gq
      go_wp2_with fail
      clear pa pb pc pd pe pf pz
      clear q0 q1 q2 q3 qz
      refine (tdo_any gw gh x y K a b r k l A cap _ (V.out.rws 0 _ rfl) hm hg (S.below V.out.below) (T.below V.out.below) (F.below V.out.below)).mono ?_
      rintro e w3 ⟨ho, hb3⟩
      replace V := Lib.hid (V.out.call hb3 (Nat.le_refl _))
      obtain rfl := ho.isnt (by rw [HC1.out]; rfl)
      clear ho hb3
      replace V := Lib.hid (V.out.box (Nat.le_refl _) #[.int .i64 0, .int .i64 0, .slice none 0 0, .int .i64 0, .int .i64 0, .bool false] 26)
      have gp := V.out.bks 2 _ rfl
      dsimp only at gp
      obtain ⟨⟨pa, pb, pc, pd, pe, pf⟩, -, pz⟩ := blk6 gp
      clear gp
      go_wp2_with fail
      clear pa pb pc pd pe pf pz
      refine (tsize_any gw gh x y fw fh k l A cap _ (V.out.rws 0 _ rfl) hm hg (S.below V.out.below) (T.below V.out.below)).mono ?_
      rintro e w4 ⟨ho, hb4⟩
      rw [HSZ.out] at ho
      replace V := Lib.hid (V.out.call hb4 (Nat.le_refl _))
      rw [HU2.out] at ho
      obtain ⟨A4, cap4, rfl, hk⟩ := ho.is (by rw [HC2.out, decide_eq_true HR.out]; rfl) (rc_nil _)
      dsimp only at hk
      replace V := Lib.hid (V.out.row (hk.rc (rc_nil _)))
      clear ho hb4 hk
      replace V := Lib.hid (V.out.box (Nat.le_refl _) #[.int .i64 vw, .int .i64 vh, .slice A4 vl.length cap4, .int .i64 vx, .int .i64 vy, .bool vk] 26)
      have gp := V.out.bks 0 _ rfl
      dsimp only at gp
      obtain ⟨⟨pa, pb, pc, pd, pe, pf⟩, -, pz⟩ := blk6 gp
      clear gp
      go_wp2_with fail
      clear pa pb pc pd pe pf pz
      refine (tis_any vw vh vx vy vk vl A4 cap4 _ (V.out.rws 0 _ rfl) HVL.out HVW.out (S.below V.out.below)).mono ?_
      rintro e w6 ⟨rfl, hb6⟩
      rw [decide_eq_true HRV.out]
      replace V := Lib.hid (V.out.call hb6 (Nat.le_refl _))
      clear hb6
      go_wp2_with fail
      refine (tnew_any fw fh _ (T.below V.out.below)).mono ?_
      rintro e w7 ⟨ho, hb7⟩
      replace V := Lib.hid (V.out.call hb7 (Nat.le_refl _))
      rw [HU3.out] at ho
      obtain ⟨A7, cap7, rfl, hk⟩ := ho.is HC2.out (rc_nil _)
      dsimp only at hk
      replace V := Lib.hid (V.out.row (hk.rc (rc_nil _)))
      clear ho hb7 hk
      replace V := Lib.hid (V.out.box (Nat.le_refl _) #[.int .i64 nw, .int .i64 nh, .slice A7 nl.length cap7, .int .i64 nx, .int .i64 ny, .bool nk] 26)
      go_wp2_with fail
      refine (fed_any _ (S.below V.out.below) (T.below V.out.below) (F.below V.out.below) (U.below V.out.below)).mono ?_
      rintro e w8 ⟨rfl, hb8⟩
      replace V := Lib.hid (V.out.call hb8 (Nat.le_refl _))
      clear hb8
      have gp := V.out.bks 4 _ rfl
      dsimp only at gp
      obtain ⟨⟨pa, pb, pc, pd, pe, pf⟩, -, pz⟩ := blk6 gp
      clear gp
      go_wp2_with fail
      clear pa pb pc pd pe pf pz
      refine (tis_any gw gh x y k l A cap _ (V.out.rws 2 _ rfl) hm hg (S.below V.out.below)).mono ?_
      rintro e w9 ⟨rfl, hb9⟩
      rw [decide_eq_true HR.out]
      replace V := Lib.hid (V.out.call hb9 (Nat.le_refl _))
      clear hb9
      have gp := V.out.bks 0 _ rfl
      dsimp only at gp
      obtain ⟨⟨pa, pb, pc, pd, pe, pf⟩, -, pz⟩ := blk6 gp
      clear gp
      go_wp2_with fail
      clear pa pb pc pd pe pf pz
      refine (tis_any nw nh nx ny nk nl A7 cap7 _ (V.out.rws 0 _ rfl) HNL.out HNW.out (S.below V.out.below)).mono ?_
      rintro e wa ⟨rfl, hba⟩
      rw [decide_eq_true HRN.out]
      replace V := Lib.hid (V.out.call hba (Nat.le_refl _))
      clear hba
      go_wp2
      go_ret
      exact ⟨rfl, V.out.below⟩
  · have HC1 := Lib.hid hc1
    obtain ⟨⟨uw, uh, ul, ux, uy, uk⟩, hu⟩ : ∃ u : Trm, doT ⟨gw, gh, l, x, y, k⟩ (K, a, b, r) = u := ⟨_, rfl⟩
    have HU := Lib.hid hu
    have hru := do_rt HR.out HC1.out
    rw [hu] at hru
    have HRU := Lib.hid hru
    have hul := right_len hru.1
    have huw := hru.1.1
    simp only at hul huw
    have HUL := Lib.hid (show ul.length ≤ maxLen by unfold maxLen; omega)
    have HUW := Lib.hid (show uw ≤ 9223372036854775807 by omega)
    clear hu hru hul huw
    clear hc1
    cases hc2 : sidesB fw fh
    · have HC2 := Lib.hid hc2
      clear hc2
      go_enter Tryd.func5, Tryd.ntmps5
      go_wp2_with fail
      refine (tbig_any gw gh x y k A l.length cap hm _).mono ?_
      rintro e w1 ⟨rfl, hb1⟩
      rw [decide_eq_false (by omega)]
      replace V := Lib.hid (V.out.call hb1 (Nat.le_refl _))
      clear hb1
      have gp := V.out.bks 1 _ rfl
      dsimp only at gp
      obtain ⟨⟨pa, pb, pc, pd, pe, pf⟩, -, pz⟩ := blk6 gp
      clear gp
      go_wp2_with fail
      clear pa pb pc pd pe pf pz
      refine (tis_any gw gh x y k l A cap _ (V.out.rws 0 _ rfl) hm hg (S.below V.out.below)).mono ?_
      rintro e w2 ⟨rfl, hb2⟩
      rw [decide_eq_true HR.out]
      replace V := Lib.hid (V.out.call hb2 (Nat.le_refl _))
      clear hb2
      have gp := V.out.bks 1 _ rfl
      dsimp only at gp
      obtain ⟨⟨pa, pb, pc, pd, pe, pf⟩, -, pz⟩ := blk6 gp
      clear gp
      have gq := V.out.bks 0 _ rfl
      dsimp only at gq
      rw [one_size] at gq
      have q0 := cell_of_row _ _ 0 _ _ (0, 0) gq
      have q1 := cell_of_row _ _ 1 _ _ (0, 0) gq
      have q2 := cell_of_row _ _ 2 _ _ (0, 0) gq
      have q3 := cell_of_row _ _ 3 _ _ (0, 0) gq
      have qz := lt_of_block gq
      clear gq
      go_wp2_with fail
      clear pa pb pc pd pe pf pz
      clear q0 q1 q2 q3 qz
      refine (tdo_any gw gh x y K a b r k l A cap _ (V.out.rws 0 _ rfl) hm hg (S.below V.out.below) (T.below V.out.below) (F.below V.out.below)).mono ?_
      rintro e w3 ⟨ho, hb3⟩
      replace V := Lib.hid (V.out.call hb3 (Nat.le_refl _))
      rw [HU.out] at ho
      obtain ⟨A3, cap3, rfl, hk⟩ := ho.is (by rw [HC1.out, decide_eq_true HR.out]; rfl) (V.out.rws 0 _ rfl)
      dsimp only at hk
      replace V := Lib.hid (V.out.row (hk.rc (V.out.rws 0 _ rfl)))
      clear ho hb3 hk
      replace V := Lib.hid (V.out.box (Nat.le_refl _) #[.int .i64 uw, .int .i64 uh, .slice A3 ul.length cap3, .int .i64 ux, .int .i64 uy, .bool uk] 26)
      have gp := V.out.bks 2 _ rfl
      dsimp only at gp
      obtain ⟨⟨pa, pb, pc, pd, pe, pf⟩, -, pz⟩ := blk6 gp
      clear gp
      go_wp2_with fail
      clear pa pb pc pd pe pf pz
      refine (tsize_any gw gh x y fw fh k l A cap _ (V.out.rws 1 _ rfl) hm hg (S.below V.out.below) (T.below V.out.below)).mono ?_
      rintro e w4 ⟨ho, hb4⟩
      rw [HSZ.out] at ho
      replace V := Lib.hid (V.out.call hb4 (Nat.le_refl _))
      obtain rfl := ho.isnt (by rw [HC2.out, Bool.and_false])
      clear ho hb4
      replace V := Lib.hid (V.out.box (Nat.le_refl _) #[.int .i64 0, .int .i64 0, .slice none 0 0, .int .i64 0, .int .i64 0, .bool false] 26)
      have gp := V.out.bks 1 _ rfl
      dsimp only at gp
      obtain ⟨⟨pa, pb, pc, pd, pe, pf⟩, -, pz⟩ := blk6 gp
      clear gp
      go_wp2_with fail
      clear pa pb pc pd pe pf pz
      refine (tis_any uw uh ux uy uk ul A3 cap3 _ (V.out.rws 0 _ rfl) HUL.out HUW.out (S.below V.out.below)).mono ?_
      rintro e w5 ⟨rfl, hb5⟩
      rw [decide_eq_true HRU.out]
      replace V := Lib.hid (V.out.call hb5 (Nat.le_refl _))
      clear hb5
      go_wp2_with fail
      refine (tnew_any fw fh _ (T.below V.out.below)).mono ?_
      rintro e w7 ⟨ho, hb7⟩
      replace V := Lib.hid (V.out.call hb7 (Nat.le_refl _))
      obtain rfl := ho.isnt HC2.out
      clear ho hb7
      replace V := Lib.hid (V.out.box (Nat.le_refl _) #[.int .i64 0, .int .i64 0, .slice none 0 0, .int .i64 0, .int .i64 0, .bool false] 26)
      go_wp2_with fail
      refine (fed_any _ (S.below V.out.below) (T.below V.out.below) (F.below V.out.below) (U.below V.out.below)).mono ?_
      rintro e w8 ⟨rfl, hb8⟩
      replace V := Lib.hid (V.out.call hb8 (Nat.le_refl _))
      clear hb8
      have gp := V.out.bks 4 _ rfl
      dsimp only at gp
      obtain ⟨⟨pa, pb, pc, pd, pe, pf⟩, -, pz⟩ := blk6 gp
      clear gp
      go_wp2_with fail
      clear pa pb pc pd pe pf pz
      refine (tis_any gw gh x y k l A cap _ (V.out.rws 1 _ rfl) hm hg (S.below V.out.below)).mono ?_
      rintro e w9 ⟨rfl, hb9⟩
      rw [decide_eq_true HR.out]
      replace V := Lib.hid (V.out.call hb9 (Nat.le_refl _))
      clear hb9
      go_wp2
      go_ret
      exact ⟨rfl, V.out.below⟩
    · have HC2 := Lib.hid hc2
      obtain ⟨⟨vw, vh, vl, vx, vy, vk⟩, hu⟩ : ∃ u : Trm, szT ⟨gw, gh, l, x, y, k⟩ fw fh = u := ⟨_, rfl⟩
      have HU2 := Lib.hid hu
      have hru := sz_rt HR.out hc2
      rw [hu] at hru
      have HRV := Lib.hid hru
      have hul := right_len hru.1
      have huw := hru.1.1
      simp only at hul huw
      have HVL := Lib.hid (show vl.length ≤ maxLen by unfold maxLen; omega)
      have HVW := Lib.hid (show vw ≤ 9223372036854775807 by omega)
      clear hu hru hul huw
      obtain ⟨⟨nw, nh, nl, nx, ny, nk⟩, hu⟩ : ∃ u : Trm, nwT fw fh = u := ⟨_, rfl⟩
      have HU3 := Lib.hid hu
      have hru := nw_rt hc2
      rw [hu] at hru
      have HRN := Lib.hid hru
      have hul := right_len hru.1
      have huw := hru.1.1
      simp only at hul huw
      have HNL := Lib.hid (show nl.length ≤ maxLen by unfold maxLen; omega)
      have HNW := Lib.hid (show nw ≤ 9223372036854775807 by omega)
      clear hu hru hul huw
      clear hc2
      go_enter Tryd.func5, Tryd.ntmps5
      go_wp2_with fail
      refine (tbig_any gw gh x y k A l.length cap hm _).mono ?_
      rintro e w1 ⟨rfl, hb1⟩
      rw [decide_eq_false (by omega)]
      replace V := Lib.hid (V.out.call hb1 (Nat.le_refl _))
      clear hb1
      have gp := V.out.bks 1 _ rfl
      dsimp only at gp
      obtain ⟨⟨pa, pb, pc, pd, pe, pf⟩, -, pz⟩ := blk6 gp
      clear gp
      go_wp2_with fail
      clear pa pb pc pd pe pf pz
      refine (tis_any gw gh x y k l A cap _ (V.out.rws 0 _ rfl) hm hg (S.below V.out.below)).mono ?_
      rintro e w2 ⟨rfl, hb2⟩
      rw [decide_eq_true HR.out]
      replace V := Lib.hid (V.out.call hb2 (Nat.le_refl _))
      clear hb2
      have gp := V.out.bks 1 _ rfl
      dsimp only at gp
      obtain ⟨⟨pa, pb, pc, pd, pe, pf⟩, -, pz⟩ := blk6 gp
      clear gp
      have gq := V.out.bks 0 _ rfl
      dsimp only at gq
      rw [one_size] at gq
      have q0 := cell_of_row _ _ 0 _ _ (0, 0) gq
      have q1 := cell_of_row _ _ 1 _ _ (0, 0) gq
      have q2 := cell_of_row _ _ 2 _ _ (0, 0) gq
      have q3 := cell_of_row _ _ 3 _ _ (0, 0) gq
      have qz := lt_of_block gq
      clear gq
      go_wp2_with fail
      clear pa pb pc pd pe pf pz
      clear q0 q1 q2 q3 qz
      refine (tdo_any gw gh x y K a b r k l A cap _ (V.out.rws 0 _ rfl) hm hg (S.below V.out.below) (T.below V.out.below) (F.below V.out.below)).mono ?_
      rintro e w3 ⟨ho, hb3⟩
      replace V := Lib.hid (V.out.call hb3 (Nat.le_refl _))
      rw [HU.out] at ho
      obtain ⟨A3, cap3, rfl, hk⟩ := ho.is (by rw [HC1.out, decide_eq_true HR.out]; rfl) (V.out.rws 0 _ rfl)
      dsimp only at hk
      replace V := Lib.hid (V.out.row (hk.rc (V.out.rws 0 _ rfl)))
      clear ho hb3 hk
      replace V := Lib.hid (V.out.box (Nat.le_refl _) #[.int .i64 uw, .int .i64 uh, .slice A3 ul.length cap3, .int .i64 ux, .int .i64 uy, .bool uk] 26)
      have gp := V.out.bks 2 _ rfl
      dsimp only at gp
      obtain ⟨⟨pa, pb, pc, pd, pe, pf⟩, -, pz⟩ := blk6 gp
      clear gp
      go_wp2_with fail
      clear pa pb pc pd pe pf pz
      refine (tsize_any gw gh x y fw fh k l A cap _ (V.out.rws 1 _ rfl) hm hg (S.below V.out.below) (T.below V.out.below)).mono ?_
      rintro e w4 ⟨ho, hb4⟩
      rw [HSZ.out] at ho
      replace V := Lib.hid (V.out.call hb4 (Nat.le_refl _))
      rw [HU2.out] at ho
      obtain ⟨A4, cap4, rfl, hk⟩ := ho.is (by rw [HC2.out, decide_eq_true HR.out]; rfl) (rc_nil _)
      dsimp only at hk
      replace V := Lib.hid (V.out.row (hk.rc (rc_nil _)))
      clear ho hb4 hk
      replace V := Lib.hid (V.out.box (Nat.le_refl _) #[.int .i64 vw, .int .i64 vh, .slice A4 vl.length cap4, .int .i64 vx, .int .i64 vy, .bool vk] 26)
      have gp := V.out.bks 1 _ rfl
      dsimp only at gp
      obtain ⟨⟨pa, pb, pc, pd, pe, pf⟩, -, pz⟩ := blk6 gp
      clear gp
      go_wp2_with fail
      clear pa pb pc pd pe pf pz
      refine (tis_any uw uh ux uy uk ul A3 cap3 _ (V.out.rws 1 _ rfl) HUL.out HUW.out (S.below V.out.below)).mono ?_
      rintro e w5 ⟨rfl, hb5⟩
      rw [decide_eq_true HRU.out]
      replace V := Lib.hid (V.out.call hb5 (Nat.le_refl _))
      clear hb5
      have gp := V.out.bks 0 _ rfl
      dsimp only at gp
      obtain ⟨⟨pa, pb, pc, pd, pe, pf⟩, -, pz⟩ := blk6 gp
      clear gp
      go_wp2_with fail
      clear pa pb pc pd pe pf pz
      refine (tis_any vw vh vx vy vk vl A4 cap4 _ (V.out.rws 0 _ rfl) HVL.out HVW.out (S.below V.out.below)).mono ?_
      rintro e w6 ⟨rfl, hb6⟩
      rw [decide_eq_true HRV.out]
      replace V := Lib.hid (V.out.call hb6 (Nat.le_refl _))
      clear hb6
      go_wp2_with fail
      refine (tnew_any fw fh _ (T.below V.out.below)).mono ?_
      rintro e w7 ⟨ho, hb7⟩
      replace V := Lib.hid (V.out.call hb7 (Nat.le_refl _))
      rw [HU3.out] at ho
      obtain ⟨A7, cap7, rfl, hk⟩ := ho.is HC2.out (rc_nil _)
      dsimp only at hk
      replace V := Lib.hid (V.out.row (hk.rc (rc_nil _)))
      clear ho hb7 hk
      replace V := Lib.hid (V.out.box (Nat.le_refl _) #[.int .i64 nw, .int .i64 nh, .slice A7 nl.length cap7, .int .i64 nx, .int .i64 ny, .bool nk] 26)
      go_wp2_with fail
      refine (fed_any _ (S.below V.out.below) (T.below V.out.below) (F.below V.out.below) (U.below V.out.below)).mono ?_
      rintro e w8 ⟨rfl, hb8⟩
      replace V := Lib.hid (V.out.call hb8 (Nat.le_refl _))
      clear hb8
      have gp := V.out.bks 4 _ rfl
      dsimp only at gp
      obtain ⟨⟨pa, pb, pc, pd, pe, pf⟩, -, pz⟩ := blk6 gp
      clear gp
      go_wp2_with fail
      clear pa pb pc pd pe pf pz
      refine (tis_any gw gh x y k l A cap _ (V.out.rws 3 _ rfl) hm hg (S.below V.out.below)).mono ?_
      rintro e w9 ⟨rfl, hb9⟩
      rw [decide_eq_true HR.out]
      replace V := Lib.hid (V.out.call hb9 (Nat.le_refl _))
      clear hb9
      have gp := V.out.bks 0 _ rfl
      dsimp only at gp
      obtain ⟨⟨pa, pb, pc, pd, pe, pf⟩, -, pz⟩ := blk6 gp
      clear gp
      go_wp2_with fail
      clear pa pb pc pd pe pf pz
      refine (tis_any nw nh nx ny nk nl A7 cap7 _ (V.out.rws 0 _ rfl) HNL.out HNW.out (S.below V.out.below)).mono ?_
      rintro e wa ⟨rfl, hba⟩
      rw [decide_eq_true HRN.out]
      replace V := Lib.hid (V.out.call hba (Nat.le_refl _))
      clear hba
      go_wp2
      go_ret
      exact ⟨rfl, V.out.below⟩
end Go.Proofs.YtcakklafjfobeaaDoor
