/- The walk of TermNews: it returns true, and turns nothing that was there. -/
import Derived.Test.YtcakklafjfobeaaDoorTmN
import Derived.Deep.RegionHeld3
set_option linter.unusedVariables false
namespace Go.Proofs.YtcakklafjfobeaaDoor
open Go.RowKit Gl L Wd Gd Tm Vt
theorem cell_keep {w1 w2 : World} (hb : Below w1.heap.size w1 w2) {n o : Nat} {x : Value} (h : w1.cell? ⟨n, o, none⟩ = some x) : w2.cell? ⟨n, o, none⟩ = some x := by
  rw [old_cell hb _ _ (World.block_lt_of_cell? w1 _ h)]; exact h
theorem keepT {W w1 w2 : World} {Bs : List (Nat × Array Value × TypeId)} {Rs : List (Value × List (Int × Int))} {nt na nb : Nat} {t0 t1 t2 t3 t4 t5 a0 a1 a2 a3 a4 a5 b0 b1 b2 b3 b4 b5 : Value} (hb : Below w1.heap.size w1 w2)
    (h : w1.cell? ⟨nt, 0, none⟩ = some t0 ∧ w1.cell? ⟨nt, 1, none⟩ = some t1 ∧ w1.cell? ⟨nt, 2, none⟩ = some t2 ∧ w1.cell? ⟨nt, 3, none⟩ = some t3 ∧ w1.cell? ⟨nt, 4, none⟩ = some t4 ∧ w1.cell? ⟨nt, 5, none⟩ = some t5 ∧ w1.cell? ⟨na, 0, none⟩ = some a0 ∧ w1.cell? ⟨na, 1, none⟩ = some a1 ∧ w1.cell? ⟨na, 2, none⟩ = some a2 ∧ w1.cell? ⟨na, 3, none⟩ = some a3 ∧ w1.cell? ⟨na, 4, none⟩ = some a4 ∧ w1.cell? ⟨na, 5, none⟩ = some a5 ∧ w1.cell? ⟨nb, 0, none⟩ = some b0 ∧ w1.cell? ⟨nb, 1, none⟩ = some b1 ∧ w1.cell? ⟨nb, 2, none⟩ = some b2 ∧ w1.cell? ⟨nb, 3, none⟩ = some b3 ∧ w1.cell? ⟨nb, 4, none⟩ = some b4 ∧ w1.cell? ⟨nb, 5, none⟩ = some b5 ∧ Lv W.heap.size W w1 Bs Rs) : w2.cell? ⟨nt, 0, none⟩ = some t0 ∧ w2.cell? ⟨nt, 1, none⟩ = some t1 ∧ w2.cell? ⟨nt, 2, none⟩ = some t2 ∧ w2.cell? ⟨nt, 3, none⟩ = some t3 ∧ w2.cell? ⟨nt, 4, none⟩ = some t4 ∧ w2.cell? ⟨nt, 5, none⟩ = some t5 ∧ w2.cell? ⟨na, 0, none⟩ = some a0 ∧ w2.cell? ⟨na, 1, none⟩ = some a1 ∧ w2.cell? ⟨na, 2, none⟩ = some a2 ∧ w2.cell? ⟨na, 3, none⟩ = some a3 ∧ w2.cell? ⟨na, 4, none⟩ = some a4 ∧ w2.cell? ⟨na, 5, none⟩ = some a5 ∧ w2.cell? ⟨nb, 0, none⟩ = some b0 ∧ w2.cell? ⟨nb, 1, none⟩ = some b1 ∧ w2.cell? ⟨nb, 2, none⟩ = some b2 ∧ w2.cell? ⟨nb, 3, none⟩ = some b3 ∧ w2.cell? ⟨nb, 4, none⟩ = some b4 ∧ w2.cell? ⟨nb, 5, none⟩ = some b5 ∧ Lv W.heap.size W w2 Bs Rs := by
  obtain ⟨h0, h1, h2, h3, h4, h5, h6, h7, h8, h9, h10, h11, h12, h13, h14, h15, h16, h17, hl⟩ := h
  exact ⟨cell_keep hb h0, cell_keep hb h1, cell_keep hb h2, cell_keep hb h3, cell_keep hb h4, cell_keep hb h5, cell_keep hb h6, cell_keep hb h7, cell_keep hb h8, cell_keep hb h9, cell_keep hb h10, cell_keep hb h11, cell_keep hb h12, cell_keep hb h13, cell_keep hb h14, cell_keep hb h15, cell_keep hb h16, cell_keep hb h17, hl.call hb (Nat.le_refl _)⟩
set_option maxRecDepth 100000 in
set_option maxHeartbeats 16000000 in
theorem tnews_law (fw fh gw gh x y : Int) (k : Bool) (l : List (Int × Int)) (A : Option Addr) (cap : Nat) (W : World) (hv : Rc W (.slice A l.length cap) l) (hm : l.length ≤ maxLen) (hg : gw ≤ 9223372036854775807) (S : Spans W 1) (T : Blk W 0) (F : Forms W 2) (U : Tabs W 3 4) :
    Calls Tryd.prog 3 #[.int .i64 fw, .int .i64 fh, .agg #[.int .i64 gw, .int .i64 gh, .slice A l.length cap, .int .i64 x, .int .i64 y, .bool k]] W fun e w' => e = .returned (.bool true) ∧ Below W.heap.size W w' := by
  have V := Lib.hid ((Lv.start W).row hv)
  replace V := Lib.hid (V.out.box (Nat.le_refl _) #[.int .i64 gw, .int .i64 gh, .slice A l.length cap, .int .i64 x, .int .i64 y, .bool k] 26)
  clear hv
  by_cases hbig : 3000 < l.length
  · skip
    go_enter Tryd.func3, Tryd.ntmps3
    go_wp2_with fail
    refine (tbig_any gw gh x y k A l.length cap hm _).mono ?_
    rintro e w1 ⟨rfl, hb1⟩
    rw [decide_eq_true hbig]
    replace V := Lib.hid (V.out.call hb1 (Nat.le_refl _))
    clear hb1
    go_wp2
    go_ret
    exact ⟨rfl, V.out.below⟩
  cases hc : sidesB fw fh
  · skip
    have HC := Lib.hid hc
    clear hc
    go_enter Tryd.func3, Tryd.ntmps3
    go_wp2_with fail
    refine (tbig_any gw gh x y k A l.length cap hm _).mono ?_
    rintro e w1 ⟨rfl, hb1⟩
    rw [decide_eq_false hbig]
    replace V := Lib.hid (V.out.call hb1 (Nat.le_refl _))
    clear hb1
    go_wp2_with fail
    refine (tnew_any fw fh _ (T.below V.out.below)).mono ?_
    rintro e w2 ⟨ho, hb2⟩
    replace V := Lib.hid (V.out.call hb2 (Nat.le_refl _))
    obtain rfl := ho.isnt HC.out
    clear ho hb2
    replace V := Lib.hid (V.out.box (Nat.le_refl _) #[.int .i64 0, .int .i64 0, .slice none 0 0, .int .i64 0, .int .i64 0, .bool false] 26)
    go_wp2_with fail
    refine (rtnew_any fw fh _).mono ?_
    rintro e w3 ⟨ho, hb3⟩
    replace V := Lib.hid (V.out.call hb3 (Nat.le_refl _))
    obtain rfl := ho.isnt HC.out
    clear ho hb3
    replace V := Lib.hid (V.out.box (Nat.le_refl _) #[.int .i64 0, .int .i64 0, .slice none 0 0, .int .i64 0, .int .i64 0, .bool false] 26)
    have gt := V.out.bks 2 _ rfl
    dsimp only at gt
    obtain ⟨⟨ta, tb, tc, td, te, tf⟩, -, tz⟩ := blk6 gt
    have ga := V.out.bks 1 _ rfl
    dsimp only at ga
    obtain ⟨⟨aa, ab, ac, ad, ae, af⟩, -, az⟩ := blk6 ga
    have gb := V.out.bks 0 _ rfl
    dsimp only at gb
    obtain ⟨⟨ba, bb, bc, bd, be, bf⟩, -, bz⟩ := blk6 gb
    have HINI := Lib.hid (show World.cell? _ ⟨W.heap.size, 0, none⟩ = some (.int .i64 gw) ∧ World.cell? _ ⟨W.heap.size, 1, none⟩ = some (.int .i64 gh) ∧ World.cell? _ ⟨W.heap.size, 2, none⟩ = some (.slice A l.length cap) ∧ World.cell? _ ⟨W.heap.size, 3, none⟩ = some (.int .i64 x) ∧ World.cell? _ ⟨W.heap.size, 4, none⟩ = some (.int .i64 y) ∧ World.cell? _ ⟨W.heap.size, 5, none⟩ = some (.bool k) ∧ World.cell? _ ⟨w2.heap.size, 0, none⟩ = some (.int .i64 0) ∧ World.cell? _ ⟨w2.heap.size, 1, none⟩ = some (.int .i64 0) ∧ World.cell? _ ⟨w2.heap.size, 2, none⟩ = some (.slice none 0 0) ∧ World.cell? _ ⟨w2.heap.size, 3, none⟩ = some (.int .i64 0) ∧ World.cell? _ ⟨w2.heap.size, 4, none⟩ = some (.int .i64 0) ∧ World.cell? _ ⟨w2.heap.size, 5, none⟩ = some (.bool false) ∧ World.cell? _ ⟨w3.heap.size, 0, none⟩ = some (.int .i64 0) ∧ World.cell? _ ⟨w3.heap.size, 1, none⟩ = some (.int .i64 0) ∧ World.cell? _ ⟨w3.heap.size, 2, none⟩ = some (.slice none 0 0) ∧ World.cell? _ ⟨w3.heap.size, 3, none⟩ = some (.int .i64 0) ∧ World.cell? _ ⟨w3.heap.size, 4, none⟩ = some (.int .i64 0) ∧ World.cell? _ ⟨w3.heap.size, 5, none⟩ = some (.bool false) ∧ Lv W.heap.size W _ [(w3.heap.size, #[.int .i64 0, .int .i64 0, .slice none 0 0, .int .i64 0, .int .i64 0, .bool false], 26), (w2.heap.size, #[.int .i64 0, .int .i64 0, .slice none 0 0, .int .i64 0, .int .i64 0, .bool false], 26), (W.heap.size, #[.int .i64 gw, .int .i64 gh, .slice A l.length cap, .int .i64 x, .int .i64 y, .bool k], 26)] [(.slice A l.length cap, l)] from ⟨ta, tb, tc, td, te, tf, aa, ab, ac, ad, ae, af, ba, bb, bc, bd, be, bf, V.out⟩)
    clear gt ga gb ta tb tc td te tf tz aa ab ac ad ae af az ba bb bc bd be bf bz
    go_wp2
    go_region_held3 (fun w' => w'.cell? ⟨W.heap.size, 0, none⟩ = some (.int .i64 gw) ∧ w'.cell? ⟨W.heap.size, 1, none⟩ = some (.int .i64 gh) ∧ w'.cell? ⟨W.heap.size, 2, none⟩ = some (.slice A l.length cap) ∧ w'.cell? ⟨W.heap.size, 3, none⟩ = some (.int .i64 x) ∧ w'.cell? ⟨W.heap.size, 4, none⟩ = some (.int .i64 y) ∧ w'.cell? ⟨W.heap.size, 5, none⟩ = some (.bool k) ∧ w'.cell? ⟨w2.heap.size, 0, none⟩ = some (.int .i64 0) ∧ w'.cell? ⟨w2.heap.size, 1, none⟩ = some (.int .i64 0) ∧ w'.cell? ⟨w2.heap.size, 2, none⟩ = some (.slice none 0 0) ∧ w'.cell? ⟨w2.heap.size, 3, none⟩ = some (.int .i64 0) ∧ w'.cell? ⟨w2.heap.size, 4, none⟩ = some (.int .i64 0) ∧ w'.cell? ⟨w2.heap.size, 5, none⟩ = some (.bool false) ∧ w'.cell? ⟨w3.heap.size, 0, none⟩ = some (.int .i64 0) ∧ w'.cell? ⟨w3.heap.size, 1, none⟩ = some (.int .i64 0) ∧ w'.cell? ⟨w3.heap.size, 2, none⟩ = some (.slice none 0 0) ∧ w'.cell? ⟨w3.heap.size, 3, none⟩ = some (.int .i64 0) ∧ w'.cell? ⟨w3.heap.size, 4, none⟩ = some (.int .i64 0) ∧ w'.cell? ⟨w3.heap.size, 5, none⟩ = some (.bool false) ∧ Lv W.heap.size W w' [(w3.heap.size, #[.int .i64 0, .int .i64 0, .slice none 0 0, .int .i64 0, .int .i64 0, .bool false], 26), (w2.heap.size, #[.int .i64 0, .int .i64 0, .slice none 0 0, .int .i64 0, .int .i64 0, .bool false], 26), (W.heap.size, #[.int .i64 gw, .int .i64 gh, .slice A l.length cap, .int .i64 x, .int .i64 y, .bool k], 26)] [(.slice A l.length cap, l)]) (first | exact keepT (by assumption) (by assumption) | exact keepT (Below.refl _ _).drew HINI.out | exact HINI.out | (go_keep; done))
      (first | (go_at_call 12; have hL : Lv W.heap.size W _ [(w3.heap.size, #[.int .i64 0, .int .i64 0, .slice none 0 0, .int .i64 0, .int .i64 0, .bool false], 26), (w2.heap.size, #[.int .i64 0, .int .i64 0, .slice none 0 0, .int .i64 0, .int .i64 0, .bool false], 26), (W.heap.size, #[.int .i64 gw, .int .i64 gh, .slice A l.length cap, .int .i64 x, .int .i64 y, .bool k], 26)] [(.slice A l.length cap, l)] := (And.right (And.right (And.right (And.right (And.right (And.right (And.right (And.right (And.right (And.right (And.right (And.right (And.right (And.right (And.right (And.right (And.right (And.right (by assumption))))))))))))))))))); refine (fed_any _ (S.below hL.below) (T.below hL.below) (F.below hL.below) (U.below hL.below)).mono ?_; rintro e wx ⟨rfl, hbx⟩)
             | (go_at_call 13; have hL : Lv W.heap.size W _ [(w3.heap.size, #[.int .i64 0, .int .i64 0, .slice none 0 0, .int .i64 0, .int .i64 0, .bool false], 26), (w2.heap.size, #[.int .i64 0, .int .i64 0, .slice none 0 0, .int .i64 0, .int .i64 0, .bool false], 26), (W.heap.size, #[.int .i64 gw, .int .i64 gh, .slice A l.length cap, .int .i64 x, .int .i64 y, .bool k], 26)] [(.slice A l.length cap, l)] := (And.right (And.right (And.right (And.right (And.right (And.right (And.right (And.right (And.right (And.right (And.right (And.right (And.right (And.right (And.right (And.right (And.right (And.right (by assumption))))))))))))))))))); refine (tsame_any 0 0 0 0 false [] none none 0 0 _ (rc_nil _) (rc_nil _) (by decide)).mono ?_; rintro e wx ⟨rfl, hbx⟩)
             | (go_at_call 14; have hL : Lv W.heap.size W _ [(w3.heap.size, #[.int .i64 0, .int .i64 0, .slice none 0 0, .int .i64 0, .int .i64 0, .bool false], 26), (w2.heap.size, #[.int .i64 0, .int .i64 0, .slice none 0 0, .int .i64 0, .int .i64 0, .bool false], 26), (W.heap.size, #[.int .i64 gw, .int .i64 gh, .slice A l.length cap, .int .i64 x, .int .i64 y, .bool k], 26)] [(.slice A l.length cap, l)] := (And.right (And.right (And.right (And.right (And.right (And.right (And.right (And.right (And.right (And.right (And.right (And.right (And.right (And.right (And.right (And.right (And.right (And.right (by assumption))))))))))))))))))); refine (tis_any gw gh x y k l A cap _ (hL.rws 0 _ rfl) hm hg (S.below hL.below)).mono ?_; rintro e wx ⟨rfl, hbx⟩)
             | (go_at_call 15; have hL : Lv W.heap.size W _ [(w3.heap.size, #[.int .i64 0, .int .i64 0, .slice none 0 0, .int .i64 0, .int .i64 0, .bool false], 26), (w2.heap.size, #[.int .i64 0, .int .i64 0, .slice none 0 0, .int .i64 0, .int .i64 0, .bool false], 26), (W.heap.size, #[.int .i64 gw, .int .i64 gh, .slice A l.length cap, .int .i64 x, .int .i64 y, .bool k], 26)] [(.slice A l.length cap, l)] := (And.right (And.right (And.right (And.right (And.right (And.right (And.right (And.right (And.right (And.right (And.right (And.right (And.right (And.right (And.right (And.right (And.right (And.right (by assumption))))))))))))))))))); refine (rtis_any gw gh x y k l A cap _ (hL.rws 0 _ rfl) hm).mono ?_; rintro e wx ⟨rfl, hbx⟩))
    all_goals go_wp2
    all_goals go_ret
    all_goals refine ⟨by simp, ?_⟩
    all_goals exact Lv.below (Bs := [(w3.heap.size, #[.int .i64 0, .int .i64 0, .slice none 0 0, .int .i64 0, .int .i64 0, .bool false], 26), (w2.heap.size, #[.int .i64 0, .int .i64 0, .slice none 0 0, .int .i64 0, .int .i64 0, .bool false], 26), (W.heap.size, #[.int .i64 gw, .int .i64 gh, .slice A l.length cap, .int .i64 x, .int .i64 y, .bool k], 26)]) (Rs := [(.slice A l.length cap, l)]) (And.right (And.right (And.right (And.right (And.right (And.right (And.right (And.right (And.right (And.right (And.right (And.right (And.right (And.right (And.right (And.right (And.right (And.right (by assumption)))))))))))))))))))
  · skip
    have HC := Lib.hid hc
    obtain ⟨⟨uw, uh, ul, ux, uy, uk⟩, hu⟩ : ∃ u : Trm, nwT fw fh = u := ⟨_, rfl⟩
    have HU := Lib.hid hu
    have hru := nw_rt hc
    rw [hu] at hru
    have hul := right_len hru.1
    simp only at hul
    have HUL := Lib.hid (show ul.length ≤ 1000000000 by omega)
    clear hu hru hul
    clear hc
    go_enter Tryd.func3, Tryd.ntmps3
    go_wp2_with fail
    refine (tbig_any gw gh x y k A l.length cap hm _).mono ?_
    rintro e w1 ⟨rfl, hb1⟩
    rw [decide_eq_false hbig]
    replace V := Lib.hid (V.out.call hb1 (Nat.le_refl _))
    clear hb1
    go_wp2_with fail
    refine (tnew_any fw fh _ (T.below V.out.below)).mono ?_
    rintro e w2 ⟨ho, hb2⟩
    replace V := Lib.hid (V.out.call hb2 (Nat.le_refl _))
    rw [HU.out] at ho
    obtain ⟨A2, cap2, rfl, hk⟩ := ho.is HC.out (rc_nil _)
    dsimp only at hk
    replace V := Lib.hid (V.out.row (hk.rc (rc_nil _)))
    clear ho hb2 hk
    replace V := Lib.hid (V.out.box (Nat.le_refl _) #[.int .i64 uw, .int .i64 uh, .slice A2 ul.length cap2, .int .i64 ux, .int .i64 uy, .bool uk] 26)
    go_wp2_with fail
    refine (rtnew_any fw fh _).mono ?_
    rintro e w3 ⟨ho, hb3⟩
    replace V := Lib.hid (V.out.call hb3 (Nat.le_refl _))
    rw [HU.out] at ho
    obtain ⟨A3, cap3, rfl, hk⟩ := ho.is HC.out (rc_nil _)
    dsimp only at hk
    replace V := Lib.hid (V.out.row (hk.rc (rc_nil _)))
    clear ho hb3 hk
    replace V := Lib.hid (V.out.box (Nat.le_refl _) #[.int .i64 uw, .int .i64 uh, .slice A3 ul.length cap3, .int .i64 ux, .int .i64 uy, .bool uk] 26)
    have gt := V.out.bks 2 _ rfl
    dsimp only at gt
    obtain ⟨⟨ta, tb, tc, td, te, tf⟩, -, tz⟩ := blk6 gt
    have ga := V.out.bks 1 _ rfl
    dsimp only at ga
    obtain ⟨⟨aa, ab, ac, ad, ae, af⟩, -, az⟩ := blk6 ga
    have gb := V.out.bks 0 _ rfl
    dsimp only at gb
    obtain ⟨⟨ba, bb, bc, bd, be, bf⟩, -, bz⟩ := blk6 gb
    have HINI := Lib.hid (show World.cell? _ ⟨W.heap.size, 0, none⟩ = some (.int .i64 gw) ∧ World.cell? _ ⟨W.heap.size, 1, none⟩ = some (.int .i64 gh) ∧ World.cell? _ ⟨W.heap.size, 2, none⟩ = some (.slice A l.length cap) ∧ World.cell? _ ⟨W.heap.size, 3, none⟩ = some (.int .i64 x) ∧ World.cell? _ ⟨W.heap.size, 4, none⟩ = some (.int .i64 y) ∧ World.cell? _ ⟨W.heap.size, 5, none⟩ = some (.bool k) ∧ World.cell? _ ⟨w2.heap.size, 0, none⟩ = some (.int .i64 uw) ∧ World.cell? _ ⟨w2.heap.size, 1, none⟩ = some (.int .i64 uh) ∧ World.cell? _ ⟨w2.heap.size, 2, none⟩ = some (.slice A2 ul.length cap2) ∧ World.cell? _ ⟨w2.heap.size, 3, none⟩ = some (.int .i64 ux) ∧ World.cell? _ ⟨w2.heap.size, 4, none⟩ = some (.int .i64 uy) ∧ World.cell? _ ⟨w2.heap.size, 5, none⟩ = some (.bool uk) ∧ World.cell? _ ⟨w3.heap.size, 0, none⟩ = some (.int .i64 uw) ∧ World.cell? _ ⟨w3.heap.size, 1, none⟩ = some (.int .i64 uh) ∧ World.cell? _ ⟨w3.heap.size, 2, none⟩ = some (.slice A3 ul.length cap3) ∧ World.cell? _ ⟨w3.heap.size, 3, none⟩ = some (.int .i64 ux) ∧ World.cell? _ ⟨w3.heap.size, 4, none⟩ = some (.int .i64 uy) ∧ World.cell? _ ⟨w3.heap.size, 5, none⟩ = some (.bool uk) ∧ Lv W.heap.size W _ [(w3.heap.size, #[.int .i64 uw, .int .i64 uh, .slice A3 ul.length cap3, .int .i64 ux, .int .i64 uy, .bool uk], 26), (w2.heap.size, #[.int .i64 uw, .int .i64 uh, .slice A2 ul.length cap2, .int .i64 ux, .int .i64 uy, .bool uk], 26), (W.heap.size, #[.int .i64 gw, .int .i64 gh, .slice A l.length cap, .int .i64 x, .int .i64 y, .bool k], 26)] [(.slice A3 ul.length cap3, ul), (.slice A2 ul.length cap2, ul), (.slice A l.length cap, l)] from ⟨ta, tb, tc, td, te, tf, aa, ab, ac, ad, ae, af, ba, bb, bc, bd, be, bf, V.out⟩)
    clear gt ga gb ta tb tc td te tf tz aa ab ac ad ae af az ba bb bc bd be bf bz
    go_wp2
    go_region_held3 (fun w' => w'.cell? ⟨W.heap.size, 0, none⟩ = some (.int .i64 gw) ∧ w'.cell? ⟨W.heap.size, 1, none⟩ = some (.int .i64 gh) ∧ w'.cell? ⟨W.heap.size, 2, none⟩ = some (.slice A l.length cap) ∧ w'.cell? ⟨W.heap.size, 3, none⟩ = some (.int .i64 x) ∧ w'.cell? ⟨W.heap.size, 4, none⟩ = some (.int .i64 y) ∧ w'.cell? ⟨W.heap.size, 5, none⟩ = some (.bool k) ∧ w'.cell? ⟨w2.heap.size, 0, none⟩ = some (.int .i64 uw) ∧ w'.cell? ⟨w2.heap.size, 1, none⟩ = some (.int .i64 uh) ∧ w'.cell? ⟨w2.heap.size, 2, none⟩ = some (.slice A2 ul.length cap2) ∧ w'.cell? ⟨w2.heap.size, 3, none⟩ = some (.int .i64 ux) ∧ w'.cell? ⟨w2.heap.size, 4, none⟩ = some (.int .i64 uy) ∧ w'.cell? ⟨w2.heap.size, 5, none⟩ = some (.bool uk) ∧ w'.cell? ⟨w3.heap.size, 0, none⟩ = some (.int .i64 uw) ∧ w'.cell? ⟨w3.heap.size, 1, none⟩ = some (.int .i64 uh) ∧ w'.cell? ⟨w3.heap.size, 2, none⟩ = some (.slice A3 ul.length cap3) ∧ w'.cell? ⟨w3.heap.size, 3, none⟩ = some (.int .i64 ux) ∧ w'.cell? ⟨w3.heap.size, 4, none⟩ = some (.int .i64 uy) ∧ w'.cell? ⟨w3.heap.size, 5, none⟩ = some (.bool uk) ∧ Lv W.heap.size W w' [(w3.heap.size, #[.int .i64 uw, .int .i64 uh, .slice A3 ul.length cap3, .int .i64 ux, .int .i64 uy, .bool uk], 26), (w2.heap.size, #[.int .i64 uw, .int .i64 uh, .slice A2 ul.length cap2, .int .i64 ux, .int .i64 uy, .bool uk], 26), (W.heap.size, #[.int .i64 gw, .int .i64 gh, .slice A l.length cap, .int .i64 x, .int .i64 y, .bool k], 26)] [(.slice A3 ul.length cap3, ul), (.slice A2 ul.length cap2, ul), (.slice A l.length cap, l)]) (first | exact keepT (by assumption) (by assumption) | exact keepT (Below.refl _ _).drew HINI.out | exact HINI.out | (go_keep; done))
      (first | (go_at_call 12; have hL : Lv W.heap.size W _ [(w3.heap.size, #[.int .i64 uw, .int .i64 uh, .slice A3 ul.length cap3, .int .i64 ux, .int .i64 uy, .bool uk], 26), (w2.heap.size, #[.int .i64 uw, .int .i64 uh, .slice A2 ul.length cap2, .int .i64 ux, .int .i64 uy, .bool uk], 26), (W.heap.size, #[.int .i64 gw, .int .i64 gh, .slice A l.length cap, .int .i64 x, .int .i64 y, .bool k], 26)] [(.slice A3 ul.length cap3, ul), (.slice A2 ul.length cap2, ul), (.slice A l.length cap, l)] := (And.right (And.right (And.right (And.right (And.right (And.right (And.right (And.right (And.right (And.right (And.right (And.right (And.right (And.right (And.right (And.right (And.right (And.right (by assumption))))))))))))))))))); refine (fed_any _ (S.below hL.below) (T.below hL.below) (F.below hL.below) (U.below hL.below)).mono ?_; rintro e wx ⟨rfl, hbx⟩)
             | (go_at_call 13; have hL : Lv W.heap.size W _ [(w3.heap.size, #[.int .i64 uw, .int .i64 uh, .slice A3 ul.length cap3, .int .i64 ux, .int .i64 uy, .bool uk], 26), (w2.heap.size, #[.int .i64 uw, .int .i64 uh, .slice A2 ul.length cap2, .int .i64 ux, .int .i64 uy, .bool uk], 26), (W.heap.size, #[.int .i64 gw, .int .i64 gh, .slice A l.length cap, .int .i64 x, .int .i64 y, .bool k], 26)] [(.slice A3 ul.length cap3, ul), (.slice A2 ul.length cap2, ul), (.slice A l.length cap, l)] := (And.right (And.right (And.right (And.right (And.right (And.right (And.right (And.right (And.right (And.right (And.right (And.right (And.right (And.right (And.right (And.right (And.right (And.right (by assumption))))))))))))))))))); refine (tsame_any uw uh ux uy uk ul A2 A3 cap2 cap3 _ (hL.rws 1 _ rfl) (hL.rws 0 _ rfl) HUL.out).mono ?_; rintro e wx ⟨rfl, hbx⟩)
             | (go_at_call 14; have hL : Lv W.heap.size W _ [(w3.heap.size, #[.int .i64 uw, .int .i64 uh, .slice A3 ul.length cap3, .int .i64 ux, .int .i64 uy, .bool uk], 26), (w2.heap.size, #[.int .i64 uw, .int .i64 uh, .slice A2 ul.length cap2, .int .i64 ux, .int .i64 uy, .bool uk], 26), (W.heap.size, #[.int .i64 gw, .int .i64 gh, .slice A l.length cap, .int .i64 x, .int .i64 y, .bool k], 26)] [(.slice A3 ul.length cap3, ul), (.slice A2 ul.length cap2, ul), (.slice A l.length cap, l)] := (And.right (And.right (And.right (And.right (And.right (And.right (And.right (And.right (And.right (And.right (And.right (And.right (And.right (And.right (And.right (And.right (And.right (And.right (by assumption))))))))))))))))))); refine (tis_any gw gh x y k l A cap _ (hL.rws 2 _ rfl) hm hg (S.below hL.below)).mono ?_; rintro e wx ⟨rfl, hbx⟩)
             | (go_at_call 15; have hL : Lv W.heap.size W _ [(w3.heap.size, #[.int .i64 uw, .int .i64 uh, .slice A3 ul.length cap3, .int .i64 ux, .int .i64 uy, .bool uk], 26), (w2.heap.size, #[.int .i64 uw, .int .i64 uh, .slice A2 ul.length cap2, .int .i64 ux, .int .i64 uy, .bool uk], 26), (W.heap.size, #[.int .i64 gw, .int .i64 gh, .slice A l.length cap, .int .i64 x, .int .i64 y, .bool k], 26)] [(.slice A3 ul.length cap3, ul), (.slice A2 ul.length cap2, ul), (.slice A l.length cap, l)] := (And.right (And.right (And.right (And.right (And.right (And.right (And.right (And.right (And.right (And.right (And.right (And.right (And.right (And.right (And.right (And.right (And.right (And.right (by assumption))))))))))))))))))); refine (rtis_any gw gh x y k l A cap _ (hL.rws 2 _ rfl) hm).mono ?_; rintro e wx ⟨rfl, hbx⟩))
    all_goals go_wp2
    all_goals go_ret
    all_goals refine ⟨by simp, ?_⟩
    all_goals exact Lv.below (Bs := [(w3.heap.size, #[.int .i64 uw, .int .i64 uh, .slice A3 ul.length cap3, .int .i64 ux, .int .i64 uy, .bool uk], 26), (w2.heap.size, #[.int .i64 uw, .int .i64 uh, .slice A2 ul.length cap2, .int .i64 ux, .int .i64 uy, .bool uk], 26), (W.heap.size, #[.int .i64 gw, .int .i64 gh, .slice A l.length cap, .int .i64 x, .int .i64 y, .bool k], 26)]) (Rs := [(.slice A3 ul.length cap3, ul), (.slice A2 ul.length cap2, ul), (.slice A l.length cap, l)]) (And.right (And.right (And.right (And.right (And.right (And.right (And.right (And.right (And.right (And.right (And.right (And.right (And.right (And.right (And.right (And.right (And.right (And.right (by assumption)))))))))))))))))))
end Go.Proofs.YtcakklafjfobeaaDoor
