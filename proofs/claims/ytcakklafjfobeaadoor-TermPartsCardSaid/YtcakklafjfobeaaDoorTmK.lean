/- The walk of TermParts: it returns true, and turns nothing that was there. -/
import Derived.Test.YtcakklafjfobeaaDoorTmI
set_option linter.unusedVariables false
namespace Go.Proofs.YtcakklafjfobeaaDoor
open Go.RowKit Gl L Wd Gd Tm Vt
theorem FO.bad1 {B : Nat} {vi : Value} {li : List (Int × Int)} {w' : World} {e : Ending} {t : Trm} {s : ByteArray} (h : FO B vi li w' e t s) (hr : ¬ rt t) : e = .returned (.tuple #[.agg #[.int .i64 0, .int .i64 0, .slice none 0 0, .int .i64 0, .int .i64 0, .bool false], .string ⟨#[]⟩, .int .i64 1]) := by
  rcases h with ⟨_, h⟩ | ⟨h, _⟩ | ⟨_, _, _, h, _⟩
  · exact h
  · exact absurd h hr
  · exact absurd h hr
theorem FO.bad2 {B : Nat} {vi : Value} {li : List (Int × Int)} {w' : World} {e : Ending} {t : Trm} {s : ByteArray} (h : FO B vi li w' e t s) (hr : rt t) (hb : AllBad s) : e = .returned (.tuple #[.agg #[.int .i64 0, .int .i64 0, .slice none 0 0, .int .i64 0, .int .i64 0, .bool false], .string ⟨#[]⟩, .int .i64 2]) := by
  rcases h with ⟨h, _⟩ | ⟨_, _, h⟩ | ⟨_, _, _, _, h, _⟩
  · exact absurd hr h
  · exact h
  · exact (h.not_bad hb).elim
theorem FO.ok {B : Nat} {vi : Value} {li : List (Int × Int)} {w' : World} {e : Ending} {t u : Trm} {s r : ByteArray} {m : List Cmd} (h : FO B vi li w' e t s) (hA : AllR s m r) (hr : rt t) (hu : feedT t m = u) (hi : Rc w' vi li) : ∃ A cap, e = .returned (.tuple #[.agg #[.int .i64 u.w, .int .i64 u.h, .slice A u.l.length cap, .int .i64 u.x, .int .i64 u.y, .bool u.k], .string r, .int .i64 0]) ∧ Kp B vi li w' (.slice A u.l.length cap) u.l := by
  rcases h with ⟨h, _⟩ | ⟨_, h, _⟩ | ⟨m', r', v, _, hm, rfl, hk⟩
  · exact absurd hr h
  · exact (hA.not_bad h).elim
  · obtain ⟨rfl, rfl⟩ := hA.one hm
    rw [hu] at hk ⊢
    obtain ⟨A, cap, rfl, h1, h2⟩ := hk.rc hi
    exact ⟨A, cap, rfl, hk⟩
theorem left_size {s r : ByteArray} {m : List Cmd} (h : AllR s m r) : r.size ≤ s.size := by
  have h2 := congrArg ByteArray.size h.2.1
  rw [size_app] at h2
  omega
set_option maxRecDepth 100000 in
set_option maxHeartbeats 16000000 in
theorem tparts_law (gw gh x y : Int) (k : Bool) (l : List (Int × Int)) (a b : ByteArray) (A : Option Addr) (cap : Nat) (W : World) (hv : Rc W (.slice A l.length cap) l) (hm : l.length ≤ maxLen) (hg : gw ≤ 9223372036854775807) (ha : a.size ≤ 140737488351232) (hb : b.size ≤ 140737488351232) (S : Spans W 1) (T : Blk W 0) (F : Forms W 2) (U : Tabs W 3 4) :
    Calls Tryd.prog 6 #[.agg #[.int .i64 gw, .int .i64 gh, .slice A l.length cap, .int .i64 x, .int .i64 y, .bool k], .string a, .string b] W fun e w' => e = .returned (.bool true) ∧ Below W.heap.size W w' := by
  have V := Lib.hid ((Lv.start W).row hv)
  replace V := Lib.hid (V.out.box (Nat.le_refl _) #[.int .i64 gw, .int .i64 gh, .slice A l.length cap, .int .i64 x, .int .i64 y, .bool k] 26)
  clear hv
  by_cases hbig : 3000 < l.length
  · skip
    go_enter Tryd.func6, Tryd.ntmps6
    go_wp2_with fail
    refine (tbig_any gw gh x y k A l.length cap hm _).mono ?_
    rintro e w1 ⟨rfl, hb1⟩
    rw [decide_eq_true hbig]
    replace V := Lib.hid (V.out.call hb1 (Nat.le_refl _))
    clear hb1
    go_wp2
    go_ret
    exact ⟨rfl, V.out.below⟩
  by_cases ha3 : 300 < a.size
  · skip
    have d2 : decide ((300 : Int) < (a.size : Int)) = true := by rw [decide_eq_true_iff]; omega
    go_enter Tryd.func6, Tryd.ntmps6
    go_wp2_with fail
    refine (tbig_any gw gh x y k A l.length cap hm _).mono ?_
    rintro e w1 ⟨rfl, hb1⟩
    rw [decide_eq_false hbig]
    replace V := Lib.hid (V.out.call hb1 (Nat.le_refl _))
    clear hb1
    go_wp2
    go_ret
    exact ⟨rfl, V.out.below⟩
  by_cases hb3 : 300 < b.size
  · skip
    have d1 : decide ((300 : Int) < (a.size : Int)) = false := by rw [decide_eq_false_iff_not]; omega
    have d2 : decide ((300 : Int) < (b.size : Int)) = true := by rw [decide_eq_true_iff]; omega
    go_enter Tryd.func6, Tryd.ntmps6
    go_wp2_with fail
    refine (tbig_any gw gh x y k A l.length cap hm _).mono ?_
    rintro e w1 ⟨rfl, hb1⟩
    rw [decide_eq_false hbig]
    replace V := Lib.hid (V.out.call hb1 (Nat.le_refl _))
    clear hb1
    go_wp2
    go_ret
    exact ⟨rfl, V.out.below⟩
  have d1 : decide ((300 : Int) < (a.size : Int)) = false := by rw [decide_eq_false_iff_not]; omega
  have d2 : decide ((300 : Int) < (b.size : Int)) = false := by rw [decide_eq_false_iff_not]; omega
  have hsab : (a ++ b).size ≤ 2000000 := by rw [size_app]; omega
  have HSAB := Lib.hid hsab
  clear hsab
  by_cases hr : ¬ rt ⟨gw, gh, l, x, y, k⟩
  · skip
    have HR := Lib.hid hr
    clear hr
    go_enter Tryd.func6, Tryd.ntmps6
    go_wp2_with fail
    refine (tbig_any gw gh x y k A l.length cap hm _).mono ?_
    rintro e w1 ⟨rfl, hb1⟩
    rw [decide_eq_false hbig]
    replace V := Lib.hid (V.out.call hb1 (Nat.le_refl _))
    clear hb1
    have gp := V.out.bks 0 _ rfl
    dsimp only at gp
    obtain ⟨⟨pa, pb, pc, pd, pe, pf⟩, -, pz⟩ := blk6 gp
    clear gp
    go_wp2_with fail
    clear pa pb pc pd pe pf pz
    refine (tfeed_any gw gh x y k l a A cap _ (V.out.rws 0 _ rfl) hm hg (by omega) (S.below V.out.below) (T.below V.out.below) (U.below V.out.below)).mono ?_
    rintro e w2 ⟨ho, hb2⟩
    replace V := Lib.hid (V.out.call hb2 (Nat.le_refl _))
    obtain rfl := ho.bad1 HR.out
    clear ho
    replace V := Lib.hid (V.out.box (Nat.le_refl _) #[.int .i64 0, .int .i64 0, .slice none 0 0, .int .i64 0, .int .i64 0, .bool false] 26)
    have gp := V.out.bks 1 _ rfl
    dsimp only at gp
    obtain ⟨⟨pa, pb, pc, pd, pe, pf⟩, -, pz⟩ := blk6 gp
    clear gp
    go_wp2_with fail
    clear pa pb pc pd pe pf pz
    refine (tfeed_any gw gh x y k l (a ++ b) A cap _ (V.out.rws 0 _ rfl) hm hg HSAB.out (S.below V.out.below) (T.below V.out.below) (U.below V.out.below)).mono ?_
    rintro e w3 ⟨ho, hb3⟩
    replace V := Lib.hid (V.out.call hb3 (Nat.le_refl _))
    obtain rfl := ho.bad1 HR.out
    clear ho
    replace V := Lib.hid (V.out.box (Nat.le_refl _) #[.int .i64 0, .int .i64 0, .slice none 0 0, .int .i64 0, .int .i64 0, .bool false] 26)
    go_wp2_with fail
    refine (fed_any _ (S.below V.out.below) (T.below V.out.below) (F.below V.out.below) (U.below V.out.below)).mono ?_
    rintro e w4 ⟨rfl, hb4⟩
    replace V := Lib.hid (V.out.call hb4 (Nat.le_refl _))
    clear hb4
    go_wp2
    go_ret
    exact ⟨rfl, V.out.below⟩
  have HR := Lib.hid (Classical.not_not.1 hr)
  clear hr
  rcases all_some a.size a (Nat.le_refl _) with ⟨m, r, hA⟩ | hA
  case inr =>
    have HA := Lib.hid hA
    have HA2 := Lib.hid (hA.app b)
    clear hA
    go_enter Tryd.func6, Tryd.ntmps6
    go_wp2_with fail
    refine (tbig_any gw gh x y k A l.length cap hm _).mono ?_
    rintro e w1 ⟨rfl, hb1⟩
    rw [decide_eq_false hbig]
    replace V := Lib.hid (V.out.call hb1 (Nat.le_refl _))
    clear hb1
    have gp := V.out.bks 0 _ rfl
    dsimp only at gp
    obtain ⟨⟨pa, pb, pc, pd, pe, pf⟩, -, pz⟩ := blk6 gp
    clear gp
    go_wp2_with fail
    clear pa pb pc pd pe pf pz
    refine (tfeed_any gw gh x y k l a A cap _ (V.out.rws 0 _ rfl) hm hg (by omega) (S.below V.out.below) (T.below V.out.below) (U.below V.out.below)).mono ?_
    rintro e w2 ⟨ho, hb2⟩
    replace V := Lib.hid (V.out.call hb2 (Nat.le_refl _))
    obtain rfl := ho.bad2 HR.out HA.out
    clear ho
    replace V := Lib.hid (V.out.box (Nat.le_refl _) #[.int .i64 0, .int .i64 0, .slice none 0 0, .int .i64 0, .int .i64 0, .bool false] 26)
    have gp := V.out.bks 1 _ rfl
    dsimp only at gp
    obtain ⟨⟨pa, pb, pc, pd, pe, pf⟩, -, pz⟩ := blk6 gp
    clear gp
    go_wp2_with fail
    clear pa pb pc pd pe pf pz
    refine (tfeed_any gw gh x y k l (a ++ b) A cap _ (V.out.rws 0 _ rfl) hm hg HSAB.out (S.below V.out.below) (T.below V.out.below) (U.below V.out.below)).mono ?_
    rintro e w3 ⟨ho, hb3⟩
    replace V := Lib.hid (V.out.call hb3 (Nat.le_refl _))
    obtain rfl := ho.bad2 HR.out HA2.out
    clear ho
    replace V := Lib.hid (V.out.box (Nat.le_refl _) #[.int .i64 0, .int .i64 0, .slice none 0 0, .int .i64 0, .int .i64 0, .bool false] 26)
    go_wp2_with fail
    refine (fed_any _ (S.below V.out.below) (T.below V.out.below) (F.below V.out.below) (U.below V.out.below)).mono ?_
    rintro e w4 ⟨rfl, hb4⟩
    replace V := Lib.hid (V.out.call hb4 (Nat.le_refl _))
    clear hb4
    go_wp2
    go_ret
    exact ⟨rfl, V.out.below⟩
  have hrs := left_size hA
  have hsrb : (r ++ b).size ≤ 2000000 := by rw [size_app]; omega
  have HSRB := Lib.hid hsrb
  clear hsrb
  obtain ⟨⟨uw, uh, ul, ux, uy, uk⟩, hu⟩ : ∃ u : Trm, feedT ⟨gw, gh, l, x, y, k⟩ m = u := ⟨_, rfl⟩
  have HU := Lib.hid hu
  have hru := feed_rt HR.out m hA.1
  rw [hu] at hru
  have HRU := Lib.hid hru
  have hul := right_len hru.1
  have huw := hru.1.1
  simp only at hul huw
  have HUL := Lib.hid (show ul.length ≤ maxLen by unfold maxLen; omega)
  have HUW := Lib.hid (show uw ≤ 9223372036854775807 by omega)
  clear hu hru hul huw
  have HA := Lib.hid hA
  rcases all_some (r ++ b).size (r ++ b) (Nat.le_refl _) with ⟨m3, r3, hB⟩ | hB
  · skip
    obtain ⟨⟨vw, vh, vl, vx, vy, vk⟩, hu⟩ : ∃ u : Trm, feedT ⟨uw, uh, ul, ux, uy, uk⟩ m3 = u := ⟨_, rfl⟩
    have HV := Lib.hid hu
    have HV2 := Lib.hid (show feedT ⟨gw, gh, l, x, y, k⟩ (m ++ m3) = ⟨vw, vh, vl, vx, vy, vk⟩ by rw [feed_append, HU.out, hu])
    have hru := feed_rt HRU.out m3 hB.1
    rw [hu] at hru
    have hul := right_len hru.1
    simp only at hul
    have HVL := Lib.hid (show vl.length ≤ 1000000000 by omega)
    clear hu hru hul
    have HAB := Lib.hid ((hA.front b).1 hB)
    have HB := Lib.hid hB
    have hr3 : r.size ≤ 300 := by omega
    clear hA hB hrs
    go_enter Tryd.func6, Tryd.ntmps6
    go_wp2_with fail
    refine (tbig_any gw gh x y k A l.length cap hm _).mono ?_
    rintro e w1 ⟨rfl, hb1⟩
    rw [decide_eq_false hbig]
    replace V := Lib.hid (V.out.call hb1 (Nat.le_refl _))
    clear hb1
    have gp := V.out.bks 0 _ rfl
    dsimp only at gp
    obtain ⟨⟨pa, pb, pc, pd, pe, pf⟩, -, pz⟩ := blk6 gp
    clear gp
    go_wp2_with fail
    clear pa pb pc pd pe pf pz
    refine (tfeed_any gw gh x y k l a A cap _ (V.out.rws 0 _ rfl) hm hg (by omega) (S.below V.out.below) (T.below V.out.below) (U.below V.out.below)).mono ?_
    rintro e w2 ⟨ho, hb2⟩
    replace V := Lib.hid (V.out.call hb2 (Nat.le_refl _))
    obtain ⟨A2, cap2, rfl, hk⟩ := ho.ok HA.out HR.out HU.out (V.out.rws 0 _ rfl)
    dsimp only at hk
    replace V := Lib.hid (V.out.row (hk.rc (V.out.rws 0 _ rfl)))
    clear ho hk
    replace V := Lib.hid (V.out.box (Nat.le_refl _) #[.int .i64 uw, .int .i64 uh, .slice A2 ul.length cap2, .int .i64 ux, .int .i64 uy, .bool uk] 26)
    have gp := V.out.bks 1 _ rfl
    dsimp only at gp
    obtain ⟨⟨pa, pb, pc, pd, pe, pf⟩, -, pz⟩ := blk6 gp
    clear gp
    go_wp2_with fail
    clear pa pb pc pd pe pf pz
    refine (tfeed_any gw gh x y k l (a ++ b) A cap _ (V.out.rws 1 _ rfl) hm hg HSAB.out (S.below V.out.below) (T.below V.out.below) (U.below V.out.below)).mono ?_
    rintro e w3 ⟨ho, hb3⟩
    replace V := Lib.hid (V.out.call hb3 (Nat.le_refl _))
    obtain ⟨A3, cap3, rfl, hk⟩ := ho.ok HAB.out HR.out HV2.out (V.out.rws 1 _ rfl)
    dsimp only at hk
    replace V := Lib.hid (V.out.row (hk.rc (V.out.rws 1 _ rfl)))
    clear ho hk
    replace V := Lib.hid (V.out.box (Nat.le_refl _) #[.int .i64 vw, .int .i64 vh, .slice A3 vl.length cap3, .int .i64 vx, .int .i64 vy, .bool vk] 26)
    have gp := V.out.bks 1 _ rfl
    dsimp only at gp
    obtain ⟨⟨pa, pb, pc, pd, pe, pf⟩, -, pz⟩ := blk6 gp
    clear gp
    go_wp2_with fail
    clear pa pb pc pd pe pf pz
    refine (tfeed_any uw uh ux uy uk ul (r ++ b) A2 cap2 _ (V.out.rws 1 _ rfl) HUL.out HUW.out HSRB.out (S.below V.out.below) (T.below V.out.below) (U.below V.out.below)).mono ?_
    rintro e w4 ⟨ho, hb4⟩
    replace V := Lib.hid (V.out.call hb4 (Nat.le_refl _))
    obtain ⟨A4, cap4, rfl, hk⟩ := ho.ok HB.out HRU.out HV.out (V.out.rws 1 _ rfl)
    dsimp only at hk
    replace V := Lib.hid (V.out.row (hk.rc (V.out.rws 1 _ rfl)))
    clear ho hk
    replace V := Lib.hid (V.out.box (Nat.le_refl _) #[.int .i64 vw, .int .i64 vh, .slice A4 vl.length cap4, .int .i64 vx, .int .i64 vy, .bool vk] 26)
    go_wp2_with fail
    refine (fed_any _ (S.below V.out.below) (T.below V.out.below) (F.below V.out.below) (U.below V.out.below)).mono ?_
    rintro e w5 ⟨rfl, hb5⟩
    replace V := Lib.hid (V.out.call hb5 (Nat.le_refl _))
    clear hb5
    have gp := V.out.bks 1 _ rfl
    dsimp only at gp
    obtain ⟨⟨pa, pb, pc, pd, pe, pf⟩, -, pz⟩ := blk6 gp
    clear gp
    have gq := V.out.bks 0 _ rfl
    dsimp only at gq
    obtain ⟨⟨qa, qb, qc, qd, qe, qf⟩, -, qz⟩ := blk6 gq
    clear gq
    go_wp2_with fail
    clear pa pb pc pd pe pf pz
    clear qa qb qc qd qe qf qz
    refine (tsame_any vw vh vx vy vk vl A3 A4 cap3 cap4 _ (V.out.rws 1 _ rfl) (V.out.rws 0 _ rfl) HVL.out).mono ?_
    rintro e w6 ⟨rfl, hb6⟩
    replace V := Lib.hid (V.out.call hb6 (Nat.le_refl _))
    go_wp2
    go_ret
    exact ⟨rfl, V.out.below⟩
  · skip
    have HAB := Lib.hid ((hA.front b).2 hB)
    have HB := Lib.hid hB
    have hr3 : r.size ≤ 300 := by omega
    clear hA hB hrs
    go_enter Tryd.func6, Tryd.ntmps6
    go_wp2_with fail
    refine (tbig_any gw gh x y k A l.length cap hm _).mono ?_
    rintro e w1 ⟨rfl, hb1⟩
    rw [decide_eq_false hbig]
    replace V := Lib.hid (V.out.call hb1 (Nat.le_refl _))
    clear hb1
    have gp := V.out.bks 0 _ rfl
    dsimp only at gp
    obtain ⟨⟨pa, pb, pc, pd, pe, pf⟩, -, pz⟩ := blk6 gp
    clear gp
    go_wp2_with fail
    clear pa pb pc pd pe pf pz
    refine (tfeed_any gw gh x y k l a A cap _ (V.out.rws 0 _ rfl) hm hg (by omega) (S.below V.out.below) (T.below V.out.below) (U.below V.out.below)).mono ?_
    rintro e w2 ⟨ho, hb2⟩
    replace V := Lib.hid (V.out.call hb2 (Nat.le_refl _))
    obtain ⟨A2, cap2, rfl, hk⟩ := ho.ok HA.out HR.out HU.out (V.out.rws 0 _ rfl)
    dsimp only at hk
    replace V := Lib.hid (V.out.row (hk.rc (V.out.rws 0 _ rfl)))
    clear ho hk
    replace V := Lib.hid (V.out.box (Nat.le_refl _) #[.int .i64 uw, .int .i64 uh, .slice A2 ul.length cap2, .int .i64 ux, .int .i64 uy, .bool uk] 26)
    have gp := V.out.bks 1 _ rfl
    dsimp only at gp
    obtain ⟨⟨pa, pb, pc, pd, pe, pf⟩, -, pz⟩ := blk6 gp
    clear gp
    go_wp2_with fail
    clear pa pb pc pd pe pf pz
    refine (tfeed_any gw gh x y k l (a ++ b) A cap _ (V.out.rws 1 _ rfl) hm hg HSAB.out (S.below V.out.below) (T.below V.out.below) (U.below V.out.below)).mono ?_
    rintro e w3 ⟨ho, hb3⟩
    replace V := Lib.hid (V.out.call hb3 (Nat.le_refl _))
    obtain rfl := ho.bad2 HR.out HAB.out
    clear ho
    replace V := Lib.hid (V.out.box (Nat.le_refl _) #[.int .i64 0, .int .i64 0, .slice none 0 0, .int .i64 0, .int .i64 0, .bool false] 26)
    have gp := V.out.bks 1 _ rfl
    dsimp only at gp
    obtain ⟨⟨pa, pb, pc, pd, pe, pf⟩, -, pz⟩ := blk6 gp
    clear gp
    go_wp2_with fail
    clear pa pb pc pd pe pf pz
    refine (tfeed_any uw uh ux uy uk ul (r ++ b) A2 cap2 _ (V.out.rws 0 _ rfl) HUL.out HUW.out HSRB.out (S.below V.out.below) (T.below V.out.below) (U.below V.out.below)).mono ?_
    rintro e w4 ⟨ho, hb4⟩
    replace V := Lib.hid (V.out.call hb4 (Nat.le_refl _))
    obtain rfl := ho.bad2 HRU.out HB.out
    clear ho
    replace V := Lib.hid (V.out.box (Nat.le_refl _) #[.int .i64 0, .int .i64 0, .slice none 0 0, .int .i64 0, .int .i64 0, .bool false] 26)
    go_wp2_with fail
    refine (fed_any _ (S.below V.out.below) (T.below V.out.below) (F.below V.out.below) (U.below V.out.below)).mono ?_
    rintro e w5 ⟨rfl, hb5⟩
    replace V := Lib.hid (V.out.call hb5 (Nat.le_refl _))
    clear hb5
    have gp := V.out.bks 1 _ rfl
    dsimp only at gp
    obtain ⟨⟨pa, pb, pc, pd, pe, pf⟩, -, pz⟩ := blk6 gp
    clear gp
    have gq := V.out.bks 0 _ rfl
    dsimp only at gq
    obtain ⟨⟨qa, qb, qc, qd, qe, qf⟩, -, qz⟩ := blk6 gq
    clear gq
    go_wp2_with fail
    clear pa pb pc pd pe pf pz
    clear qa qb qc qd qe qf qz
    refine (tsame_any 0 0 0 0 false [] none none 0 0 _ (rc_nil _) (rc_nil _) (by decide)).mono ?_
    rintro e w6 ⟨rfl, hb6⟩
    replace V := Lib.hid (V.out.call hb6 (Nat.le_refl _))
    go_wp2
    go_ret
    exact ⟨rfl, V.out.below⟩
end Go.Proofs.YtcakklafjfobeaaDoor
