/- What lasts over calls and blocks that are made; the statements' example of terminals. -/
import Derived.Test.YtkkioajmfkcloaaDoorTmG
import Derived.Test.YtkkioajmfkcloaaDoorMWc
import Derived.BigGuardPart
set_option linter.unusedVariables false
namespace Go.Proofs.YtkkioajmfkcloaaDoor
open Go.RowKit Gl L Wd Gd Tm Vt
namespace Tm
def m0 : List (Int × Int) := [(32, 0), (32, 0), (32, 0), (32, 0)]
def ma : List (Int × Int) := [(97, 0), (98, 0), (99, 0), (32, 0)]
def mb : List (Int × Int) := [(97, 0), (98, 0), (99, 0), (100, 0)]
def mc : List (Int × Int) := [(99, 0), (100, 0), (101, 0), (32, 0)]
def mn : List (Int × Int) := [(99, 0), (32, 0), (101, 0), (32, 0)]
def ms : List (Int × Int) := [(99, 0), (100, 0), (32, 0)]
def em : List Cmd := [(1, 0, 0, 97), (1, 0, 0, 98), (1, 0, 0, 99)]
theorem v0 : nwT 2 2 = ⟨2, 2, m0, 0, 0, false⟩ := by decide +kernel
theorem va : feedT ⟨2, 2, m0, 0, 0, false⟩ em = ⟨2, 2, ma, 1, 1, false⟩ := by decide +kernel
theorem vb : doT ⟨2, 2, ma, 1, 1, false⟩ (1, 0, 0, 100) = ⟨2, 2, mb, 1, 1, true⟩ := by decide +kernel
theorem vc : doT ⟨2, 2, mb, 1, 1, true⟩ (1, 0, 0, 101) = ⟨2, 2, mc, 1, 1, false⟩ := by decide +kernel
theorem vd : doT ⟨2, 2, mc, 1, 1, false⟩ (3, 80, 0, 0) = ⟨2, 2, mc, 1, 0, false⟩ := by decide +kernel
theorem vn : doT ⟨2, 2, mc, 1, 0, false⟩ (7, 0, 0, 0) = ⟨2, 2, mn, 1, 0, false⟩ := by decide +kernel
theorem vs : szT ⟨2, 2, mc, 1, 1, false⟩ 3 1 = ⟨3, 1, ms, 1, 0, false⟩ := by decide +kernel
theorem r0 : rt ⟨2, 2, m0, 0, 0, false⟩ := by decide +kernel
theorem ra : rt ⟨2, 2, ma, 1, 1, false⟩ := by decide +kernel
theorem rb : rt ⟨2, 2, mb, 1, 1, true⟩ := by decide +kernel
theorem rc : rt ⟨2, 2, mc, 1, 1, false⟩ := by decide +kernel
theorem rz : ¬ rt ⟨0, 0, [], 0, 0, false⟩ := by decide +kernel
theorem rd : rt ⟨2, 2, mc, 1, 0, false⟩ := by decide +kernel
theorem A1 : AllR ⟨#[97, 98, 99, 195]⟩ em ⟨#[195]⟩ := ⟨by decide, by decide +kernel, .inr (moreS_more _ (by decide) (by decide +kernel))⟩
theorem n5' : nxS ⟨#[1]⟩ = (d0, ⟨#[]⟩, 2) := by decide +kernel
theorem A2 : AllBad ⟨#[1]⟩ := by
  refine ⟨[], ⟨#[1]⟩, by decide, by decide +kernel, ?_⟩
  have h := nxS_is ⟨#[1]⟩
  rw [n5'] at h
  rcases h with ⟨h, _⟩ | ⟨_, _, ⟨h, _⟩ | ⟨h, _⟩ | ⟨_, h⟩⟩
  · exact absurd h (by decide)
  · exact absurd h (by decide)
  · exact absurd h (by decide)
  · exact h
end Tm
/-- What lasts: all that was there ahead, blocks that were made, and rows. -/
structure Lv (B : Nat) (W w : World) (Bs : List (Nat × Array Value × TypeId)) (Rs : List (Value × List (Int × Int))) : Prop where
  below : Below B W w
  bks : ∀ (i : Nat) (p : Nat × Array Value × TypeId), Bs[i]? = some p → w.heap[p.1]? = some (.cells p.2.1 p.2.2 (0, 0))
  rws : ∀ (i : Nat) (p : Value × List (Int × Int)), Rs[i]? = some p → Rc w p.1 p.2
theorem Lv.start (W : World) : Lv W.heap.size W W [] [] := ⟨Below.refl _ _, fun i p h => by simp at h, fun i p h => by simp at h⟩
theorem Lv.call {B : Nat} {W w w' : World} {Bs : List (Nat × Array Value × TypeId)} {Rs : List (Value × List (Int × Int))} (h : Lv B W w Bs Rs) (hb : Below w.heap.size w w') (hB : B ≤ W.heap.size) : Lv B W w' Bs Rs :=
  ⟨h.below.trans (hb.mono (Nat.le_trans hB h.below.size)), fun i p hp => carry hb (h.bks i p hp), fun i p hp => (h.rws i p hp).below hb⟩
theorem Lv.row {B : Nat} {W w : World} {Bs : List (Nat × Array Value × TypeId)} {Rs : List (Value × List (Int × Int))} (h : Lv B W w Bs Rs) {v : Value} {l : List (Int × Int)} (hr : Rc w v l) : Lv B W w Bs ((v, l) :: Rs) :=
  ⟨h.below, h.bks, fun i p hp => by
    cases i with
    | zero => simp at hp; subst hp; exact hr
    | succ i => exact h.rws i p (by simpa using hp)⟩
theorem Lv.box {B : Nat} {W w : World} {Bs : List (Nat × Array Value × TypeId)} {Rs : List (Value × List (Int × Int))} (h : Lv B W w Bs Rs) (hB : B ≤ W.heap.size) (cs : Array Value) (t : TypeId) : Lv B W (w.alloc (.cells cs t)) ((w.heap.size, cs, t) :: Bs) Rs :=
  ⟨h.below.alloc (Nat.le_trans hB h.below.size) _, fun i p hp => by
    cases i with
    | zero => simp at hp; subst hp; exact heap_alloc_new w _
    | succ i => exact carryA _ (h.bks i p (by simpa using hp)), fun i p hp => (h.rws i p hp).alloc _⟩
theorem lit_mc (w : World) (n : Nat) (hn : w.heap.size = n) : Rw (w.alloc (.cells #[.int .i32 99, .int .i64 0, .int .i32 100, .int .i64 0, .int .i32 101, .int .i64 0, .int .i32 32, .int .i64 0] 48)) (.slice (some ⟨n, 0, none⟩) 4 4) 2 mc.length (flat mc) := by
  subst hn
  exact Rw.lit w #[.int .i32 99, .int .i64 0, .int .i32 100, .int .i64 0, .int .i32 101, .int .i64 0, .int .i32 32, .int .i64 0] 48 2 4 4 (by simp)
theorem lit_mn (w : World) (n : Nat) (hn : w.heap.size = n) : Rw (w.alloc (.cells #[.int .i32 99, .int .i64 0, .int .i32 32, .int .i64 0, .int .i32 101, .int .i64 0, .int .i32 32, .int .i64 0] 48)) (.slice (some ⟨n, 0, none⟩) 4 4) 2 mn.length (flat mn) := by
  subst hn
  exact Rw.lit w #[.int .i32 99, .int .i64 0, .int .i32 32, .int .i64 0, .int .i32 101, .int .i64 0, .int .i32 32, .int .i64 0] 48 2 4 4 (by simp)
theorem lit_ms (w : World) (n : Nat) (hn : w.heap.size = n) : Rw (w.alloc (.cells #[.int .i32 99, .int .i64 0, .int .i32 100, .int .i64 0, .int .i32 32, .int .i64 0] 48)) (.slice (some ⟨n, 0, none⟩) 3 3) 2 ms.length (flat ms) := by
  subst hn
  exact Rw.lit w #[.int .i32 99, .int .i64 0, .int .i32 100, .int .i64 0, .int .i32 32, .int .i64 0] 48 2 3 3 (by simp)
set_option maxRecDepth 100000 in
set_option maxHeartbeats 16000000 in
theorem fed_any (w : World) (S : Spans w 2) (T : Blk w 0) (F : Forms w 1) (U : Tabs w 3 4) : Calls Tryd.prog 8 #[] w fun e w' => e = .returned (.bool true) ∧ Below w.heap.size w w' := by
  have V := Lib.hid (Lv.start w)
  go_enter Tryd.func8, Tryd.ntmps8
  simp only [List.append]
  go_wp2_with fail
  refine (tnew_any 2 2 _ (T.below V.out.below)).mono ?_
  rintro e w1 ⟨ho, hb1⟩
  rw [v0] at ho
  replace V := Lib.hid (V.out.call hb1 (Nat.le_refl _))
  obtain ⟨A0, cap0, rfl, hk⟩ := ho.is (by decide) (rc_nil _)
  dsimp only at hk
  replace V := Lib.hid (V.out.row (hk.rc (rc_nil _)))
  clear ho hb1 hk
  replace V := Lib.hid (V.out.box (Nat.le_refl _) #[.int .i64 2, .int .i64 2, .slice A0 m0.length cap0, .int .i64 0, .int .i64 0, .bool false] 26)
  have gp := V.out.bks 0 _ rfl
  dsimp only at gp
  obtain ⟨⟨pa, pb, pc, pd, pe, pf⟩, -, pz⟩ := blk6 gp
  clear gp
  go_wp2_with fail
  clear pa pb pc pd pe pf pz
  refine (tfeed_any 2 2 0 0 false m0 ⟨#[97, 98, 99, 195]⟩ A0 cap0 _ (V.out.rws 0 _ rfl) (by decide +kernel) (by decide) (by decide +kernel) (S.below V.out.below) (T.below V.out.below) (U.below V.out.below)).mono ?_
  rintro e w2 ⟨ho, hb2⟩
  rcases ho with ⟨hn, _⟩ | ⟨_, hn, _⟩ | ⟨m, r, v, _, hm, rfl, hk⟩
  · exact absurd r0 hn
  · exact (A1.not_bad hn).elim
  obtain ⟨rfl, rfl⟩ := A1.one hm
  rw [va] at hk ⊢
  replace V := Lib.hid (V.out.call hb2 (Nat.le_refl _))
  have hr := hk.rc (V.out.rws 0 _ rfl)
  obtain ⟨A1, cap1, rfl, hc, _⟩ := id hr
  unfold tv
  replace V := Lib.hid (V.out.row hr)
  clear hb2 hk hr hm hc
  replace V := Lib.hid (V.out.box (Nat.le_refl _) #[.int .i64 2, .int .i64 2, .slice A1 ma.length cap1, .int .i64 1, .int .i64 1, .bool false] 26)
  have gp := V.out.bks 0 _ rfl
  dsimp only at gp
  obtain ⟨⟨pa, pb, pc, pd, pe, pf⟩, -, pz⟩ := blk6 gp
  clear gp
  go_wp2_with fail
  clear pa pb pc pd pe pf pz
  refine (tdo_any 2 2 1 1 1 0 0 100 false ma A1 cap1 _ (V.out.rws 0 _ rfl) (by decide +kernel) (by decide) (S.below V.out.below) (T.below V.out.below) (F.below V.out.below)).mono ?_
  rintro e w3 ⟨ho, hb3⟩
  rw [vb] at ho
  replace V := Lib.hid (V.out.call hb3 (Nat.le_refl _))
  obtain ⟨A3, cap3, rfl, hk⟩ := ho.is (by rw [decide_eq_true ra]; rfl) (V.out.rws 0 _ rfl)
  dsimp only at hk
  replace V := Lib.hid (V.out.row (hk.rc (V.out.rws 0 _ rfl)))
  clear ho hb3 hk
  replace V := Lib.hid (V.out.box (Nat.le_refl _) #[.int .i64 2, .int .i64 2, .slice A3 mb.length cap3, .int .i64 1, .int .i64 1, .bool true] 26)
  have gp := V.out.bks 0 _ rfl
  dsimp only at gp
  obtain ⟨⟨pa, pb, pc, pd, pe, pf⟩, -, pz⟩ := blk6 gp
  clear gp
  go_wp2_with fail
  clear pa pb pc pd pe pf pz
  refine (tdo_any 2 2 1 1 1 0 0 101 true mb A3 cap3 _ (V.out.rws 0 _ rfl) (by decide +kernel) (by decide) (S.below V.out.below) (T.below V.out.below) (F.below V.out.below)).mono ?_
  rintro e w4 ⟨ho, hb4⟩
  rw [vc] at ho
  replace V := Lib.hid (V.out.call hb4 (Nat.le_refl _))
  obtain ⟨A4, cap4, rfl, hk⟩ := ho.is (by rw [decide_eq_true rb]; rfl) (V.out.rws 0 _ rfl)
  dsimp only at hk
  replace V := Lib.hid (V.out.row (hk.rc (V.out.rws 0 _ rfl)))
  clear ho hb4 hk
  replace V := Lib.hid (V.out.box (Nat.le_refl _) #[.int .i64 2, .int .i64 2, .slice A4 mc.length cap4, .int .i64 1, .int .i64 1, .bool false] 26)
  have gp := V.out.bks 0 _ rfl
  dsimp only at gp
  obtain ⟨⟨pa, pb, pc, pd, pe, pf⟩, -, pz⟩ := blk6 gp
  clear gp
  go_wp2_with fail
  clear pa pb pc pd pe pf pz
  refine (tdo_any 2 2 1 1 3 80 0 0 false mc A4 cap4 _ (V.out.rws 0 _ rfl) (by decide +kernel) (by decide) (S.below V.out.below) (T.below V.out.below) (F.below V.out.below)).mono ?_
  rintro e w5 ⟨ho, hb5⟩
  rw [vd] at ho
  replace V := Lib.hid (V.out.call hb5 (Nat.le_refl _))
  obtain ⟨A5, cap5, rfl, hk⟩ := ho.is (by rw [decide_eq_true rc]; rfl) (V.out.rws 0 _ rfl)
  dsimp only at hk
  replace V := Lib.hid (V.out.row (hk.rc (V.out.rws 0 _ rfl)))
  clear ho hb5 hk
  replace V := Lib.hid (V.out.box (Nat.le_refl _) #[.int .i64 2, .int .i64 2, .slice A5 mc.length cap5, .int .i64 1, .int .i64 0, .bool false] 26)
  have gp := V.out.bks 0 _ rfl
  dsimp only at gp
  obtain ⟨⟨pa, pb, pc, pd, pe, pf⟩, -, pz⟩ := blk6 gp
  clear gp
  go_wp2_with fail
  clear pa pb pc pd pe pf pz
  refine (tdo_any 2 2 1 0 7 0 0 0 false mc A5 cap5 _ (V.out.rws 0 _ rfl) (by decide +kernel) (by decide) (S.below V.out.below) (T.below V.out.below) (F.below V.out.below)).mono ?_
  rintro e w6 ⟨ho, hb6⟩
  rw [vn] at ho
  replace V := Lib.hid (V.out.call hb6 (Nat.le_refl _))
  obtain ⟨A6, cap6, rfl, hk⟩ := ho.is (by rw [decide_eq_true rd]; rfl) (V.out.rws 0 _ rfl)
  dsimp only at hk
  replace V := Lib.hid (V.out.row (hk.rc (V.out.rws 0 _ rfl)))
  clear ho hb6 hk
  replace V := Lib.hid (V.out.box (Nat.le_refl _) #[.int .i64 2, .int .i64 2, .slice A6 mn.length cap6, .int .i64 1, .int .i64 0, .bool false] 26)
  have gp := V.out.bks 5 _ rfl
  dsimp only at gp
  obtain ⟨⟨pa, pb, pc, pd, pe, pf⟩, -, pz⟩ := blk6 gp
  clear gp
  go_wp2_with fail
  clear pa pb pc pd pe pf pz
  refine (tdo_any 2 2 0 0 0 0 0 0 false m0 A0 cap0 _ (V.out.rws 5 _ rfl) (by decide +kernel) (by decide) (S.below V.out.below) (T.below V.out.below) (F.below V.out.below)).mono ?_
  rintro e w7 ⟨ho, hb7⟩
  obtain rfl := ho.isnt rfl
  replace V := Lib.hid (V.out.call hb7 (Nat.le_refl _))
  clear ho hb7
  replace V := Lib.hid (V.out.box (Nat.le_refl _) #[.int .i64 0, .int .i64 0, .slice none 0 0, .int .i64 0, .int .i64 0, .bool false] 26)
  have gp := V.out.bks 6 _ rfl
  dsimp only at gp
  obtain ⟨⟨pa, pb, pc, pd, pe, pf⟩, -, pz⟩ := blk6 gp
  clear gp
  go_wp2_with fail
  clear pa pb pc pd pe pf pz
  refine (tfeed_any 2 2 0 0 false m0 ⟨#[1]⟩ A0 cap0 _ (V.out.rws 5 _ rfl) (by decide +kernel) (by decide) (by decide +kernel) (S.below V.out.below) (T.below V.out.below) (U.below V.out.below)).mono ?_
  rintro e w8 ⟨ho, hb8⟩
  have he : e = .returned (.tuple #[zt, .string ⟨#[]⟩, .int .i64 2]) := by
    rcases ho with ⟨hn, _⟩ | ⟨_, _, h⟩ | ⟨m, r, v, _, hm, _, _⟩
    · exact absurd r0 hn
    · exact h
    · exact (hm.not_bad A2).elim
  subst he
  clear ho
  unfold zt
  replace V := Lib.hid (V.out.call hb8 (Nat.le_refl _))
  clear hb8
  replace V := Lib.hid (V.out.box (Nat.le_refl _) #[.int .i64 0, .int .i64 0, .slice none 0 0, .int .i64 0, .int .i64 0, .bool false] 26)
  have gp := V.out.bks 4 _ rfl
  dsimp only at gp
  obtain ⟨⟨pa, pb, pc, pd, pe, pf⟩, -, pz⟩ := blk6 gp
  clear gp
  go_wp2_with fail
  clear pa pb pc pd pe pf pz
  refine (tsize_any 2 2 1 1 3 1 false mc A4 cap4 _ (V.out.rws 2 _ rfl) (by decide +kernel) (by decide) (S.below V.out.below) (T.below V.out.below)).mono ?_
  rintro e w9 ⟨ho, hb9⟩
  rw [vs] at ho
  replace V := Lib.hid (V.out.call hb9 (Nat.le_refl _))
  obtain ⟨A9, cap9, rfl, hk⟩ := ho.is (by rw [decide_eq_true rc]; rfl) (rc_nil _)
  dsimp only at hk
  replace V := Lib.hid (V.out.row (hk.rc (rc_nil _)))
  clear ho hb9 hk
  replace V := Lib.hid (V.out.box (Nat.le_refl _) #[.int .i64 3, .int .i64 1, .slice A9 ms.length cap9, .int .i64 1, .int .i64 0, .bool false] 26)
  replace V := Lib.hid (V.out.box (Nat.le_refl _) #[.int .i32 32, .int .i64 0] 48)
  have gp := V.out.bks 8 _ rfl
  dsimp only at gp
  obtain ⟨⟨pa, pb, pc, pd, pe, pf⟩, -, pz⟩ := blk6 gp
  clear gp
  have gq := V.out.bks 7 _ rfl
  dsimp only at gq
  obtain ⟨⟨qa, qb, qc, qd, qe, qf⟩, -, qz⟩ := blk6 gq
  clear gq
  have gr := V.out.bks 6 _ rfl
  dsimp only at gr
  obtain ⟨⟨ra, rb, rc, rd, re, rf⟩, -, rz⟩ := blk6 gr
  clear gr
  go_wp2_with fail
  replace V := Lib.hid (V.out.box (Nat.le_refl _) #[.int .i32 99, .int .i64 0, .int .i32 100, .int .i64 0, .int .i32 101, .int .i64 0, .int .i32 32, .int .i64 0] 48)
  refine (same2_any _ _ mc mc _ (V.out.rws 3 _ rfl).rw (lit_mc _ _ (by first | rfl | simp)) (by decide +kernel) (by decide +kernel)).mono ?_
  rintro e w10 ⟨rfl, hb10⟩
  rw [decide_eq_true (rfl : mc = mc)]
  replace V := Lib.hid (V.out.call hb10 (Nat.le_refl _))
  clear hb10
  clear pa pb pc pd pe pf pz
  clear qa qb qc qd qe qf qz
  clear ra rb rc rd re rf rz
  have gp := V.out.bks 6 _ rfl
  dsimp only at gp
  obtain ⟨⟨pa, pb, pc, pd, pe, pf⟩, -, pz⟩ := blk6 gp
  clear gp
  have gq := V.out.bks 5 _ rfl
  dsimp only at gq
  obtain ⟨⟨qa, qb, qc, qd, qe, qf⟩, -, qz⟩ := blk6 gq
  clear gq
  have gu := V.out.bks 1 _ rfl
  dsimp only at gu
  rw [one_size] at gu
  have u0 := cell_of_row _ _ 0 _ _ (0, 0) gu
  have u1 := cell_of_row _ _ 1 _ _ (0, 0) gu
  have uz := lt_of_block gu
  clear gu
  go_wp2_with fail
  replace V := Lib.hid (V.out.box (Nat.le_refl _) #[.int .i32 99, .int .i64 0, .int .i32 32, .int .i64 0, .int .i32 101, .int .i64 0, .int .i32 32, .int .i64 0] 48)
  refine (same2_any _ _ mn mn _ (V.out.rws 1 _ rfl).rw (lit_mn _ _ (by first | rfl | simp)) (by decide +kernel) (by decide +kernel)).mono ?_
  rintro e w11 ⟨rfl, hb11⟩
  rw [decide_eq_true (rfl : mn = mn)]
  replace V := Lib.hid (V.out.call hb11 (Nat.le_refl _))
  clear hb11
  clear pa pb pc pd pe pf pz
  clear qa qb qc qd qe qf qz
  clear u0 u1 uz
  have gp := V.out.bks 3 _ rfl
  dsimp only at gp
  obtain ⟨⟨pa, pb, pc, pd, pe, pf⟩, -, pz⟩ := blk6 gp
  clear gp
  have gu := V.out.bks 2 _ rfl
  dsimp only at gu
  rw [one_size] at gu
  have u0 := cell_of_row _ _ 0 _ _ (0, 0) gu
  have u1 := cell_of_row _ _ 1 _ _ (0, 0) gu
  have uz := lt_of_block gu
  clear gu
  go_wp2_with fail
  replace V := Lib.hid (V.out.box (Nat.le_refl _) #[.int .i32 99, .int .i64 0, .int .i32 100, .int .i64 0, .int .i32 32, .int .i64 0] 48)
  refine (same2_any _ _ ms ms _ (V.out.rws 0 _ rfl).rw (lit_ms _ _ (by first | rfl | simp)) (by decide +kernel) (by decide +kernel)).mono ?_
  rintro e w12 ⟨rfl, hb12⟩
  rw [decide_eq_true (rfl : ms = ms)]
  replace V := Lib.hid (V.out.call hb12 (Nat.le_refl _))
  clear hb12
  clear pa pb pc pd pe pf pz
  clear u0 u1 uz
  have gp := V.out.bks 9 _ rfl
  dsimp only at gp
  obtain ⟨⟨pa, pb, pc, pd, pe, pf⟩, -, pz⟩ := blk6 gp
  clear gp
  go_wp2_with fail
  clear pa pb pc pd pe pf pz
  refine (tis_any 2 2 1 1 false mc A4 cap4 _ (V.out.rws 3 _ rfl) (by decide +kernel) (by decide) (S.below V.out.below)).mono ?_
  rintro e w13 ⟨rfl, hb13⟩
  rw [decide_eq_true rc]
  replace V := Lib.hid (V.out.call hb13 (Nat.le_refl _))
  clear hb13
  go_wp2_with fail
  refine (tis_any 0 0 0 0 false [] none 0 _ (rc_nil _) (by decide +kernel) (by decide) (S.below V.out.below)).mono ?_
  rintro e w14 ⟨rfl, hb14⟩
  rw [decide_eq_false rz]
  replace V := Lib.hid (V.out.call hb14 (Nat.le_refl _))
  go_wp2
  go_ret
  exact ⟨rfl, V.out.below⟩
end Go.Proofs.YtkkioajmfkcloaaDoor
