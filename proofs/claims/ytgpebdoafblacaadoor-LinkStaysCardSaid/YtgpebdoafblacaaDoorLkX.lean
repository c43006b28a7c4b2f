/- Links: LinkSends, LinkParts. -/
import Derived.Test.YtgpebdoafblacaaDoorLkW
import Derived.Test.YtgpebdoafblacaaDoorLkT
import Derived.Test.YtgpebdoafblacaaDoorLkU
import Derived.Test.YtgpebdoafblacaaDoorLkV
import Derived.BigGuardPart
import Derived.BigQuiet
import Derived.Deep.QuietTactic
import Derived.Deep.RegionHeld3
set_option linter.unusedVariables false
namespace Go.Proofs.YtgpebdoafblacaaDoor
open Go.RowKit Go.PlainAid Gl L Vt Lk
theorem sdN_len (n : Nat) (k : Lnk) : (sdN n k).2.l.length ≤ k.l.length := by
  induction n generalizing k with
  | zero => exact Nat.le_refl _
  | succ n ih =>
    cases hk : k.l with
    | nil => rw [sd_nil _ _ hk, hk]; exact Nat.le_refl _
    | cons c t =>
      by_cases hp : k.pad = 0
      · rw [sd_one _ _ _ _ hk hp]
        refine Nat.le_trans (ih _) ?_
        unfold one
        split
        · show t.length ≤ _; simp
        · show k.l.length ≤ _; rw [hk]; exact Nat.le_refl _
      · rw [sd_pad _ _ hp, hk]; exact Nat.le_refl _
theorem sd_form (k : Lnk) (g : Int) : ∃ bs l s p, sd k g = (bs, ⟨k.room, l, s, p, k.off⟩) ∧ l.length ≤ k.l.length := by
  have h : (sd k g).2.room = k.room ∧ (sd k g).2.off = k.off ∧ (sd k g).2.l.length ≤ k.l.length := by
    unfold sd
    split
    · exact ⟨(sd_off _ _).2, (sd_off _ _).1, sdN_len _ _⟩
    · exact ⟨rfl, rfl, Nat.le_refl _⟩
  obtain ⟨h1, h2, h3⟩ := h
  refine ⟨(sd k g).1, (sd k g).2.l, (sd k g).2.sent, (sd k g).2.pad, ?_, h3⟩
  rw [← h1, ← h2]
theorem ofr_form (k : Lnk) (c : Cmd) : ∃ r l s p o, ofr k c = ⟨r, l, s, p, o⟩ ∧ l.length ≤ k.l.length + 1 := by
  refine ⟨(ofr k c).room, (ofr k c).l, (ofr k c).sent, (ofr k c).pad, (ofr k c).off, rfl, ?_⟩
  unfold ofr
  split
  · simp
  · exact Nat.zero_le _
theorem nw_form (r : Int) : nw r = ⟨(nw r).room, [], 0, 0, false⟩ := by unfold nw; split <;> rfl
set_option maxRecDepth 100000 in
set_option maxHeartbeats 16000000 in
theorem lsends_law (room sent pad : Int) (off : Bool) (g : Int) (l : List Cmd) (A : Option Addr) (cap : Nat) (w : World) (F : Forms w 0) (hr : Rk w (.slice A l.length cap) l) (hgb : -9223372036854775808 ≤ g ∧ g ≤ 9223372036854775807) :
    Calls Tryd.prog 4 #[.agg #[.int .i64 room, .slice A l.length cap, .int .i64 sent, .int .i64 pad, .bool off], .int .i64 g] w fun e w' => e = .returned (.bool true) ∧ Below w.heap.size w w' := by
  have V := Lib.hid ((La.start w).box #[.int .i64 room, .slice A l.length cap, .int .i64 sent, .int .i64 pad, .bool off] 24)
  by_cases hbig : 200 < l.length
  case pos =>
    have hB := decide_eq_true hbig
    clear hbig
    go_enter Tryd.func4, Tryd.ntmps4
    go_wp2_with fail
    refine (lkbig_any room sent pad off A l.length cap _).mono ?_
    rintro e w1 ⟨rfl, hb⟩
    rw [hB]
    replace V := Lib.hid (V.out.call hb)
    clear hb
    go_wp2
    go_ret
    exact ⟨rfl, V.out.below⟩
  have hl : l.length ≤ 200 := by omega
  have hl2 : l.length ≤ 100000 := by omega
  have hB := decide_eq_false hbig
  clear hbig
  obtain ⟨bs, l1, s1, p1, hsd, hl1⟩ := sd_form ⟨room, l, sent, pad, off⟩ g
  dsimp only at hsd hl1
  have hl1' : l1.length ≤ 100000 := by omega
  have HSD := Lib.hid hsd
  clear hsd
  replace V := Lib.hid (V.out.row (hr.below V.out.below))
  clear hr
  go_enter Tryd.func4, Tryd.ntmps4
  go_wp2_with fail
  refine (lkbig_any room sent pad off A l.length cap _).mono ?_
  rintro e w1 ⟨rfl, hb⟩
  rw [hB]
  replace V := Lib.hid (V.out.call hb)
  clear hb
  have gp := V.out.at 1 rfl
  obtain ⟨⟨pa, pb, pc, pd, pe⟩, -, pz⟩ := blk5 gp
  clear gp
  go_wp2_with fail
  clear pa pb pc pd pe pz
  have hrow := V.out.at 0 rfl
  refine (lsend_any room sent pad off g l A cap _ (F.below V.out.below) hrow hl2).mono ?_
  rintro e w2 ⟨ho, hb⟩
  rw [HSD.out] at ho
  dsimp only at ho
  obtain ⟨A2, q2, rfl, hk⟩ := ho
  replace hk := hk.below hb
  clear hrow
  replace V := Lib.hid (V.out.call hb)
  clear hb
  replace V := Lib.hid (V.out.row (hk))
  clear hk
  replace V := Lib.hid (V.out.box #[.int .i64 room, .slice A2 l1.length q2, .int .i64 s1, .int .i64 p1, .bool off] 24)
  have gp := V.out.at 3 rfl
  obtain ⟨⟨pa, pb, pc, pd, pe⟩, -, pz⟩ := blk5 gp
  clear gp
  go_wp2_with fail
  clear pa pb pc pd pe pz
  have hrow := V.out.at 2 rfl
  refine (rlsend_any room sent pad off g hgb l A cap _ hrow hl2).mono ?_
  rintro e w3 ⟨ho, hb⟩
  rw [HSD.out] at ho
  dsimp only at ho
  obtain ⟨A3, q3, rfl, hk⟩ := ho
  replace hk := hk.below hb
  clear hrow
  replace V := Lib.hid (V.out.call hb)
  clear hb
  replace V := Lib.hid (V.out.row (hk))
  clear hk
  replace V := Lib.hid (V.out.box #[.int .i64 room, .slice A3 l1.length q3, .int .i64 s1, .int .i64 p1, .bool off] 24)
  have gp := V.out.at 2 rfl
  obtain ⟨⟨xa, xb, xc, xd, xe⟩, -, xz⟩ := blk5 gp
  clear gp
  have gp := V.out.at 0 rfl
  obtain ⟨⟨ya, yb, yc, yd, ye⟩, -, yz⟩ := blk5 gp
  clear gp
  go_wp2_with fail
  clear xa xb xc xd xe xz ya yb yc yd ye yz
  refine (linked_any _ (F.below V.out.below)).mono ?_
  rintro e w4 ⟨rfl, hb⟩
  replace V := Lib.hid (V.out.call hb)
  clear hb
  have gp := V.out.at 2 rfl
  obtain ⟨⟨xa, xb, xc, xd, xe⟩, -, xz⟩ := blk5 gp
  clear gp
  have gp := V.out.at 0 rfl
  obtain ⟨⟨ya, yb, yc, yd, ye⟩, -, yz⟩ := blk5 gp
  clear gp
  go_wp2_with fail
  clear xa xb xc xd xe xz ya yb yc yd ye yz
  refine (lksame_any room s1 p1 room s1 p1 off off l1 l1 A2 A3 q2 q3 _ (V.out.at 3 rfl) (V.out.at 1 rfl) hl1' hl1').mono ?_
  rintro e w5 ⟨rfl, hb⟩
  rw [decide_eq_true rfl]
  replace V := Lib.hid (V.out.call hb)
  clear hb
  go_wp2
  go_ret
  exact ⟨rfl, V.out.below⟩
set_option maxRecDepth 100000 in
set_option maxHeartbeats 16000000 in
theorem lparts_law (room sent pad : Int) (off : Bool) (m n : Int) (l : List Cmd) (A : Option Addr) (cap : Nat) (w : World) (F : Forms w 0) (hr : Rk w (.slice A l.length cap) l) :
    Calls Tryd.prog 8 #[.agg #[.int .i64 room, .slice A l.length cap, .int .i64 sent, .int .i64 pad, .bool off], .int .i64 m, .int .i64 n] w fun e w' => e = .returned (.bool true) ∧ Below w.heap.size w w' := by
  have V := Lib.hid ((La.start w).box #[.int .i64 room, .slice A l.length cap, .int .i64 sent, .int .i64 pad, .bool off] 24)
  by_cases hbig : 200 < l.length
  case pos =>
    have hB := decide_eq_true hbig
    clear hbig
    go_enter Tryd.func8, Tryd.ntmps8
    go_wp2_with fail
    refine (lkbig_any room sent pad off A l.length cap _).mono ?_
    rintro e w1 ⟨rfl, hb⟩
    rw [hB]
    replace V := Lib.hid (V.out.call hb)
    clear hb
    go_wp2_with fail
    refine (linked_any _ (F.below V.out.below)).mono ?_
    rintro e w2 ⟨rfl, hb⟩
    replace V := Lib.hid (V.out.call hb)
    clear hb
    go_wp2
    go_ret
    exact ⟨rfl, V.out.below⟩
  have hl : l.length ≤ 200 := by omega
  have hl2 : l.length ≤ 100000 := by omega
  have hB := decide_eq_false hbig
  clear hbig
  by_cases h1 : m < 0
  case pos =>
    have bh1 := decide_eq_true h1
    go_enter Tryd.func8, Tryd.ntmps8
    go_wp2_with fail
    refine (lkbig_any room sent pad off A l.length cap _).mono ?_
    rintro e w1 ⟨rfl, hb⟩
    rw [hB]
    replace V := Lib.hid (V.out.call hb)
    clear hb
    go_wp2_with fail
    refine (linked_any _ (F.below V.out.below)).mono ?_
    rintro e w2 ⟨rfl, hb⟩
    replace V := Lib.hid (V.out.call hb)
    clear hb
    go_wp2
    go_ret
    exact ⟨rfl, V.out.below⟩
  by_cases h2 : n < 0
  case pos =>
    have bh2 := decide_eq_true h2
    have ch1 := decide_eq_false h1
    go_enter Tryd.func8, Tryd.ntmps8
    go_wp2_with fail
    refine (lkbig_any room sent pad off A l.length cap _).mono ?_
    rintro e w1 ⟨rfl, hb⟩
    rw [hB]
    replace V := Lib.hid (V.out.call hb)
    clear hb
    go_wp2_with fail
    refine (linked_any _ (F.below V.out.below)).mono ?_
    rintro e w2 ⟨rfl, hb⟩
    replace V := Lib.hid (V.out.call hb)
    clear hb
    go_wp2
    go_ret
    exact ⟨rfl, V.out.below⟩
  by_cases h3 : 1000 < m
  case pos =>
    have bh3 := decide_eq_true h3
    have ch1 := decide_eq_false h1
    have ch2 := decide_eq_false h2
    go_enter Tryd.func8, Tryd.ntmps8
    go_wp2_with fail
    refine (lkbig_any room sent pad off A l.length cap _).mono ?_
    rintro e w1 ⟨rfl, hb⟩
    rw [hB]
    replace V := Lib.hid (V.out.call hb)
    clear hb
    go_wp2_with fail
    refine (linked_any _ (F.below V.out.below)).mono ?_
    rintro e w2 ⟨rfl, hb⟩
    replace V := Lib.hid (V.out.call hb)
    clear hb
    go_wp2
    go_ret
    exact ⟨rfl, V.out.below⟩
  by_cases h4 : 1000 < n
  case pos =>
    have bh4 := decide_eq_true h4
    have ch1 := decide_eq_false h1
    have ch2 := decide_eq_false h2
    have ch3 := decide_eq_false h3
    go_enter Tryd.func8, Tryd.ntmps8
    go_wp2_with fail
    refine (lkbig_any room sent pad off A l.length cap _).mono ?_
    rintro e w1 ⟨rfl, hb⟩
    rw [hB]
    replace V := Lib.hid (V.out.call hb)
    clear hb
    go_wp2_with fail
    refine (linked_any _ (F.below V.out.below)).mono ?_
    rintro e w2 ⟨rfl, hb⟩
    replace V := Lib.hid (V.out.call hb)
    clear hb
    go_wp2
    go_ret
    exact ⟨rfl, V.out.below⟩
  have b1 := decide_eq_false h1
  have b2 := decide_eq_false h2
  have b3 := decide_eq_false h3
  have b4 := decide_eq_false h4
  have hm0 : 0 ≤ m := by omega
  have hn0 : 0 ≤ n := by omega
  have hi := IntWalk.i64_in (m + n) (by omega)
  obtain ⟨bs, l1, s1, p1, hsd, hl1⟩ := sd_form ⟨room, l, sent, pad, off⟩ m
  dsimp only at hsd hl1
  obtain ⟨bt', l2, s2, p2, hsd2, hl2'⟩ := sd_form ⟨room, l1, s1, p1, off⟩ n
  dsimp only at hsd2 hl2'
  have HP := send_parts ⟨room, l, sent, pad, off⟩ m n hm0 hn0
  rw [hsd] at HP
  dsimp only at HP
  rw [hsd2] at HP
  dsimp only at HP
  have HSD := Lib.hid hsd
  have HSD2 := Lib.hid hsd2
  have HSD3 : Hid (sd ⟨room, l, sent, pad, off⟩ (m + n) = (bs ++ bt', ⟨room, l2, s2, p2, off⟩)) := Lib.hid (Prod.ext HP.1 HP.2)
  have hbs : (bs ++ bt').size ≤ 48 := by
    have h := send_rs ⟨room, l, sent, pad, off⟩ (m + n)
    rw [HSD3.out] at h
    have h2 := rs_le ⟨room, l, sent, pad, off⟩
    rw [h, size_app] at h2
    dsimp only at h2
    omega
  rw [size_app] at hbs
  have hl1' : l1.length ≤ 100000 := by omega
  have hl2'' : l2.length ≤ 100000 := by omega
  clear hsd hsd2 HP
  replace V := Lib.hid (V.out.row (hr.below V.out.below))
  clear hr
  go_enter Tryd.func8, Tryd.ntmps8
  go_wp2_with fail
  refine (lkbig_any room sent pad off A l.length cap _).mono ?_
  rintro e w1 ⟨rfl, hb⟩
  rw [hB]
  replace V := Lib.hid (V.out.call hb)
  clear hb
  have gp := V.out.at 1 rfl
  obtain ⟨⟨pa, pb, pc, pd, pe⟩, -, pz⟩ := blk5 gp
  clear gp
  go_wp2_with fail
  clear pa pb pc pd pe pz
  have hrow := V.out.at 0 rfl
  refine (lsend_any room sent pad off m l A cap _ (F.below V.out.below) hrow (by omega)).mono ?_
  rintro e w2 ⟨ho, hb⟩
  rw [HSD.out] at ho
  dsimp only at ho
  obtain ⟨A2, q2, rfl, hk⟩ := ho
  replace hk := hk.below hb
  clear hrow
  replace V := Lib.hid (V.out.call hb)
  clear hb
  replace V := Lib.hid (V.out.row (hk))
  clear hk
  replace V := Lib.hid (V.out.box #[.int .i64 room, .slice A2 l1.length q2, .int .i64 s1, .int .i64 p1, .bool off] 24)
  have gp := V.out.at 0 rfl
  obtain ⟨⟨pa, pb, pc, pd, pe⟩, -, pz⟩ := blk5 gp
  clear gp
  go_wp2_with fail
  clear pa pb pc pd pe pz
  have hrow := V.out.at 1 rfl
  refine (lsend_any room s1 p1 off n l1 A2 q2 _ (F.below V.out.below) hrow (by omega)).mono ?_
  rintro e w3 ⟨ho, hb⟩
  rw [HSD2.out] at ho
  dsimp only at ho
  obtain ⟨A3, q3, rfl, hk⟩ := ho
  replace hk := hk.below hb
  clear hrow
  replace V := Lib.hid (V.out.call hb)
  clear hb
  replace V := Lib.hid (V.out.row (hk))
  clear hk
  replace V := Lib.hid (V.out.box #[.int .i64 room, .slice A3 l2.length q3, .int .i64 s2, .int .i64 p2, .bool off] 24)
  have gp := V.out.at 5 rfl
  obtain ⟨⟨pa, pb, pc, pd, pe⟩, -, pz⟩ := blk5 gp
  clear gp
  go_wp2_with fail
  clear pa pb pc pd pe pz
  have hrow := V.out.at 4 rfl
  refine (lsend_any room sent pad off (m + n) l A cap _ (F.below V.out.below) hrow (by omega)).mono ?_
  rintro e w4 ⟨ho, hb⟩
  rw [HSD3.out] at ho
  dsimp only at ho
  obtain ⟨A4, q4, rfl, hk⟩ := ho
  replace hk := hk.below hb
  clear hrow
  replace V := Lib.hid (V.out.call hb)
  clear hb
  replace V := Lib.hid (V.out.row (hk))
  clear hk
  replace V := Lib.hid (V.out.box #[.int .i64 room, .slice A4 l2.length q4, .int .i64 s2, .int .i64 p2, .bool off] 24)
  have gp := V.out.at 2 rfl
  obtain ⟨⟨xa, xb, xc, xd, xe⟩, -, xz⟩ := blk5 gp
  clear gp
  have gp := V.out.at 0 rfl
  obtain ⟨⟨ya, yb, yc, yd, ye⟩, -, yz⟩ := blk5 gp
  clear gp
  go_wp2_with fail
  clear xa xb xc xd xe xz ya yb yc yd ye yz
  refine (linked_any _ (F.below V.out.below)).mono ?_
  rintro e w5 ⟨rfl, hb⟩
  replace V := Lib.hid (V.out.call hb)
  clear hb
  have gp := V.out.at 2 rfl
  obtain ⟨⟨xa, xb, xc, xd, xe⟩, -, xz⟩ := blk5 gp
  clear gp
  have gp := V.out.at 0 rfl
  obtain ⟨⟨ya, yb, yc, yd, ye⟩, -, yz⟩ := blk5 gp
  clear gp
  go_wp2_with fail
  clear xa xb xc xd xe xz ya yb yc yd ye yz
  refine (lksame_any room s2 p2 room s2 p2 off off l2 l2 A3 A4 q3 q4 _ (V.out.at 3 rfl) (V.out.at 1 rfl) hl2'' hl2'').mono ?_
  rintro e w6 ⟨rfl, hb⟩
  rw [decide_eq_true rfl]
  replace V := Lib.hid (V.out.call hb)
  clear hb
  go_wp2
  go_ret
  exact ⟨rfl, V.out.below⟩
end Go.Proofs.YtgpebdoafblacaaDoor
