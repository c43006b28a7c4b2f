/- Links: LinkGrants. -/
import Derived.Test.YtgpebdoafblacaaDoorLkW
import Derived.Test.YtgpebdoafblacaaDoorLkT
import Derived.Test.YtgpebdoafblacaaDoorLkU
import Derived.Test.YtgpebdoafblacaaDoorLkV
import Derived.Test.YtgpebdoafblacaaDoorLkX
import Derived.BigGuardPart
import Derived.BigQuiet
import Derived.Deep.QuietTactic
import Derived.Deep.RegionHeld3
set_option linter.unusedVariables false
namespace Go.Proofs.YtgpebdoafblacaaDoor
open Go.RowKit Go.PlainAid Gl L Vt Lk
set_option maxRecDepth 100000 in
set_option maxHeartbeats 16000000 in
theorem lgrants_law (room sent pad : Int) (off : Bool) (g : Int) (l : List Cmd) (A : Option Addr) (cap : Nat) (w : World) (F : Forms w 0) (hr : Rk w (.slice A l.length cap) l) :
    Calls Tryd.prog 7 #[.agg #[.int .i64 room, .slice A l.length cap, .int .i64 sent, .int .i64 pad, .bool off], .int .i64 g] w fun e w' => e = .returned (.bool true) ∧ Below w.heap.size w w' := by
  have V := Lib.hid ((La.start w).box #[.int .i64 room, .slice A l.length cap, .int .i64 sent, .int .i64 pad, .bool off] 24)
  by_cases hbig : 200 < l.length
  case pos =>
    have hB := decide_eq_true hbig
    clear hbig
    go_enter Tryd.func7, Tryd.ntmps7
    go_wp2_with fail
    refine (lkbig_any room sent pad off A l.length cap _).mono ?_
    rintro e w1 ⟨rfl, hb⟩
    rw [hB]
    replace V := Lib.hid (V.out.call hb)
    clear hb
    go_wp2
    go_ret
    exact ⟨rfl, V.out.below⟩
  have hl : l.length ≤ 200 := by omega
  have hl2 : l.length ≤ 100000 := by omega
  have hB := decide_eq_false hbig
  clear hbig
  obtain ⟨bs, l1, s1, p1, hsd, hl1⟩ := sd_form ⟨room, l, sent, pad, off⟩ g
  dsimp only at hsd hl1
  have hl1' : l1.length ≤ 100000 := by omega
  have hrs := send_rs ⟨room, l, sent, pad, off⟩ g
  have hsz := send_size ⟨room, l, sent, pad, off⟩ g
  have hid := send_idle ⟨room, l, sent, pad, off⟩ g
  rw [hsd] at hrs hsz hid
  dsimp only at hrs hsz hid
  obtain ⟨ws, hws⟩ : ∃ x, x = rs ⟨room, l, sent, pad, off⟩ := ⟨_, rfl⟩
  obtain ⟨ra, hra⟩ : ∃ x, x = rs ⟨room, l1, s1, p1, off⟩ := ⟨_, rfl⟩
  rw [← hws, ← hra] at hrs
  rw [← hra] at hid
  have hz1 : ws.size ≤ 48 := by rw [hws]; exact rs_le _
  have hz2 : bs.size + ra.size = ws.size := by rw [hrs, size_app]
  have HW := Lib.hid hws
  have HA := Lib.hid hra
  have HSD := Lib.hid hsd
  have HRS := Lib.hid hrs.symm
  have HR := Lib.hid hr
  clear hws hra hsd hrs hr
  have hidle : (bs.size : Int) ≥ g ∨ off = true ∨ pad ≠ 0 ∨ ra = ⟨#[]⟩ ∨ p1 ≠ 0 := by
    by_cases h1 : (bs.size : Int) < g
    · by_cases h2 : off = false
      · by_cases h3 : pad = 0
        · rcases hid h1 h2 h3 with h | h
          · exact .inr (.inr (.inr (.inl h)))
          · exact .inr (.inr (.inr (.inr h)))
        · exact .inr (.inr (.inl h3))
      · exact .inr (.inl (by simpa using h2))
    · exact .inl (by omega)
  clear hid
  have he : bs ++ ra = ws := HRS.out
  by_cases hz : bs.size = 0
  case pos =>
    have hz0 := decide_eq_false (show ¬ (0 : Int) < (bs.size : Int) by omega)
    have hz0n := decide_eq_false (show ¬ 0 < bs.size by omega)
    have hz0p : ¬ 0 < bs.size := by omega
    have HZ := Lib.hid hz
    clear hsz hz
    by_cases i1 : (bs.size : Int) < g
    case neg =>
      have j1 := decide_eq_false i1
      replace V := Lib.hid (V.out.row (HR.out.below V.out.below))
      go_enter Tryd.func7, Tryd.ntmps7
      go_wp2_with fail
      refine (lkbig_any room sent pad off A l.length cap _).mono ?_
      rintro e w1 ⟨rfl, hb⟩
      rw [hB]
      replace V := Lib.hid (V.out.call hb)
      clear hb
      have gp := V.out.at 1 rfl
      obtain ⟨⟨pa, pb, pc, pd, pe⟩, -, pz⟩ := blk5 gp
      clear gp
      go_wp2_with fail
      clear pa pb pc pd pe pz
      refine (lrest_any room sent pad off l A cap _ (F.below V.out.below) (V.out.at 0 rfl) hl2).mono ?_
      rintro e w2 ⟨rfl, hb⟩
      rw [← HW.out]
      replace V := Lib.hid (V.out.call hb)
      clear hb
      have gp := V.out.at 1 rfl
      obtain ⟨⟨pa, pb, pc, pd, pe⟩, -, pz⟩ := blk5 gp
      clear gp
      go_wp2_with fail
      clear pa pb pc pd pe pz
      have hrow := V.out.at 0 rfl
      refine (lsend_any room sent pad off g l A cap _ (F.below V.out.below) hrow hl2).mono ?_
      rintro e w3 ⟨ho, hb⟩
      rw [HSD.out] at ho
      dsimp only at ho
      obtain ⟨A3, q3, rfl, hk⟩ := ho
      replace hk := hk.below hb
      clear hrow
      replace V := Lib.hid (V.out.call hb)
      clear hb
      replace V := Lib.hid (V.out.row (hk))
      clear hk
      replace V := Lib.hid (V.out.box #[.int .i64 room, .slice A3 l1.length q3, .int .i64 s1, .int .i64 p1, .bool off] 24)
      have gp := V.out.at 3 rfl
      obtain ⟨⟨pa, pb, pc, pd, pe⟩, -, pz⟩ := blk5 gp
      clear gp
      have gp := V.out.at 0 rfl
      obtain ⟨⟨xa, xb, xc, xd, xe⟩, -, xz⟩ := blk5 gp
      clear gp
      go_wp2_with fail
      clear pa pb pc pd pe pz xa xb xc xd xe xz
      refine (lrest_any room s1 p1 off l1 A3 q3 _ (F.below V.out.below) (V.out.at 1 rfl) hl1').mono ?_
      rintro e w4 ⟨rfl, hb⟩
      rw [← HA.out]
      replace V := Lib.hid (V.out.call hb)
      clear hb
      have gp := V.out.at 3 rfl
      obtain ⟨⟨pa, pb, pc, pd, pe⟩, -, pz⟩ := blk5 gp
      clear gp
      have gp := V.out.at 0 rfl
      obtain ⟨⟨xa, xb, xc, xd, xe⟩, -, xz⟩ := blk5 gp
      clear gp
      go_wp2_with fail
      clear pa pb pc pd pe pz xa xb xc xd xe xz
      refine (linked_any _ (F.below V.out.below)).mono ?_
      rintro e w5 ⟨rfl, hb⟩
      replace V := Lib.hid (V.out.call hb)
      clear hb
      have gp := V.out.at 3 rfl
      obtain ⟨⟨pa, pb, pc, pd, pe⟩, -, pz⟩ := blk5 gp
      clear gp
      have gp := V.out.at 0 rfl
      obtain ⟨⟨xa, xb, xc, xd, xe⟩, -, xz⟩ := blk5 gp
      clear gp
      go_wp2_with fail
      clear pa pb pc pd pe pz xa xb xc xd xe xz
      refine (lrest_any room sent pad off l A cap _ (F.below V.out.below) (V.out.at 2 rfl) hl2).mono ?_
      rintro e w6 ⟨rfl, hb⟩
      rw [← HW.out]
      replace V := Lib.hid (V.out.call hb)
      clear hb
      go_wp2
      go_ret
      exact ⟨by simp, V.out.below⟩
    have j1 := decide_eq_true i1
    by_cases i2 : off = true
    case pos =>
      subst i2
      replace V := Lib.hid (V.out.row (HR.out.below V.out.below))
      go_enter Tryd.func7, Tryd.ntmps7
      go_wp2_with fail
      refine (lkbig_any room sent pad true A l.length cap _).mono ?_
      rintro e w1 ⟨rfl, hb⟩
      rw [hB]
      replace V := Lib.hid (V.out.call hb)
      clear hb
      have gp := V.out.at 1 rfl
      obtain ⟨⟨pa, pb, pc, pd, pe⟩, -, pz⟩ := blk5 gp
      clear gp
      go_wp2_with fail
      clear pa pb pc pd pe pz
      refine (lrest_any room sent pad true l A cap _ (F.below V.out.below) (V.out.at 0 rfl) hl2).mono ?_
      rintro e w2 ⟨rfl, hb⟩
      rw [← HW.out]
      replace V := Lib.hid (V.out.call hb)
      clear hb
      have gp := V.out.at 1 rfl
      obtain ⟨⟨pa, pb, pc, pd, pe⟩, -, pz⟩ := blk5 gp
      clear gp
      go_wp2_with fail
      clear pa pb pc pd pe pz
      have hrow := V.out.at 0 rfl
      refine (lsend_any room sent pad true g l A cap _ (F.below V.out.below) hrow hl2).mono ?_
      rintro e w3 ⟨ho, hb⟩
      rw [HSD.out] at ho
      dsimp only at ho
      obtain ⟨A3, q3, rfl, hk⟩ := ho
      replace hk := hk.below hb
      clear hrow
      replace V := Lib.hid (V.out.call hb)
      clear hb
      replace V := Lib.hid (V.out.row (hk))
      clear hk
      replace V := Lib.hid (V.out.box #[.int .i64 room, .slice A3 l1.length q3, .int .i64 s1, .int .i64 p1, .bool true] 24)
      have gp := V.out.at 3 rfl
      obtain ⟨⟨pa, pb, pc, pd, pe⟩, -, pz⟩ := blk5 gp
      clear gp
      have gp := V.out.at 0 rfl
      obtain ⟨⟨xa, xb, xc, xd, xe⟩, -, xz⟩ := blk5 gp
      clear gp
      go_wp2_with fail
      clear pa pb pc pd pe pz xa xb xc xd xe xz
      refine (lrest_any room s1 p1 true l1 A3 q3 _ (F.below V.out.below) (V.out.at 1 rfl) hl1').mono ?_
      rintro e w4 ⟨rfl, hb⟩
      rw [← HA.out]
      replace V := Lib.hid (V.out.call hb)
      clear hb
      have gp := V.out.at 3 rfl
      obtain ⟨⟨pa, pb, pc, pd, pe⟩, -, pz⟩ := blk5 gp
      clear gp
      have gp := V.out.at 0 rfl
      obtain ⟨⟨xa, xb, xc, xd, xe⟩, -, xz⟩ := blk5 gp
      clear gp
      go_wp2_with fail
      clear pa pb pc pd pe pz xa xb xc xd xe xz
      refine (linked_any _ (F.below V.out.below)).mono ?_
      rintro e w5 ⟨rfl, hb⟩
      replace V := Lib.hid (V.out.call hb)
      clear hb
      have gp := V.out.at 3 rfl
      obtain ⟨⟨pa, pb, pc, pd, pe⟩, -, pz⟩ := blk5 gp
      clear gp
      have gp := V.out.at 0 rfl
      obtain ⟨⟨xa, xb, xc, xd, xe⟩, -, xz⟩ := blk5 gp
      clear gp
      go_wp2_with fail
      clear pa pb pc pd pe pz xa xb xc xd xe xz
      refine (lrest_any room sent pad true l A cap _ (F.below V.out.below) (V.out.at 2 rfl) hl2).mono ?_
      rintro e w6 ⟨rfl, hb⟩
      rw [← HW.out]
      replace V := Lib.hid (V.out.call hb)
      clear hb
      go_wp2
      go_ret
      exact ⟨by simp, V.out.below⟩
    obtain rfl : off = false := by simpa using i2
    by_cases i3 : pad = 0
    case neg =>
      have j3 : (pad == (0 : Int)) = false := by simp [i3]
      replace V := Lib.hid (V.out.row (HR.out.below V.out.below))
      go_enter Tryd.func7, Tryd.ntmps7
      go_wp2_with fail
      refine (lkbig_any room sent pad false A l.length cap _).mono ?_
      rintro e w1 ⟨rfl, hb⟩
      rw [hB]
      replace V := Lib.hid (V.out.call hb)
      clear hb
      have gp := V.out.at 1 rfl
      obtain ⟨⟨pa, pb, pc, pd, pe⟩, -, pz⟩ := blk5 gp
      clear gp
      go_wp2_with fail
      clear pa pb pc pd pe pz
      refine (lrest_any room sent pad false l A cap _ (F.below V.out.below) (V.out.at 0 rfl) hl2).mono ?_
      rintro e w2 ⟨rfl, hb⟩
      rw [← HW.out]
      replace V := Lib.hid (V.out.call hb)
      clear hb
      have gp := V.out.at 1 rfl
      obtain ⟨⟨pa, pb, pc, pd, pe⟩, -, pz⟩ := blk5 gp
      clear gp
      go_wp2_with fail
      clear pa pb pc pd pe pz
      have hrow := V.out.at 0 rfl
      refine (lsend_any room sent pad false g l A cap _ (F.below V.out.below) hrow hl2).mono ?_
      rintro e w3 ⟨ho, hb⟩
      rw [HSD.out] at ho
      dsimp only at ho
      obtain ⟨A3, q3, rfl, hk⟩ := ho
      replace hk := hk.below hb
      clear hrow
      replace V := Lib.hid (V.out.call hb)
      clear hb
      replace V := Lib.hid (V.out.row (hk))
      clear hk
      replace V := Lib.hid (V.out.box #[.int .i64 room, .slice A3 l1.length q3, .int .i64 s1, .int .i64 p1, .bool false] 24)
      have gp := V.out.at 3 rfl
      obtain ⟨⟨pa, pb, pc, pd, pe⟩, -, pz⟩ := blk5 gp
      clear gp
      have gp := V.out.at 0 rfl
      obtain ⟨⟨xa, xb, xc, xd, xe⟩, -, xz⟩ := blk5 gp
      clear gp
      go_wp2_with fail
      clear pa pb pc pd pe pz xa xb xc xd xe xz
      refine (lrest_any room s1 p1 false l1 A3 q3 _ (F.below V.out.below) (V.out.at 1 rfl) hl1').mono ?_
      rintro e w4 ⟨rfl, hb⟩
      rw [← HA.out]
      replace V := Lib.hid (V.out.call hb)
      clear hb
      have gp := V.out.at 3 rfl
      obtain ⟨⟨pa, pb, pc, pd, pe⟩, -, pz⟩ := blk5 gp
      clear gp
      have gp := V.out.at 0 rfl
      obtain ⟨⟨xa, xb, xc, xd, xe⟩, -, xz⟩ := blk5 gp
      clear gp
      go_wp2_with fail
      clear pa pb pc pd pe pz xa xb xc xd xe xz
      refine (linked_any _ (F.below V.out.below)).mono ?_
      rintro e w5 ⟨rfl, hb⟩
      replace V := Lib.hid (V.out.call hb)
      clear hb
      have gp := V.out.at 3 rfl
      obtain ⟨⟨pa, pb, pc, pd, pe⟩, -, pz⟩ := blk5 gp
      clear gp
      have gp := V.out.at 0 rfl
      obtain ⟨⟨xa, xb, xc, xd, xe⟩, -, xz⟩ := blk5 gp
      clear gp
      go_wp2_with fail
      clear pa pb pc pd pe pz xa xb xc xd xe xz
      refine (lrest_any room sent pad false l A cap _ (F.below V.out.below) (V.out.at 2 rfl) hl2).mono ?_
      rintro e w6 ⟨rfl, hb⟩
      rw [← HW.out]
      replace V := Lib.hid (V.out.call hb)
      clear hb
      go_wp2
      go_ret
      exact ⟨by simp, V.out.below⟩
    subst i3
    by_cases i4 : ra = ⟨#[]⟩
    case pos =>
      subst i4
      replace V := Lib.hid (V.out.row (HR.out.below V.out.below))
      go_enter Tryd.func7, Tryd.ntmps7
      go_wp2_with fail
      refine (lkbig_any room sent 0 false A l.length cap _).mono ?_
      rintro e w1 ⟨rfl, hb⟩
      rw [hB]
      replace V := Lib.hid (V.out.call hb)
      clear hb
      have gp := V.out.at 1 rfl
      obtain ⟨⟨pa, pb, pc, pd, pe⟩, -, pz⟩ := blk5 gp
      clear gp
      go_wp2_with fail
      clear pa pb pc pd pe pz
      refine (lrest_any room sent 0 false l A cap _ (F.below V.out.below) (V.out.at 0 rfl) hl2).mono ?_
      rintro e w2 ⟨rfl, hb⟩
      rw [← HW.out]
      replace V := Lib.hid (V.out.call hb)
      clear hb
      have gp := V.out.at 1 rfl
      obtain ⟨⟨pa, pb, pc, pd, pe⟩, -, pz⟩ := blk5 gp
      clear gp
      go_wp2_with fail
      clear pa pb pc pd pe pz
      have hrow := V.out.at 0 rfl
      refine (lsend_any room sent 0 false g l A cap _ (F.below V.out.below) hrow hl2).mono ?_
      rintro e w3 ⟨ho, hb⟩
      rw [HSD.out] at ho
      dsimp only at ho
      obtain ⟨A3, q3, rfl, hk⟩ := ho
      replace hk := hk.below hb
      clear hrow
      replace V := Lib.hid (V.out.call hb)
      clear hb
      replace V := Lib.hid (V.out.row (hk))
      clear hk
      replace V := Lib.hid (V.out.box #[.int .i64 room, .slice A3 l1.length q3, .int .i64 s1, .int .i64 p1, .bool false] 24)
      have gp := V.out.at 3 rfl
      obtain ⟨⟨pa, pb, pc, pd, pe⟩, -, pz⟩ := blk5 gp
      clear gp
      have gp := V.out.at 0 rfl
      obtain ⟨⟨xa, xb, xc, xd, xe⟩, -, xz⟩ := blk5 gp
      clear gp
      go_wp2_with fail
      clear pa pb pc pd pe pz xa xb xc xd xe xz
      refine (lrest_any room s1 p1 false l1 A3 q3 _ (F.below V.out.below) (V.out.at 1 rfl) hl1').mono ?_
      rintro e w4 ⟨rfl, hb⟩
      rw [← HA.out]
      replace V := Lib.hid (V.out.call hb)
      clear hb
      have gp := V.out.at 3 rfl
      obtain ⟨⟨pa, pb, pc, pd, pe⟩, -, pz⟩ := blk5 gp
      clear gp
      have gp := V.out.at 0 rfl
      obtain ⟨⟨xa, xb, xc, xd, xe⟩, -, xz⟩ := blk5 gp
      clear gp
      go_wp2_with fail
      clear pa pb pc pd pe pz xa xb xc xd xe xz
      refine (lrest_any room s1 p1 false l1 A3 q3 _ (F.below V.out.below) (V.out.at 1 rfl) hl1').mono ?_
      rintro e w5 ⟨rfl, hb⟩
      rw [← HA.out]
      replace V := Lib.hid (V.out.call hb)
      clear hb
      have gp := V.out.at 3 rfl
      obtain ⟨⟨pa, pb, pc, pd, pe⟩, -, pz⟩ := blk5 gp
      clear gp
      have gp := V.out.at 0 rfl
      obtain ⟨⟨xa, xb, xc, xd, xe⟩, -, xz⟩ := blk5 gp
      clear gp
      go_wp2_with fail
      clear pa pb pc pd pe pz xa xb xc xd xe xz
      refine (linked_any _ (F.below V.out.below)).mono ?_
      rintro e w6 ⟨rfl, hb⟩
      replace V := Lib.hid (V.out.call hb)
      clear hb
      have gp := V.out.at 3 rfl
      obtain ⟨⟨pa, pb, pc, pd, pe⟩, -, pz⟩ := blk5 gp
      clear gp
      have gp := V.out.at 0 rfl
      obtain ⟨⟨xa, xb, xc, xd, xe⟩, -, xz⟩ := blk5 gp
      clear gp
      go_wp2_with fail
      clear pa pb pc pd pe pz xa xb xc xd xe xz
      refine (lrest_any room sent 0 false l A cap _ (F.below V.out.below) (V.out.at 2 rfl) hl2).mono ?_
      rintro e w7 ⟨rfl, hb⟩
      rw [← HW.out]
      replace V := Lib.hid (V.out.call hb)
      clear hb
      go_wp2
      go_ret
      exact ⟨by simp, V.out.below⟩
    have j7 : ra.toList.isEmpty = false := by
      rw [ByteArray.toList_eq]
      cases hl : ra.data.toList with
      | nil => exact absurd (ext_list ra ⟨#[]⟩ hl) i4
      | cons _ _ => rfl
    have j5 := decide_eq_false i4
    have i5 : p1 ≠ 0 := by
      rcases hidle with h | h | h | h | h
      · omega
      · cases h
      · exact absurd rfl h
      · exact absurd h i4
      · exact h
    have j6 : (p1 == (0 : Int)) = false := by simp [i5]
    clear hidle
    replace V := Lib.hid (V.out.row (HR.out.below V.out.below))
    go_enter Tryd.func7, Tryd.ntmps7
    go_wp2_with fail
    refine (lkbig_any room sent 0 false A l.length cap _).mono ?_
    rintro e w1 ⟨rfl, hb⟩
    rw [hB]
    replace V := Lib.hid (V.out.call hb)
    clear hb
    have gp := V.out.at 1 rfl
    obtain ⟨⟨pa, pb, pc, pd, pe⟩, -, pz⟩ := blk5 gp
    clear gp
    go_wp2_with fail
    clear pa pb pc pd pe pz
    refine (lrest_any room sent 0 false l A cap _ (F.below V.out.below) (V.out.at 0 rfl) hl2).mono ?_
    rintro e w2 ⟨rfl, hb⟩
    rw [← HW.out]
    replace V := Lib.hid (V.out.call hb)
    clear hb
    have gp := V.out.at 1 rfl
    obtain ⟨⟨pa, pb, pc, pd, pe⟩, -, pz⟩ := blk5 gp
    clear gp
    go_wp2_with fail
    clear pa pb pc pd pe pz
    have hrow := V.out.at 0 rfl
    refine (lsend_any room sent 0 false g l A cap _ (F.below V.out.below) hrow hl2).mono ?_
    rintro e w3 ⟨ho, hb⟩
    rw [HSD.out] at ho
    dsimp only at ho
    obtain ⟨A3, q3, rfl, hk⟩ := ho
    replace hk := hk.below hb
    clear hrow
    replace V := Lib.hid (V.out.call hb)
    clear hb
    replace V := Lib.hid (V.out.row (hk))
    clear hk
    replace V := Lib.hid (V.out.box #[.int .i64 room, .slice A3 l1.length q3, .int .i64 s1, .int .i64 p1, .bool false] 24)
    have gp := V.out.at 3 rfl
    obtain ⟨⟨pa, pb, pc, pd, pe⟩, -, pz⟩ := blk5 gp
    clear gp
    have gp := V.out.at 0 rfl
    obtain ⟨⟨xa, xb, xc, xd, xe⟩, -, xz⟩ := blk5 gp
    clear gp
    go_wp2_with fail
    clear pa pb pc pd pe pz xa xb xc xd xe xz
    refine (lrest_any room s1 p1 false l1 A3 q3 _ (F.below V.out.below) (V.out.at 1 rfl) hl1').mono ?_
    rintro e w4 ⟨rfl, hb⟩
    rw [← HA.out]
    replace V := Lib.hid (V.out.call hb)
    clear hb
    have gp := V.out.at 3 rfl
    obtain ⟨⟨pa, pb, pc, pd, pe⟩, -, pz⟩ := blk5 gp
    clear gp
    have gp := V.out.at 0 rfl
    obtain ⟨⟨xa, xb, xc, xd, xe⟩, -, xz⟩ := blk5 gp
    clear gp
    go_wp2_with fail
    clear pa pb pc pd pe pz xa xb xc xd xe xz
    refine (lrest_any room s1 p1 false l1 A3 q3 _ (F.below V.out.below) (V.out.at 1 rfl) hl1').mono ?_
    rintro e w5 ⟨rfl, hb⟩
    rw [← HA.out]
    replace V := Lib.hid (V.out.call hb)
    clear hb
    have gp := V.out.at 3 rfl
    obtain ⟨⟨pa, pb, pc, pd, pe⟩, -, pz⟩ := blk5 gp
    clear gp
    have gp := V.out.at 0 rfl
    obtain ⟨⟨xa, xb, xc, xd, xe⟩, -, xz⟩ := blk5 gp
    clear gp
    go_wp2_with fail
    clear pa pb pc pd pe pz xa xb xc xd xe xz
    refine (linked_any _ (F.below V.out.below)).mono ?_
    rintro e w6 ⟨rfl, hb⟩
    replace V := Lib.hid (V.out.call hb)
    clear hb
    have gp := V.out.at 3 rfl
    obtain ⟨⟨pa, pb, pc, pd, pe⟩, -, pz⟩ := blk5 gp
    clear gp
    have gp := V.out.at 0 rfl
    obtain ⟨⟨xa, xb, xc, xd, xe⟩, -, xz⟩ := blk5 gp
    clear gp
    go_wp2_with fail
    clear pa pb pc pd pe pz xa xb xc xd xe xz
    refine (lrest_any room sent 0 false l A cap _ (F.below V.out.below) (V.out.at 2 rfl) hl2).mono ?_
    rintro e w7 ⟨rfl, hb⟩
    rw [← HW.out]
    replace V := Lib.hid (V.out.call hb)
    clear hb
    go_wp2
    go_ret
    exact ⟨by simp, V.out.below⟩
  obtain ⟨hgz, rfl, rfl, hrt⟩ : (bs.size : Int) ≤ g ∧ off = false ∧ pad = 0 ∧ rt ⟨room, l, sent, pad, off⟩ := by
    rcases hsz with h | h
    · exact absurd h hz
    · exact h
  have hI := decide_eq_true hrt
  have hgz1 := decide_eq_false (show ¬ g < (bs.size : Int) by omega)
  have hzp := decide_eq_true (show (0 : Int) < (bs.size : Int) by omega)
  have hzpn := decide_eq_true (show 0 < bs.size by omega)
  have hzpp : 0 < bs.size := by omega
  have hgz2 : ¬ g < (bs.size : Int) := by omega
  have HZ := Lib.hid hz
  clear hrt hz hgz
  by_cases i1 : (bs.size : Int) < g
  case neg =>
    have j1 := decide_eq_false i1
    replace V := Lib.hid (V.out.row (HR.out.below V.out.below))
    go_enter Tryd.func7, Tryd.ntmps7
    go_wp2_with fail
    refine (lkbig_any room sent 0 false A l.length cap _).mono ?_
    rintro e w1 ⟨rfl, hb⟩
    rw [hB]
    replace V := Lib.hid (V.out.call hb)
    clear hb
    have gp := V.out.at 1 rfl
    obtain ⟨⟨pa, pb, pc, pd, pe⟩, -, pz⟩ := blk5 gp
    clear gp
    go_wp2_with fail
    clear pa pb pc pd pe pz
    refine (lrest_any room sent 0 false l A cap _ (F.below V.out.below) (V.out.at 0 rfl) hl2).mono ?_
    rintro e w2 ⟨rfl, hb⟩
    rw [← HW.out]
    replace V := Lib.hid (V.out.call hb)
    clear hb
    have gp := V.out.at 1 rfl
    obtain ⟨⟨pa, pb, pc, pd, pe⟩, -, pz⟩ := blk5 gp
    clear gp
    go_wp2_with fail
    clear pa pb pc pd pe pz
    have hrow := V.out.at 0 rfl
    refine (lsend_any room sent 0 false g l A cap _ (F.below V.out.below) hrow hl2).mono ?_
    rintro e w3 ⟨ho, hb⟩
    rw [HSD.out] at ho
    dsimp only at ho
    obtain ⟨A3, q3, rfl, hk⟩ := ho
    replace hk := hk.below hb
    clear hrow
    replace V := Lib.hid (V.out.call hb)
    clear hb
    replace V := Lib.hid (V.out.row (hk))
    clear hk
    replace V := Lib.hid (V.out.box #[.int .i64 room, .slice A3 l1.length q3, .int .i64 s1, .int .i64 p1, .bool false] 24)
    have gp := V.out.at 3 rfl
    obtain ⟨⟨pa, pb, pc, pd, pe⟩, -, pz⟩ := blk5 gp
    clear gp
    have gp := V.out.at 0 rfl
    obtain ⟨⟨xa, xb, xc, xd, xe⟩, -, xz⟩ := blk5 gp
    clear gp
    go_wp2_with fail
    clear pa pb pc pd pe pz xa xb xc xd xe xz
    refine (lis_any room sent 0 false l A cap _ (F.below V.out.below) (V.out.at 2 rfl) hl2).mono ?_
    rintro e w4 ⟨rfl, hb⟩
    rw [hI]
    replace V := Lib.hid (V.out.call hb)
    clear hb
    have gp := V.out.at 3 rfl
    obtain ⟨⟨pa, pb, pc, pd, pe⟩, -, pz⟩ := blk5 gp
    clear gp
    have gp := V.out.at 0 rfl
    obtain ⟨⟨xa, xb, xc, xd, xe⟩, -, xz⟩ := blk5 gp
    clear gp
    go_wp2_with fail
    clear pa pb pc pd pe pz xa xb xc xd xe xz
    refine (lrest_any room s1 p1 false l1 A3 q3 _ (F.below V.out.below) (V.out.at 1 rfl) hl1').mono ?_
    rintro e w5 ⟨rfl, hb⟩
    rw [← HA.out]
    replace V := Lib.hid (V.out.call hb)
    clear hb
    have gp := V.out.at 3 rfl
    obtain ⟨⟨pa, pb, pc, pd, pe⟩, -, pz⟩ := blk5 gp
    clear gp
    have gp := V.out.at 0 rfl
    obtain ⟨⟨xa, xb, xc, xd, xe⟩, -, xz⟩ := blk5 gp
    clear gp
    go_wp2_with fail
    clear pa pb pc pd pe pz xa xb xc xd xe xz
    refine (linked_any _ (F.below V.out.below)).mono ?_
    rintro e w6 ⟨rfl, hb⟩
    replace V := Lib.hid (V.out.call hb)
    clear hb
    have gp := V.out.at 3 rfl
    obtain ⟨⟨pa, pb, pc, pd, pe⟩, -, pz⟩ := blk5 gp
    clear gp
    have gp := V.out.at 0 rfl
    obtain ⟨⟨xa, xb, xc, xd, xe⟩, -, xz⟩ := blk5 gp
    clear gp
    go_wp2_with fail
    clear pa pb pc pd pe pz xa xb xc xd xe xz
    refine (lrest_any room sent 0 false l A cap _ (F.below V.out.below) (V.out.at 2 rfl) hl2).mono ?_
    rintro e w7 ⟨rfl, hb⟩
    rw [← HW.out]
    replace V := Lib.hid (V.out.call hb)
    clear hb
    go_wp2
    go_ret
    exact ⟨by simp, V.out.below⟩
  have j1 := decide_eq_true i1
  by_cases i4 : ra = ⟨#[]⟩
  case pos =>
    subst i4
    replace V := Lib.hid (V.out.row (HR.out.below V.out.below))
    go_enter Tryd.func7, Tryd.ntmps7
    go_wp2_with fail
    refine (lkbig_any room sent 0 false A l.length cap _).mono ?_
    rintro e w1 ⟨rfl, hb⟩
    rw [hB]
    replace V := Lib.hid (V.out.call hb)
    clear hb
    have gp := V.out.at 1 rfl
    obtain ⟨⟨pa, pb, pc, pd, pe⟩, -, pz⟩ := blk5 gp
    clear gp
    go_wp2_with fail
    clear pa pb pc pd pe pz
    refine (lrest_any room sent 0 false l A cap _ (F.below V.out.below) (V.out.at 0 rfl) hl2).mono ?_
    rintro e w2 ⟨rfl, hb⟩
    rw [← HW.out]
    replace V := Lib.hid (V.out.call hb)
    clear hb
    have gp := V.out.at 1 rfl
    obtain ⟨⟨pa, pb, pc, pd, pe⟩, -, pz⟩ := blk5 gp
    clear gp
    go_wp2_with fail
    clear pa pb pc pd pe pz
    have hrow := V.out.at 0 rfl
    refine (lsend_any room sent 0 false g l A cap _ (F.below V.out.below) hrow hl2).mono ?_
    rintro e w3 ⟨ho, hb⟩
    rw [HSD.out] at ho
    dsimp only at ho
    obtain ⟨A3, q3, rfl, hk⟩ := ho
    replace hk := hk.below hb
    clear hrow
    replace V := Lib.hid (V.out.call hb)
    clear hb
    replace V := Lib.hid (V.out.row (hk))
    clear hk
    replace V := Lib.hid (V.out.box #[.int .i64 room, .slice A3 l1.length q3, .int .i64 s1, .int .i64 p1, .bool false] 24)
    have gp := V.out.at 3 rfl
    obtain ⟨⟨pa, pb, pc, pd, pe⟩, -, pz⟩ := blk5 gp
    clear gp
    have gp := V.out.at 0 rfl
    obtain ⟨⟨xa, xb, xc, xd, xe⟩, -, xz⟩ := blk5 gp
    clear gp
    go_wp2_with fail
    clear pa pb pc pd pe pz xa xb xc xd xe xz
    refine (lis_any room sent 0 false l A cap _ (F.below V.out.below) (V.out.at 2 rfl) hl2).mono ?_
    rintro e w4 ⟨rfl, hb⟩
    rw [hI]
    replace V := Lib.hid (V.out.call hb)
    clear hb
    have gp := V.out.at 3 rfl
    obtain ⟨⟨pa, pb, pc, pd, pe⟩, -, pz⟩ := blk5 gp
    clear gp
    have gp := V.out.at 0 rfl
    obtain ⟨⟨xa, xb, xc, xd, xe⟩, -, xz⟩ := blk5 gp
    clear gp
    go_wp2_with fail
    clear pa pb pc pd pe pz xa xb xc xd xe xz
    refine (lrest_any room s1 p1 false l1 A3 q3 _ (F.below V.out.below) (V.out.at 1 rfl) hl1').mono ?_
    rintro e w5 ⟨rfl, hb⟩
    rw [← HA.out]
    replace V := Lib.hid (V.out.call hb)
    clear hb
    have gp := V.out.at 3 rfl
    obtain ⟨⟨pa, pb, pc, pd, pe⟩, -, pz⟩ := blk5 gp
    clear gp
    have gp := V.out.at 0 rfl
    obtain ⟨⟨xa, xb, xc, xd, xe⟩, -, xz⟩ := blk5 gp
    clear gp
    go_wp2_with fail
    clear pa pb pc pd pe pz xa xb xc xd xe xz
    refine (lrest_any room s1 p1 false l1 A3 q3 _ (F.below V.out.below) (V.out.at 1 rfl) hl1').mono ?_
    rintro e w6 ⟨rfl, hb⟩
    rw [← HA.out]
    replace V := Lib.hid (V.out.call hb)
    clear hb
    have gp := V.out.at 3 rfl
    obtain ⟨⟨pa, pb, pc, pd, pe⟩, -, pz⟩ := blk5 gp
    clear gp
    have gp := V.out.at 0 rfl
    obtain ⟨⟨xa, xb, xc, xd, xe⟩, -, xz⟩ := blk5 gp
    clear gp
    go_wp2_with fail
    clear pa pb pc pd pe pz xa xb xc xd xe xz
    refine (linked_any _ (F.below V.out.below)).mono ?_
    rintro e w7 ⟨rfl, hb⟩
    replace V := Lib.hid (V.out.call hb)
    clear hb
    have gp := V.out.at 3 rfl
    obtain ⟨⟨pa, pb, pc, pd, pe⟩, -, pz⟩ := blk5 gp
    clear gp
    have gp := V.out.at 0 rfl
    obtain ⟨⟨xa, xb, xc, xd, xe⟩, -, xz⟩ := blk5 gp
    clear gp
    go_wp2_with fail
    clear pa pb pc pd pe pz xa xb xc xd xe xz
    refine (lrest_any room sent 0 false l A cap _ (F.below V.out.below) (V.out.at 2 rfl) hl2).mono ?_
    rintro e w8 ⟨rfl, hb⟩
    rw [← HW.out]
    replace V := Lib.hid (V.out.call hb)
    clear hb
    go_wp2
    go_ret
    exact ⟨by simp, V.out.below⟩
  have j7 : ra.toList.isEmpty = false := by
    rw [ByteArray.toList_eq]
    cases hl : ra.data.toList with
    | nil => exact absurd (ext_list ra ⟨#[]⟩ hl) i4
    | cons _ _ => rfl
  have j5 := decide_eq_false i4
  have i5 : p1 ≠ 0 := by
    rcases hidle with h | h | h | h | h
    · omega
    · cases h
    · exact absurd rfl h
    · exact absurd h i4
    · exact h
  have j6 : (p1 == (0 : Int)) = false := by simp [i5]
  clear hidle
  replace V := Lib.hid (V.out.row (HR.out.below V.out.below))
  go_enter Tryd.func7, Tryd.ntmps7
  go_wp2_with fail
  refine (lkbig_any room sent 0 false A l.length cap _).mono ?_
  rintro e w1 ⟨rfl, hb⟩
  rw [hB]
  replace V := Lib.hid (V.out.call hb)
  clear hb
  have gp := V.out.at 1 rfl
  obtain ⟨⟨pa, pb, pc, pd, pe⟩, -, pz⟩ := blk5 gp
  clear gp
  go_wp2_with fail
  clear pa pb pc pd pe pz
  refine (lrest_any room sent 0 false l A cap _ (F.below V.out.below) (V.out.at 0 rfl) hl2).mono ?_
  rintro e w2 ⟨rfl, hb⟩
  rw [← HW.out]
  replace V := Lib.hid (V.out.call hb)
  clear hb
  have gp := V.out.at 1 rfl
  obtain ⟨⟨pa, pb, pc, pd, pe⟩, -, pz⟩ := blk5 gp
  clear gp
  go_wp2_with fail
  clear pa pb pc pd pe pz
  have hrow := V.out.at 0 rfl
  refine (lsend_any room sent 0 false g l A cap _ (F.below V.out.below) hrow hl2).mono ?_
  rintro e w3 ⟨ho, hb⟩
  rw [HSD.out] at ho
  dsimp only at ho
  obtain ⟨A3, q3, rfl, hk⟩ := ho
  replace hk := hk.below hb
  clear hrow
  replace V := Lib.hid (V.out.call hb)
  clear hb
  replace V := Lib.hid (V.out.row (hk))
  clear hk
  replace V := Lib.hid (V.out.box #[.int .i64 room, .slice A3 l1.length q3, .int .i64 s1, .int .i64 p1, .bool false] 24)
  have gp := V.out.at 3 rfl
  obtain ⟨⟨pa, pb, pc, pd, pe⟩, -, pz⟩ := blk5 gp
  clear gp
  have gp := V.out.at 0 rfl
  obtain ⟨⟨xa, xb, xc, xd, xe⟩, -, xz⟩ := blk5 gp
  clear gp
  go_wp2_with fail
  clear pa pb pc pd pe pz xa xb xc xd xe xz
  refine (lis_any room sent 0 false l A cap _ (F.below V.out.below) (V.out.at 2 rfl) hl2).mono ?_
  rintro e w4 ⟨rfl, hb⟩
  rw [hI]
  replace V := Lib.hid (V.out.call hb)
  clear hb
  have gp := V.out.at 3 rfl
  obtain ⟨⟨pa, pb, pc, pd, pe⟩, -, pz⟩ := blk5 gp
  clear gp
  have gp := V.out.at 0 rfl
  obtain ⟨⟨xa, xb, xc, xd, xe⟩, -, xz⟩ := blk5 gp
  clear gp
  go_wp2_with fail
  clear pa pb pc pd pe pz xa xb xc xd xe xz
  refine (lrest_any room s1 p1 false l1 A3 q3 _ (F.below V.out.below) (V.out.at 1 rfl) hl1').mono ?_
  rintro e w5 ⟨rfl, hb⟩
  rw [← HA.out]
  replace V := Lib.hid (V.out.call hb)
  clear hb
  have gp := V.out.at 3 rfl
  obtain ⟨⟨pa, pb, pc, pd, pe⟩, -, pz⟩ := blk5 gp
  clear gp
  have gp := V.out.at 0 rfl
  obtain ⟨⟨xa, xb, xc, xd, xe⟩, -, xz⟩ := blk5 gp
  clear gp
  go_wp2_with fail
  clear pa pb pc pd pe pz xa xb xc xd xe xz
  refine (lrest_any room s1 p1 false l1 A3 q3 _ (F.below V.out.below) (V.out.at 1 rfl) hl1').mono ?_
  rintro e w6 ⟨rfl, hb⟩
  rw [← HA.out]
  replace V := Lib.hid (V.out.call hb)
  clear hb
  have gp := V.out.at 3 rfl
  obtain ⟨⟨pa, pb, pc, pd, pe⟩, -, pz⟩ := blk5 gp
  clear gp
  have gp := V.out.at 0 rfl
  obtain ⟨⟨xa, xb, xc, xd, xe⟩, -, xz⟩ := blk5 gp
  clear gp
  go_wp2_with fail
  clear pa pb pc pd pe pz xa xb xc xd xe xz
  refine (linked_any _ (F.below V.out.below)).mono ?_
  rintro e w7 ⟨rfl, hb⟩
  replace V := Lib.hid (V.out.call hb)
  clear hb
  have gp := V.out.at 3 rfl
  obtain ⟨⟨pa, pb, pc, pd, pe⟩, -, pz⟩ := blk5 gp
  clear gp
  have gp := V.out.at 0 rfl
  obtain ⟨⟨xa, xb, xc, xd, xe⟩, -, xz⟩ := blk5 gp
  clear gp
  go_wp2_with fail
  clear pa pb pc pd pe pz xa xb xc xd xe xz
  refine (lrest_any room sent 0 false l A cap _ (F.below V.out.below) (V.out.at 2 rfl) hl2).mono ?_
  rintro e w8 ⟨rfl, hb⟩
  rw [← HW.out]
  replace V := Lib.hid (V.out.call hb)
  clear hb
  go_wp2
  go_ret
  exact ⟨by simp, V.out.below⟩
end Go.Proofs.YtgpebdoafblacaaDoor
