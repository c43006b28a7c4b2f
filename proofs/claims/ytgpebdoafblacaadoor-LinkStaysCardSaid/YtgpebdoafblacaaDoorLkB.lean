/- Links: the program's Rest, New, Tick, Hold, Drop. -/
import Derived.Test.YtgpebdoafblacaaDoorLkA
import Derived.Test.YtgpebdoafblacaaDoorVtL
import Derived.BigGuardPart
import Derived.BigQuiet
import Derived.Deep.QuietTactic
import Derived.Deep.RegionHeld3
set_option linter.unusedVariables false
namespace Go.Proofs.YtgpebdoafblacaaDoor
open Go.RowKit Gl L Vt Lk
theorem btsL_next (l : List Cmd) (k : Nat) (hk : k < l.length) : btsL (l.take (k + 1)) = btsL (l.take k) ++ bts (cK l k) (cA l k) (cB l k) (cR l k) := by
  rw [List.take_add_one, List.getElem?_eq_getElem hk, btsL_append]
  have h : l.getD k d0 = l[k] := by simp [List.getD, hk]
  have e : bts (cK l k) (cA l k) (cB l k) (cR l k) = btC l[k] := by
    show btC (l.getD k d0) = _
    rw [h]
  rw [e]
  show _ ++ (btC l[k] ++ ⟨#[]⟩) = _
  rw [app_nil]
theorem rt_55 {room sent pad : Int} {off : Bool} {l : List Cmd} (h : rt ⟨room, l, sent, pad, off⟩) : l.length ≤ 55 ∧ costL l ≤ 55 := by
  have h1 := rt_len h
  have h2 := rt_sent h
  have h3 : (costL l : Int) - sent ≤ room := h.2.2.2.2.2.2.2.2
  have h4 : room ≤ 48 := h.2.1
  dsimp only at h1 h2
  exact ⟨h1, by omega⟩
set_option maxRecDepth 100000 in
set_option maxHeartbeats 8000000 in
theorem lrest_any (room sent pad : Int) (off : Bool) (l : List Cmd) (A : Option Addr) (cap : Nat) (w : World) (F : Forms w 0) (hr : Rk w (.slice A l.length cap) l) (hl : l.length ≤ 100000) :
    Calls Tryd.prog 19 #[.agg #[.int .i64 room, .slice A l.length cap, .int .i64 sent, .int .i64 pad, .bool off]] w fun e w' => e = .returned (.string (rs ⟨room, l, sent, pad, off⟩)) ∧ Below w.heap.size w w' := by
  have HB0 := Lib.hid ((Below.refl w.heap.size w).alloc (Nat.le_refl _) (.cells #[.int .i64 room, .slice A l.length cap, .int .i64 sent, .int .i64 pad, .bool off] 24))
  have hI := Lib.hid (lis_any room sent pad off l A cap _ (F.below HB0.out) (hr.below HB0.out) hl)
  by_cases hk : rt ⟨room, l, sent, pad, off⟩
  case neg =>
    rw [rs_no hk]
    rw [decide_eq_false hk] at hI
    clear F hr
    go_enter Tryd.func19, Tryd.ntmps19
    go_wp2_with fail
    refine hI.out.mono ?_
    rintro e w1 ⟨rfl, hb⟩
    have HB1 := Lib.hid (HB0.out.trans (hb.mono HB0.out.size))
    go_wp2
    go_ret
    exact ⟨rfl, HB1.out⟩
  rw [rs_yes hk]
  rw [decide_eq_true hk] at hI
  obtain ⟨-, -, hs7⟩ := rt_sent hk
  obtain ⟨h55, hc55⟩ := rt_55 hk
  have hs0 : 0 ≤ sent := hk.2.2.2.2.1
  dsimp only at hs7
  have HF := Lib.hid F
  have HC := Lib.hid (cmds_row hr.rw)
  have HG := Lib.hid (heap_alloc_new w (.cells #[.int .i64 room, .slice A l.length cap, .int .i64 sent, .int .i64 pad, .bool off] 24))
  have HZ := Lib.hid (btsL_size l)
  clear F hr hk
  go_enter Tryd.func19, Tryd.ntmps19
  go_wp2_with fail
  refine hI.out.mono ?_
  rintro e w1 ⟨rfl, hb⟩
  have HB1 := Lib.hid (HB0.out.trans (hb.mono HB0.out.size))
  have HG1 := Lib.hid (carry hb HG.out)
  clear hb hI HG HB0
  obtain ⟨⟨c0, c1, c2, c3, c4⟩, -, hz⟩ := blk5 HG1.out
  go_wp2
  clear c0 c1 c2 c3 c4
  go_loopw [14, 3] (fun i s wr => ∃ k : Nat, k ≤ l.length ∧ i = .int .i64 k ∧ s = .string (btsL (l.take k)) ∧ Below w1.heap.size w1 wr) (fun i _ _ => l.length - (intOf i).toNat)
  case atStart => exact ⟨0, by omega, rfl, rfl, Below.refl _ _⟩
  case round =>
    obtain ⟨k, hk, rfl, rfl, hw⟩ := hrel
    have HW := Lib.hid hw
    have HB := Lib.hid (HB1.out.trans (hw.mono HB1.out.size))
    clear hw
    by_cases hlt : k < l.length
    · obtain ⟨A', cap', e, hcc⟩ := HC.out
      cases e
      rcases hcc with h0 | ⟨g, o, rfl, hcc⟩
      · omega
      obtain ⟨e0, e1, e2, e3⟩ := hcc k hlt
      replace e0 := keepC HB.out e0
      replace e1 := keepC HB.out e1
      replace e2 := keepC HB.out e2
      replace e3 := keepC HB.out e3
      have g0 := World.block_lt_of_cell? wr _ e0
      clear hcc
      have hT := Lib.hid (fun wz hb => vput_any (cK l k) (cA l k) (cB l k) (cR l k) wz (HF.out.below (w' := wz) hb))
      have hN := Lib.hid (btsL_next l k hlt)
      have hq1 := bts_size (cK l k) (cA l k) (cB l k) (cR l k)
      have hq2 : (btsL (l.take k)).size ≤ 8 * l.length := by
        have := costL_bd (l.take k)
        rw [btsL_size]
        rw [List.length_take] at this
        omega
      go_wp2_with fail
      refine (hT.out _ (HB.out.alloc HB.out.size _)).mono ?_
      rintro e w2 ⟨rfl, hw2⟩
      unfold pv
      have HW1 := Lib.hid ((HW.out.alloc HW.out.size _).trans (hw2.mono (HW.out.alloc HW.out.size _).size))
      go_wp2
      go_roundw
      case rel => exact ⟨k + 1, by omega, by go_num, by rw [hN.out], HW1.out⟩
      case measure => simp [intOf]; omega
    · obtain rfl : k = l.length := by omega
      rw [List.take_length]
      clear hlt
      have hg := carry HW.out HG1.out
      obtain ⟨⟨c0, c1, c2, c3, c4⟩, -, hz⟩ := blk5 hg
      clear hg
      have hz1 : (btsL l).size = costL l := HZ.out
      go_wp2
      go_ret
      exact ⟨ret_str (by unfold suf; rw [hz1]), HB.out⟩
theorem tk_is (room sent pad : Int) (off : Bool) (l : List Cmd) : tk ⟨room, l, sent, pad, off⟩ = ⟨room, l, sent, (tk ⟨room, l, sent, pad, off⟩).pad, off⟩ := by
  unfold tk; split <;> rfl
theorem hd_is (room sent pad : Int) (off : Bool) (l : List Cmd) (b : Bool) : hd ⟨room, l, sent, pad, off⟩ b = ⟨room, l, sent, pad, (hd ⟨room, l, sent, pad, off⟩ b).off⟩ := by
  unfold hd; split <;> rfl
set_option maxHeartbeats 4000000 in
theorem ltick_any (room sent pad : Int) (off : Bool) (l : List Cmd) (A : Option Addr) (cap : Nat) (w : World) (F : Forms w 0) (hr : Rk w (.slice A l.length cap) l) (hl : l.length ≤ 100000) :
    Calls Tryd.prog 26 #[.agg #[.int .i64 room, .slice A l.length cap, .int .i64 sent, .int .i64 pad, .bool off]] w fun e w' => e = .returned (.agg #[.int .i64 room, .slice A l.length cap, .int .i64 sent, .int .i64 (tk ⟨room, l, sent, pad, off⟩).pad, .bool off]) ∧ Below w.heap.size w w' := by
  have V := Lib.hid (((La.start w).box #[.int .i64 room, .slice A l.length cap, .int .i64 sent, .int .i64 pad, .bool off] 24).box #[.int .i64 0, .slice none 0 0, .int .i64 0, .int .i64 0, .bool false] 24)
  have hI := Lib.hid (lis_any room sent pad off l A cap _ (F.below V.out.below) (hr.below V.out.below) hl)
  clear F hr
  by_cases hk : rt ⟨room, l, sent, pad, off⟩
  · rw [decide_eq_true hk] at hI
    have hp : 0 ≤ pad ∧ pad ≤ 2 := ⟨hk.2.2.1, hk.2.2.2.1⟩
    by_cases h0 : 0 < pad
    · rw [show (tk ⟨room, l, sent, pad, off⟩).pad = pad - 1 by unfold tk; rw [if_pos ⟨hk, h0⟩]]
      clear hk
      go_enter Tryd.func26, Tryd.ntmps26
      go_wp2_with fail
      refine hI.out.mono ?_
      rintro e w1 ⟨rfl, hb⟩
      replace V := Lib.hid (V.out.call hb)
      clear hb hI
      have g0 := V.out.at 0 rfl
      have g1 := V.out.at 1 rfl
      rw [one_size] at g0
      obtain ⟨⟨c0, c1, c2, c3, c4⟩, ⟨f0, f1, f2, f3, f4⟩, hz⟩ := blk5 g1
      obtain ⟨⟨d0, d1, d2, d3, d4⟩, ⟨k0, k1, k2, k3, k4⟩, hz2⟩ := blk5 g0
      clear g0 g1
      go_wp2
      refine bodyPost_ret (v := .agg #[.int .i64 room, .slice A l.length cap, .int .i64 sent, .int .i64 (pad - 1), .bool off]) (by simp [results, Tryd.results26, go_sem, *]) rfl ⟨rfl, ?_⟩
      repeat (first | (with_reducible exact V.out.below) | refine Below.setCell ?_ (by simp) _)
    · rw [show (tk ⟨room, l, sent, pad, off⟩).pad = pad by unfold tk; rw [if_neg fun h => h0 h.2]]
      clear hk
      go_enter Tryd.func26, Tryd.ntmps26
      go_wp2_with fail
      refine hI.out.mono ?_
      rintro e w1 ⟨rfl, hb⟩
      replace V := Lib.hid (V.out.call hb)
      clear hb hI
      have g0 := V.out.at 0 rfl
      have g1 := V.out.at 1 rfl
      rw [one_size] at g0
      obtain ⟨⟨c0, c1, c2, c3, c4⟩, ⟨f0, f1, f2, f3, f4⟩, hz⟩ := blk5 g1
      obtain ⟨⟨d0, d1, d2, d3, d4⟩, ⟨k0, k1, k2, k3, k4⟩, hz2⟩ := blk5 g0
      clear g0 g1
      go_wp2
      refine bodyPost_ret (v := .agg #[.int .i64 room, .slice A l.length cap, .int .i64 sent, .int .i64 pad, .bool off]) (by simp [results, Tryd.results26, go_sem, *]) rfl ⟨rfl, ?_⟩
      repeat (first | (with_reducible exact V.out.below) | refine Below.setCell ?_ (by simp) _)
  · rw [show (tk ⟨room, l, sent, pad, off⟩).pad = pad by unfold tk; rw [if_neg fun h => hk h.1]]
    rw [decide_eq_false hk] at hI
    clear hk
    go_enter Tryd.func26, Tryd.ntmps26
    go_wp2_with fail
    refine hI.out.mono ?_
    rintro e w1 ⟨rfl, hb⟩
    replace V := Lib.hid (V.out.call hb)
    clear hb hI
    have g0 := V.out.at 0 rfl
    have g1 := V.out.at 1 rfl
    rw [one_size] at g0
    obtain ⟨⟨c0, c1, c2, c3, c4⟩, ⟨f0, f1, f2, f3, f4⟩, hz⟩ := blk5 g1
    obtain ⟨⟨d0, d1, d2, d3, d4⟩, ⟨k0, k1, k2, k3, k4⟩, hz2⟩ := blk5 g0
    clear g0 g1
    go_wp2
    refine bodyPost_ret (v := .agg #[.int .i64 room, .slice A l.length cap, .int .i64 sent, .int .i64 pad, .bool off]) (by simp [results, Tryd.results26, go_sem, *]) rfl ⟨rfl, ?_⟩
    repeat (first | (with_reducible exact V.out.below) | refine Below.setCell ?_ (by simp) _)
set_option maxHeartbeats 4000000 in
theorem lhold_any (room sent pad : Int) (off : Bool) (q : Bool) (l : List Cmd) (A : Option Addr) (cap : Nat) (w : World) (F : Forms w 0) (hr : Rk w (.slice A l.length cap) l) (hl : l.length ≤ 100000) :
    Calls Tryd.prog 28 #[.agg #[.int .i64 room, .slice A l.length cap, .int .i64 sent, .int .i64 pad, .bool off], .bool q] w fun e w' => e = .returned (.agg #[.int .i64 room, .slice A l.length cap, .int .i64 sent, .int .i64 pad, .bool (hd ⟨room, l, sent, pad, off⟩ q).off]) ∧ Below w.heap.size w w' := by
  have V := Lib.hid (((La.start w).box #[.int .i64 room, .slice A l.length cap, .int .i64 sent, .int .i64 pad, .bool off] 24).box #[.int .i64 0, .slice none 0 0, .int .i64 0, .int .i64 0, .bool false] 24)
  have hI := Lib.hid (lis_any room sent pad off l A cap _ (F.below V.out.below) (hr.below V.out.below) hl)
  clear F hr
  by_cases hk : rt ⟨room, l, sent, pad, off⟩
  · rw [decide_eq_true hk] at hI
    rw [show (hd ⟨room, l, sent, pad, off⟩ q).off = q by unfold hd; rw [if_pos hk]]
    clear hk
    go_enter Tryd.func28, Tryd.ntmps28
    go_wp2_with fail
    refine hI.out.mono ?_
    rintro e w1 ⟨rfl, hb⟩
    replace V := Lib.hid (V.out.call hb)
    clear hb hI
    have g0 := V.out.at 0 rfl
    have g1 := V.out.at 1 rfl
    rw [one_size] at g0
    obtain ⟨⟨c0, c1, c2, c3, c4⟩, ⟨f0, f1, f2, f3, f4⟩, hz⟩ := blk5 g1
    obtain ⟨⟨d0, d1, d2, d3, d4⟩, ⟨k0, k1, k2, k3, k4⟩, hz2⟩ := blk5 g0
    clear g0 g1
    go_wp2
    refine bodyPost_ret (v := .agg #[.int .i64 room, .slice A l.length cap, .int .i64 sent, .int .i64 pad, .bool q]) (by simp [results, Tryd.results28, go_sem, *]) rfl ⟨rfl, ?_⟩
    repeat (first | (with_reducible exact V.out.below) | refine Below.setCell ?_ (by simp) _)
  · rw [show (hd ⟨room, l, sent, pad, off⟩ q).off = off by unfold hd; rw [if_neg hk]]
    rw [decide_eq_false hk] at hI
    clear hk
    go_enter Tryd.func28, Tryd.ntmps28
    go_wp2_with fail
    refine hI.out.mono ?_
    rintro e w1 ⟨rfl, hb⟩
    replace V := Lib.hid (V.out.call hb)
    clear hb hI
    have g0 := V.out.at 0 rfl
    have g1 := V.out.at 1 rfl
    rw [one_size] at g0
    obtain ⟨⟨c0, c1, c2, c3, c4⟩, ⟨f0, f1, f2, f3, f4⟩, hz⟩ := blk5 g1
    obtain ⟨⟨d0, d1, d2, d3, d4⟩, ⟨k0, k1, k2, k3, k4⟩, hz2⟩ := blk5 g0
    clear g0 g1
    go_wp2
    refine bodyPost_ret (v := .agg #[.int .i64 room, .slice A l.length cap, .int .i64 sent, .int .i64 pad, .bool off]) (by simp [results, Tryd.results28, go_sem, *]) rfl ⟨rfl, ?_⟩
    repeat (first | (with_reducible exact V.out.below) | refine Below.setCell ?_ (by simp) _)
theorem lnew_any (room : Int) (w : World) : Calls Tryd.prog 13 #[.int .i64 room] w fun e w' => e = .returned (.tuple #[.agg #[.int .i64 (nw room).room, .slice none 0 0, .int .i64 0, .int .i64 0, .bool false], .int .i64 (nwE room)]) ∧ Below w.heap.size w w' := by
  by_cases h : 8 ≤ room ∧ room ≤ 48
  · rw [show (nw room).room = room by unfold nw; rw [if_pos h], show nwE room = 0 from if_pos h]
    obtain ⟨h1, h2⟩ := h
    have h3 : ¬ room < 8 := by omega
    have h4 : ¬ 48 < room := by omega
    go_enter Tryd.func13, Tryd.ntmps13
    go_wp2
    refine bodyPost_ret (v := .tuple #[.agg #[.int .i64 room, .slice none 0 0, .int .i64 0, .int .i64 0, .bool false], .int .i64 0]) (by simp [results, Tryd.results13, go_sem]) rfl ⟨rfl, ?_⟩
    repeat (first | (with_reducible exact Below.refl _ _) | refine Below.alloc ?_ (by simp) _ | refine Below.setCell ?_ (by simp) _)
  · rw [show (nw room).room = 0 by unfold nw; rw [if_neg h]; rfl, show nwE room = 4 from if_neg h]
    by_cases h1 : room < 8
    · clear h
      go_enter Tryd.func13, Tryd.ntmps13
      go_wp2
      refine bodyPost_ret (v := .tuple #[.agg #[.int .i64 0, .slice none 0 0, .int .i64 0, .int .i64 0, .bool false], .int .i64 4]) (by simp [results, Tryd.results13, go_sem]) rfl ⟨rfl, ?_⟩
      repeat (first | (with_reducible exact Below.refl _ _) | refine Below.alloc ?_ (by simp) _ | refine Below.setCell ?_ (by simp) _)
    · have h2 : 48 < room := by omega
      clear h
      go_enter Tryd.func13, Tryd.ntmps13
      go_wp2
      refine bodyPost_ret (v := .tuple #[.agg #[.int .i64 0, .slice none 0 0, .int .i64 0, .int .i64 0, .bool false], .int .i64 4]) (by simp [results, Tryd.results13, go_sem]) rfl ⟨rfl, ?_⟩
      repeat (first | (with_reducible exact Below.refl _ _) | refine Below.alloc ?_ (by simp) _ | refine Below.setCell ?_ (by simp) _)
theorem rlnew_any (room : Int) (w : World) : Calls Tryd.prog 14 #[.int .i64 room] w fun e w' => e = .returned (.tuple #[.agg #[.int .i64 (nw room).room, .slice none 0 0, .int .i64 0, .int .i64 0, .bool false], .int .i64 (nwE room)]) ∧ Below w.heap.size w w' := by
  by_cases h : 8 ≤ room ∧ room ≤ 48
  · rw [show (nw room).room = room by unfold nw; rw [if_pos h], show nwE room = 0 from if_pos h]
    obtain ⟨h1, h2⟩ := h
    have h3 : ¬ room < 8 := by omega
    have h4 : ¬ 48 < room := by omega
    go_enter Tryd.func14, Tryd.ntmps14
    go_wp2
    refine bodyPost_ret (v := .tuple #[.agg #[.int .i64 room, .slice none 0 0, .int .i64 0, .int .i64 0, .bool false], .int .i64 0]) (by simp [results, Tryd.results14, go_sem]) rfl ⟨rfl, ?_⟩
    repeat (first | (with_reducible exact Below.refl _ _) | refine Below.alloc ?_ (by simp) _ | refine Below.setCell ?_ (by simp) _)
  · rw [show (nw room).room = 0 by unfold nw; rw [if_neg h]; rfl, show nwE room = 4 from if_neg h]
    by_cases h1 : room < 8
    · clear h
      go_enter Tryd.func14, Tryd.ntmps14
      go_wp2
      refine bodyPost_ret (v := .tuple #[.agg #[.int .i64 0, .slice none 0 0, .int .i64 0, .int .i64 0, .bool false], .int .i64 4]) (by simp [results, Tryd.results14, go_sem]) rfl ⟨rfl, ?_⟩
      repeat (first | (with_reducible exact Below.refl _ _) | refine Below.alloc ?_ (by simp) _ | refine Below.setCell ?_ (by simp) _)
    · have h2 : 48 < room := by omega
      clear h
      go_enter Tryd.func14, Tryd.ntmps14
      go_wp2
      refine bodyPost_ret (v := .tuple #[.agg #[.int .i64 0, .slice none 0 0, .int .i64 0, .int .i64 0, .bool false], .int .i64 4]) (by simp [results, Tryd.results14, go_sem]) rfl ⟨rfl, ?_⟩
      repeat (first | (with_reducible exact Below.refl _ _) | refine Below.alloc ?_ (by simp) _ | refine Below.setCell ?_ (by simp) _)
end Go.Proofs.YtgpebdoafblacaaDoor
