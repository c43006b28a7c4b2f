/- Links: LinkTurns. -/
import Derived.Test.YtgpebdoafblacaaDoorLkW
import Derived.Test.YtgpebdoafblacaaDoorLkT
import Derived.Test.YtgpebdoafblacaaDoorLkU
import Derived.Test.YtgpebdoafblacaaDoorLkV
import Derived.Test.YtgpebdoafblacaaDoorLkX
import Derived.BigGuardPart
import Derived.BigQuiet
import Derived.Deep.QuietTactic
import Derived.Deep.RegionHeld3
set_option linter.unusedVariables false
namespace Go.Proofs.YtgpebdoafblacaaDoor
open Go.RowKit Go.PlainAid Gl L Vt Lk
theorem dp_len (k : Lnk) : (dp k).l.length ≤ k.l.length ∧ (gn k).length ≤ k.l.length := by
  unfold dp gn
  split
  · constructor
    · show (k.l.take _).length ≤ _; simp; omega
    · simp
  · exact ⟨Nat.le_refl _, Nat.zero_le _⟩
theorem dp_is (room sent pad : Int) (off : Bool) (l : List Cmd) : dp ⟨room, l, sent, pad, off⟩ = ⟨room, (dp ⟨room, l, sent, pad, off⟩).l, sent, pad, off⟩ := by
  unfold dp; split <;> rfl
theorem keepL15 {B : Nat} {W w1 w2 : World} {Ts : List (World → Prop)} {b0 o0 b1 o1 b2 o2 b3 o3 b4 o4 b5 o5 b6 o6 b7 o7 b8 o8 b9 o9 b10 o10 b11 o11 b12 o12 b13 o13 b14 o14 : Nat} {x0 x1 x2 x3 x4 x5 x6 x7 x8 x9 x10 x11 x12 x13 x14 : Value} (hb : Below w1.heap.size w1 w2) (h : w1.cell? ⟨b0, o0, none⟩ = some x0 ∧ w1.cell? ⟨b1, o1, none⟩ = some x1 ∧ w1.cell? ⟨b2, o2, none⟩ = some x2 ∧ w1.cell? ⟨b3, o3, none⟩ = some x3 ∧ w1.cell? ⟨b4, o4, none⟩ = some x4 ∧ w1.cell? ⟨b5, o5, none⟩ = some x5 ∧ w1.cell? ⟨b6, o6, none⟩ = some x6 ∧ w1.cell? ⟨b7, o7, none⟩ = some x7 ∧ w1.cell? ⟨b8, o8, none⟩ = some x8 ∧ w1.cell? ⟨b9, o9, none⟩ = some x9 ∧ w1.cell? ⟨b10, o10, none⟩ = some x10 ∧ w1.cell? ⟨b11, o11, none⟩ = some x11 ∧ w1.cell? ⟨b12, o12, none⟩ = some x12 ∧ w1.cell? ⟨b13, o13, none⟩ = some x13 ∧ w1.cell? ⟨b14, o14, none⟩ = some x14 ∧ La B W w1 Ts) : w2.cell? ⟨b0, o0, none⟩ = some x0 ∧ w2.cell? ⟨b1, o1, none⟩ = some x1 ∧ w2.cell? ⟨b2, o2, none⟩ = some x2 ∧ w2.cell? ⟨b3, o3, none⟩ = some x3 ∧ w2.cell? ⟨b4, o4, none⟩ = some x4 ∧ w2.cell? ⟨b5, o5, none⟩ = some x5 ∧ w2.cell? ⟨b6, o6, none⟩ = some x6 ∧ w2.cell? ⟨b7, o7, none⟩ = some x7 ∧ w2.cell? ⟨b8, o8, none⟩ = some x8 ∧ w2.cell? ⟨b9, o9, none⟩ = some x9 ∧ w2.cell? ⟨b10, o10, none⟩ = some x10 ∧ w2.cell? ⟨b11, o11, none⟩ = some x11 ∧ w2.cell? ⟨b12, o12, none⟩ = some x12 ∧ w2.cell? ⟨b13, o13, none⟩ = some x13 ∧ w2.cell? ⟨b14, o14, none⟩ = some x14 ∧ La B W w2 Ts := by
  obtain ⟨h0, h1, h2, h3, h4, h5, h6, h7, h8, h9, h10, h11, h12, h13, h14, hw⟩ := h
  exact ⟨keepC hb h0, keepC hb h1, keepC hb h2, keepC hb h3, keepC hb h4, keepC hb h5, keepC hb h6, keepC hb h7, keepC hb h8, keepC hb h9, keepC hb h10, keepC hb h11, keepC hb h12, keepC hb h13, keepC hb h14, hw.call hb⟩
set_option maxRecDepth 100000 in
set_option maxHeartbeats 16000000 in
theorem lturns_law (room sent pad : Int) (off : Bool) (qo : Bool) (l : List Cmd) (A : Option Addr) (cap : Nat) (w : World) (F : Forms w 0) (hr : Rk w (.slice A l.length cap) l) :
    Calls Tryd.prog 5 #[.agg #[.int .i64 room, .slice A l.length cap, .int .i64 sent, .int .i64 pad, .bool off], .bool qo] w fun e w' => e = .returned (.bool true) ∧ Below w.heap.size w w' := by
  have V := Lib.hid ((La.start w).box #[.int .i64 room, .slice A l.length cap, .int .i64 sent, .int .i64 pad, .bool off] 24)
  by_cases hbig : 200 < l.length
  case pos =>
    have hB := decide_eq_true hbig
    clear hbig
    go_enter Tryd.func5, Tryd.ntmps5
    go_wp2_with fail
    refine (lkbig_any room sent pad off A l.length cap _).mono ?_
    rintro e w1 ⟨rfl, hb⟩
    rw [hB]
    replace V := Lib.hid (V.out.call hb)
    clear hb
    go_wp2
    go_ret
    exact ⟨rfl, V.out.below⟩
  have hl : l.length ≤ 200 := by omega
  have hl2 : l.length ≤ 100000 := by omega
  have hB := decide_eq_false hbig
  clear hbig
  obtain ⟨ld, hld⟩ : ∃ x, x = (dp ⟨room, l, sent, pad, off⟩).l := ⟨_, rfl⟩
  obtain ⟨lg, hlg⟩ : ∃ x, x = gn ⟨room, l, sent, pad, off⟩ := ⟨_, rfl⟩
  obtain ⟨tp, htp⟩ : ∃ x, x = (tk ⟨room, l, sent, pad, off⟩).pad := ⟨_, rfl⟩
  obtain ⟨oo, hoo⟩ : ∃ x, x = (hd ⟨room, l, sent, pad, off⟩ qo).off := ⟨_, rfl⟩
  have hdl := dp_len ⟨room, l, sent, pad, off⟩
  rw [← hld, ← hlg] at hdl
  dsimp only at hdl
  have hl1 : ld.length ≤ 100000 := by omega
  have hl3 : lg.length ≤ 100000 := by omega
  have HD := Lib.hid hld
  have HG := Lib.hid hlg
  have HT := Lib.hid htp
  have HO := Lib.hid hoo
  clear hld hlg htp hoo hdl
  replace V := Lib.hid (V.out.row (hr.below V.out.below))
  clear hr
  go_enter Tryd.func5, Tryd.ntmps5
  go_wp2_with fail
  refine (lkbig_any room sent pad off A l.length cap _).mono ?_
  rintro e w1 ⟨rfl, hb⟩
  rw [hB]
  replace V := Lib.hid (V.out.call hb)
  clear hb
  have gp := V.out.at 1 rfl
  obtain ⟨⟨pa, pb, pc, pd, pe⟩, -, pz⟩ := blk5 gp
  clear gp
  go_wp2_with fail
  clear pa pb pc pd pe pz
  have hrow := V.out.at 0 rfl
  refine (ldrop_any room sent pad off l A cap _ (F.below V.out.below) hrow (by omega)).mono ?_
  rintro e w2 ⟨ho, hb⟩
  rw [← HD.out, ← HG.out] at ho
  obtain ⟨A2, q2, B2, u2, rfl, hk, hk2⟩ := ho
  clear hrow
  replace V := Lib.hid (V.out.call hb)
  clear hb
  replace V := Lib.hid (V.out.row (hk))
  replace V := Lib.hid (V.out.row (hk2))
  clear hk hk2
  replace V := Lib.hid (V.out.box #[.int .i64 room, .slice A2 ld.length q2, .int .i64 sent, .int .i64 pad, .bool off] 24)
  have gp := V.out.at 4 rfl
  obtain ⟨⟨pa, pb, pc, pd, pe⟩, -, pz⟩ := blk5 gp
  clear gp
  go_wp2_with fail
  clear pa pb pc pd pe pz
  have hrow := V.out.at 3 rfl
  refine (rldrop_any room sent pad off l A cap _ hrow (by omega)).mono ?_
  rintro e w3 ⟨ho, hb⟩
  rw [← HD.out, ← HG.out] at ho
  obtain ⟨A3, q3, B3, u3, rfl, hk, hk2⟩ := ho
  clear hrow
  replace V := Lib.hid (V.out.call hb)
  clear hb
  replace V := Lib.hid (V.out.row (hk))
  replace V := Lib.hid (V.out.row (hk2))
  clear hk hk2
  replace V := Lib.hid (V.out.box #[.int .i64 room, .slice A3 ld.length q3, .int .i64 sent, .int .i64 pad, .bool off] 24)
  have gp := V.out.at 3 rfl
  obtain ⟨⟨xa, xb, xc, xd, xe⟩, -, xz⟩ := blk5 gp
  clear gp
  have gp := V.out.at 0 rfl
  obtain ⟨⟨ya, yb, yc, yd, ye⟩, -, yz⟩ := blk5 gp
  clear gp
  have gp := V.out.at 7 rfl
  obtain ⟨⟨za, zb, zc, zd, ze⟩, -, zz⟩ := blk5 gp
  clear gp
  go_wp2
  obtain ⟨Ts, V, HT_rK, HT_rA, HT_rB, HT_rGa, HT_rGb⟩ : ∃ Ts, Hid (La w.heap.size w (w3.alloc (.cells #[.int .i64 room, .slice A3 ld.length q3, .int .i64 sent, .int .i64 pad, .bool off] 24)) Ts) ∧ Hid (Ts[6]? = some (fun w' : World => Rk w' (.slice A l.length cap) l)) ∧ Hid (Ts[5]? = some (fun w' : World => Rk w' (.slice A2 ld.length q2) ld)) ∧ Hid (Ts[2]? = some (fun w' : World => Rk w' (.slice A3 ld.length q3) ld)) ∧ Hid (Ts[4]? = some (fun w' : World => Rk w' (.slice B2 lg.length u2) lg)) ∧ Hid (Ts[1]? = some (fun w' : World => Rk w' (.slice B3 lg.length u3) lg)) :=
    ⟨_, V, Lib.hid rfl, Lib.hid rfl, Lib.hid rfl, Lib.hid rfl, Lib.hid rfl⟩
  refine wp_region_held_drew (S := fun w' => w'.cell? ⟨w2.heap.size, 0, none⟩ = some (.int .i64 room) ∧ w'.cell? ⟨w2.heap.size, 1, none⟩ = some (.slice A2 ld.length q2) ∧ w'.cell? ⟨w2.heap.size, 2, none⟩ = some (.int .i64 sent) ∧ w'.cell? ⟨w2.heap.size, 3, none⟩ = some (.int .i64 pad) ∧ w'.cell? ⟨w2.heap.size, 4, none⟩ = some (.bool off) ∧ w'.cell? ⟨w3.heap.size, 0, none⟩ = some (.int .i64 room) ∧ w'.cell? ⟨w3.heap.size, 1, none⟩ = some (.slice A3 ld.length q3) ∧ w'.cell? ⟨w3.heap.size, 2, none⟩ = some (.int .i64 sent) ∧ w'.cell? ⟨w3.heap.size, 3, none⟩ = some (.int .i64 pad) ∧ w'.cell? ⟨w3.heap.size, 4, none⟩ = some (.bool off) ∧ w'.cell? ⟨w.heap.size, 0, none⟩ = some (.int .i64 room) ∧ w'.cell? ⟨w.heap.size, 1, none⟩ = some (.slice A l.length cap) ∧ w'.cell? ⟨w.heap.size, 2, none⟩ = some (.int .i64 sent) ∧ w'.cell? ⟨w.heap.size, 3, none⟩ = some (.int .i64 pad) ∧ w'.cell? ⟨w.heap.size, 4, none⟩ = some (.bool off) ∧ La w.heap.size w w' Ts) (by kernel_rfl) (by exact ⟨by go_keep, by go_keep, by go_keep, by go_keep, by go_keep, by go_keep, by go_keep, by go_keep, by go_keep, by go_keep, by go_keep, by go_keep, by go_keep, by go_keep, by go_keep, La.drew V.out⟩) (fun hHeld => ?_)
  refine wpAnyH_ready (rs := [0]) (by kernel_rfl) (by simp) ?_
  refine AllReadyH.cons rfl (fun K hK => ?_) AllReadyH.nil
  go_simp
  go_at_call 15; refine (linked_any _ (F.below hHeld.2.2.2.2.2.2.2.2.2.2.2.2.2.2.2.below)).mono ?_; rintro e w' ⟨rfl, hb⟩
  refine hK.out _ _ (by exact keepL15 hb hHeld) (fun hHeld2 => ?_)
  clear hK K hHeld
  have hHeld := hHeld2
  clear hHeld2
  (try simp only [Act.put, List.setIfInBounds_toArray, List.set_cons_zero, List.set_cons_succ])
  refine held_take (i := 1) (d := (some 22)) (v := ?_) rfl rfl (by kernel_rfl) (by kernel_rfl) (by kernel_rfl) (fun _ _ _ h => h) (by rfl) ?_ (by assumption) ?_
  rotate_left
  · (intro w hSw; (try dsimp only at hSw); go_simp; try with_reducible rfl)
  (try simp only [Act.put, List.setIfInBounds_toArray, List.set_cons_zero, List.set_cons_succ])
  refine held_take (i := 2) (d := (some 23)) (v := ?_) rfl rfl (by kernel_rfl) (by kernel_rfl) (by kernel_rfl) (fun _ _ _ h => h) (by rfl) ?_ (by assumption) ?_
  rotate_left
  · (intro w hSw; (try dsimp only at hSw); go_simp; try with_reducible rfl)
  (try simp only [Act.put, List.setIfInBounds_toArray, List.set_cons_zero, List.set_cons_succ])
  refine held_take (i := 3) (d := (some 24)) (v := ?_) rfl rfl (by kernel_rfl) (by kernel_rfl) (by kernel_rfl) (fun _ _ _ h => h) (by rfl) ?_ (by assumption) ?_
  rotate_left
  · (intro w hSw; (try dsimp only at hSw); go_simp; try with_reducible rfl)
  (try simp only [Act.put, List.setIfInBounds_toArray, List.set_cons_zero, List.set_cons_succ])
  refine wpAnyH_ready (rs := [4]) (by kernel_rfl) (by simp) ?_
  refine AllReadyH.cons rfl (fun K hK => ?_) AllReadyH.nil
  go_simp
  go_at_call 16; refine (lksame_any room sent pad room sent pad off off ld ld A2 A3 q2 q3 _ (hHeld.2.2.2.2.2.2.2.2.2.2.2.2.2.2.2.at _ HT_rA.out) (hHeld.2.2.2.2.2.2.2.2.2.2.2.2.2.2.2.at _ HT_rB.out) hl1 hl1).mono ?_; rintro e w' ⟨rfl, hb⟩; rw [decide_eq_true rfl]
  refine hK.out _ _ (by exact keepL15 hb hHeld) (fun hHeld2 => ?_)
  clear hK K hHeld
  have hHeld := hHeld2
  clear hHeld2
  (try simp only [Act.put, List.setIfInBounds_toArray, List.set_cons_zero, List.set_cons_succ])
  refine held_take (i := 5) (d := (some 26)) (v := ?_) rfl rfl (by kernel_rfl) (by kernel_rfl) (by kernel_rfl) (fun _ _ _ h => h) (by rfl) ?_ (by assumption) ?_
  rotate_left
  · (intro w hSw; (try dsimp only at hSw); go_simp; try with_reducible rfl)
  (try simp only [Act.put, List.setIfInBounds_toArray, List.set_cons_zero, List.set_cons_succ])
  refine held_take (i := 6) (d := (some 27)) (v := ?_) rfl rfl (by kernel_rfl) (by kernel_rfl) (by kernel_rfl) (fun _ _ _ h => h) (by rfl) ?_ (by assumption) ?_
  rotate_left
  · (intro w hSw; (try dsimp only at hSw); go_simp; try with_reducible rfl)
  (try simp only [Act.put, List.setIfInBounds_toArray, List.set_cons_zero, List.set_cons_succ])
  refine held_take (i := 7) (d := (some 28)) (v := ?_) rfl rfl (by kernel_rfl) (by kernel_rfl) (by kernel_rfl) (fun _ _ _ h => h) (by rfl) ?_ (by assumption) ?_
  rotate_left
  · (intro w hSw; (try dsimp only at hSw); go_simp; try with_reducible rfl)
  (try simp only [Act.put, List.setIfInBounds_toArray, List.set_cons_zero, List.set_cons_succ])
  refine held_take (i := 8) (d := (some 29)) (v := ?_) rfl rfl (by kernel_rfl) (by kernel_rfl) (by kernel_rfl) (fun _ _ _ h => h) (by rfl) ?_ (by assumption) ?_
  rotate_left
  · (intro w hSw; (try dsimp only at hSw); go_simp; try with_reducible rfl)
  (try simp only [Act.put, List.setIfInBounds_toArray, List.set_cons_zero, List.set_cons_succ])
  refine wpAnyH_ready (rs := [9]) (by kernel_rfl) (by simp) ?_
  refine AllReadyH.cons rfl (fun K hK => ?_) AllReadyH.nil
  go_simp
  go_at_call 25; refine (rsame_any (.slice B2 lg.length u2) (.slice B3 lg.length u3) lg lg _ (Rk.rw (hHeld.2.2.2.2.2.2.2.2.2.2.2.2.2.2.2.at _ HT_rGa.out)) (Rk.rw (hHeld.2.2.2.2.2.2.2.2.2.2.2.2.2.2.2.at _ HT_rGb.out)) hl3 hl3).mono ?_; rintro e w' ⟨rfl, hb⟩; rw [decide_eq_true rfl]
  refine hK.out _ _ (by exact keepL15 hb hHeld) (fun hHeld2 => ?_)
  clear hK K hHeld
  have hHeld := hHeld2
  clear hHeld2
  (try simp only [Act.put, List.setIfInBounds_toArray, List.set_cons_zero, List.set_cons_succ])
  refine held_take (i := 10) (d := (some 31)) (v := ?_) rfl rfl (by kernel_rfl) (by kernel_rfl) (by kernel_rfl) (fun _ _ _ h => h) (by rfl) ?_ (by assumption) ?_
  rotate_left
  · (intro w hSw; (try dsimp only at hSw); go_simp; try with_reducible rfl)
  (try simp only [Act.put, List.setIfInBounds_toArray, List.set_cons_zero, List.set_cons_succ])
  refine held_take (i := 11) (d := (some 32)) (v := ?_) rfl rfl (by kernel_rfl) (by kernel_rfl) (by kernel_rfl) (fun _ _ _ h => h) (by rfl) ?_ (by assumption) ?_
  rotate_left
  · (intro w hSw; (try dsimp only at hSw); go_simp; try with_reducible rfl)
  (try simp only [Act.put, List.setIfInBounds_toArray, List.set_cons_zero, List.set_cons_succ])
  refine held_take (i := 12) (d := (some 33)) (v := ?_) rfl rfl (by kernel_rfl) (by kernel_rfl) (by kernel_rfl) (fun _ _ _ h => h) (by rfl) ?_ (by assumption) ?_
  rotate_left
  · (intro w hSw; (try dsimp only at hSw); go_simp; try with_reducible rfl)
  (try simp only [Act.put, List.setIfInBounds_toArray, List.set_cons_zero, List.set_cons_succ])
  refine held_take (i := 14) (d := (some 35)) (v := ?_) rfl rfl (by kernel_rfl) (by kernel_rfl) (by kernel_rfl) (fun _ _ _ h => h) (by rfl) ?_ (by assumption) ?_
  rotate_left
  · (intro w hSw; (try dsimp only at hSw); go_simp; try with_reducible rfl)
  (try simp only [Act.put, List.setIfInBounds_toArray, List.set_cons_zero, List.set_cons_succ])
  refine wpAnyH_ready (rs := [13]) (by kernel_rfl) (by simp) ?_
  refine AllReadyH.cons rfl (fun K hK => ?_) AllReadyH.nil
  go_simp
  go_at_call 26; refine (ltick_any room sent pad off l A cap _ (F.below hHeld.2.2.2.2.2.2.2.2.2.2.2.2.2.2.2.below) (hHeld.2.2.2.2.2.2.2.2.2.2.2.2.2.2.2.at _ HT_rK.out) hl2).mono ?_; rintro e w' ⟨rfl, hb⟩; rw [← HT.out]
  refine hK.out _ _ (by exact keepL15 hb hHeld) (fun hHeld2 => ?_)
  clear hK K hHeld
  have hHeld := hHeld2
  clear hHeld2
  (try simp only [Act.put, List.setIfInBounds_toArray, List.set_cons_zero, List.set_cons_succ])
  refine wpAnyH_ready (rs := [15]) (by kernel_rfl) (by simp) ?_
  refine AllReadyH.cons rfl (fun K hK => ?_) AllReadyH.nil
  go_simp
  go_at_call 27; refine (rltick_any room sent pad off l A cap _ (hHeld.2.2.2.2.2.2.2.2.2.2.2.2.2.2.2.at _ HT_rK.out) hl2).mono ?_; rintro e w' ⟨rfl, hb⟩; rw [← HT.out]
  refine hK.out _ _ (by exact keepL15 hb hHeld) (fun hHeld2 => ?_)
  clear hK K hHeld
  have hHeld := hHeld2
  clear hHeld2
  (try simp only [Act.put, List.setIfInBounds_toArray, List.set_cons_zero, List.set_cons_succ])
  refine wpAnyH_ready (rs := [16]) (by kernel_rfl) (by simp) ?_
  refine AllReadyH.cons rfl (fun K hK => ?_) AllReadyH.nil
  go_simp
  go_at_call 16; refine (lksame_any room sent tp room sent tp off off l l A A cap cap _ (hHeld.2.2.2.2.2.2.2.2.2.2.2.2.2.2.2.at _ HT_rK.out) (hHeld.2.2.2.2.2.2.2.2.2.2.2.2.2.2.2.at _ HT_rK.out) hl2 hl2).mono ?_; rintro e w' ⟨rfl, hb⟩; rw [decide_eq_true rfl]
  refine hK.out _ _ (by exact keepL15 hb hHeld) (fun hHeld2 => ?_)
  clear hK K hHeld
  have hHeld := hHeld2
  clear hHeld2
  (try simp only [Act.put, List.setIfInBounds_toArray, List.set_cons_zero, List.set_cons_succ])
  refine held_take (i := 17) (d := (some 38)) (v := ?_) rfl rfl (by kernel_rfl) (by kernel_rfl) (by kernel_rfl) (fun _ _ _ h => h) (by rfl) ?_ (by assumption) ?_
  rotate_left
  · (intro w hSw; (try dsimp only at hSw); go_simp; try with_reducible rfl)
  (try simp only [Act.put, List.setIfInBounds_toArray, List.set_cons_zero, List.set_cons_succ])
  refine held_take (i := 18) (d := (some 39)) (v := ?_) rfl rfl (by kernel_rfl) (by kernel_rfl) (by kernel_rfl) (fun _ _ _ h => h) (by rfl) ?_ (by assumption) ?_
  rotate_left
  · (intro w hSw; (try dsimp only at hSw); go_simp; try with_reducible rfl)
  (try simp only [Act.put, List.setIfInBounds_toArray, List.set_cons_zero, List.set_cons_succ])
  refine held_take (i := 19) (d := (some 40)) (v := ?_) rfl rfl (by kernel_rfl) (by kernel_rfl) (by kernel_rfl) (fun _ _ _ h => h) (by rfl) ?_ (by assumption) ?_
  rotate_left
  · (intro w hSw; (try dsimp only at hSw); go_simp; try with_reducible rfl)
  (try simp only [Act.put, List.setIfInBounds_toArray, List.set_cons_zero, List.set_cons_succ])
  refine held_take (i := 20) (d := (some 41)) (v := ?_) rfl rfl (by kernel_rfl) (by kernel_rfl) (by kernel_rfl) (fun _ _ _ h => h) (by rfl) ?_ (by assumption) ?_
  rotate_left
  · (intro w hSw; (try dsimp only at hSw); go_simp; try with_reducible rfl)
  (try simp only [Act.put, List.setIfInBounds_toArray, List.set_cons_zero, List.set_cons_succ])
  refine held_take (i := 22) (d := (some 43)) (v := ?_) rfl rfl (by kernel_rfl) (by kernel_rfl) (by kernel_rfl) (fun _ _ _ h => h) (by rfl) ?_ (by assumption) ?_
  rotate_left
  · (intro w hSw; (try dsimp only at hSw); go_simp; try with_reducible rfl)
  (try simp only [Act.put, List.setIfInBounds_toArray, List.set_cons_zero, List.set_cons_succ])
  refine held_take (i := 23) (d := (some 44)) (v := ?_) rfl rfl (by kernel_rfl) (by kernel_rfl) (by kernel_rfl) (fun _ _ _ h => h) (by rfl) ?_ (by assumption) ?_
  rotate_left
  · (intro w hSw; (try dsimp only at hSw); go_simp; try with_reducible rfl)
  (try simp only [Act.put, List.setIfInBounds_toArray, List.set_cons_zero, List.set_cons_succ])
  refine wpAnyH_ready (rs := [21]) (by kernel_rfl) (by simp) ?_
  refine AllReadyH.cons rfl (fun K hK => ?_) AllReadyH.nil
  go_simp
  go_at_call 28; refine (lhold_any room sent pad off qo l A cap _ (F.below hHeld.2.2.2.2.2.2.2.2.2.2.2.2.2.2.2.below) (hHeld.2.2.2.2.2.2.2.2.2.2.2.2.2.2.2.at _ HT_rK.out) hl2).mono ?_; rintro e w' ⟨rfl, hb⟩; rw [← HO.out]
  refine hK.out _ _ (by exact keepL15 hb hHeld) (fun hHeld2 => ?_)
  clear hK K hHeld
  have hHeld := hHeld2
  clear hHeld2
  (try simp only [Act.put, List.setIfInBounds_toArray, List.set_cons_zero, List.set_cons_succ])
  refine wpAnyH_ready (rs := [24]) (by kernel_rfl) (by simp) ?_
  refine AllReadyH.cons rfl (fun K hK => ?_) AllReadyH.nil
  go_simp
  go_at_call 29; refine (rlhold_any room sent pad off qo l A cap _ (hHeld.2.2.2.2.2.2.2.2.2.2.2.2.2.2.2.at _ HT_rK.out) hl2).mono ?_; rintro e w' ⟨rfl, hb⟩; rw [← HO.out]
  refine hK.out _ _ (by exact keepL15 hb hHeld) (fun hHeld2 => ?_)
  clear hK K hHeld
  have hHeld := hHeld2
  clear hHeld2
  (try simp only [Act.put, List.setIfInBounds_toArray, List.set_cons_zero, List.set_cons_succ])
  refine wpAnyH_ready (rs := [25]) (by kernel_rfl) (by simp) ?_
  refine AllReadyH.cons rfl (fun K hK => ?_) AllReadyH.nil
  go_simp
  go_at_call 16; refine (lksame_any room sent pad room sent pad oo oo l l A A cap cap _ (hHeld.2.2.2.2.2.2.2.2.2.2.2.2.2.2.2.at _ HT_rK.out) (hHeld.2.2.2.2.2.2.2.2.2.2.2.2.2.2.2.at _ HT_rK.out) hl2 hl2).mono ?_; rintro e w' ⟨rfl, hb⟩; rw [decide_eq_true rfl]
  refine hK.out _ _ (by exact keepL15 hb hHeld) (fun hHeld2 => ?_)
  clear hK K hHeld
  have hHeld := hHeld2
  clear hHeld2
  (try simp only [Act.put, List.setIfInBounds_toArray, List.set_cons_zero, List.set_cons_succ])
  refine held_take (i := 26) (d := (some 47)) (v := ?_) rfl rfl (by kernel_rfl) (by kernel_rfl) (by kernel_rfl) (fun _ _ _ h => h) (by rfl) ?_ (by assumption) ?_
  rotate_left
  · (intro w hSw; (try dsimp only at hSw); go_simp; try with_reducible rfl)
  (try simp only [Act.put, List.setIfInBounds_toArray, List.set_cons_zero, List.set_cons_succ])
  refine held_take (i := 27) (d := (some 4)) (v := ?_) rfl rfl (by kernel_rfl) (by kernel_rfl) (by kernel_rfl) (fun _ _ _ h => h) (by rfl) ?_ (by assumption) ?_
  rotate_left
  · (intro w hSw; (try dsimp only at hSw); go_simp; try with_reducible rfl)
  (try simp only [Act.put, List.setIfInBounds_toArray, List.set_cons_zero, List.set_cons_succ])
  refine wpAnyH_done (by kernel_rfl) ?_ _
  go_wp2
  go_ret
  exact ⟨by simp, hHeld.2.2.2.2.2.2.2.2.2.2.2.2.2.2.2.below⟩
end Go.Proofs.YtgpebdoafblacaaDoor
