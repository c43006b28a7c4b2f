/- Links: LinkOffers. -/
import Derived.Test.YtgpebdoafblacaaDoorLkW
import Derived.Test.YtgpebdoafblacaaDoorLkT
import Derived.Test.YtgpebdoafblacaaDoorLkU
import Derived.Test.YtgpebdoafblacaaDoorLkV
import Derived.Test.YtgpebdoafblacaaDoorLkX
import Derived.BigGuardPart
import Derived.BigQuiet
import Derived.Deep.QuietTactic
import Derived.Deep.RegionHeld3
set_option linter.unusedVariables false
namespace Go.Proofs.YtgpebdoafblacaaDoor
open Go.RowKit Go.PlainAid Gl L Vt Lk
theorem keepL25 {B : Nat} {W w1 w2 : World} {Ts : List (World → Prop)} {b0 o0 b1 o1 b2 o2 b3 o3 b4 o4 b5 o5 b6 o6 b7 o7 b8 o8 b9 o9 b10 o10 b11 o11 b12 o12 b13 o13 b14 o14 b15 o15 b16 o16 b17 o17 b18 o18 b19 o19 b20 o20 b21 o21 b22 o22 b23 o23 b24 o24 : Nat} {x0 x1 x2 x3 x4 x5 x6 x7 x8 x9 x10 x11 x12 x13 x14 x15 x16 x17 x18 x19 x20 x21 x22 x23 x24 : Value} (hb : Below w1.heap.size w1 w2) (h : w1.cell? ⟨b0, o0, none⟩ = some x0 ∧ w1.cell? ⟨b1, o1, none⟩ = some x1 ∧ w1.cell? ⟨b2, o2, none⟩ = some x2 ∧ w1.cell? ⟨b3, o3, none⟩ = some x3 ∧ w1.cell? ⟨b4, o4, none⟩ = some x4 ∧ w1.cell? ⟨b5, o5, none⟩ = some x5 ∧ w1.cell? ⟨b6, o6, none⟩ = some x6 ∧ w1.cell? ⟨b7, o7, none⟩ = some x7 ∧ w1.cell? ⟨b8, o8, none⟩ = some x8 ∧ w1.cell? ⟨b9, o9, none⟩ = some x9 ∧ w1.cell? ⟨b10, o10, none⟩ = some x10 ∧ w1.cell? ⟨b11, o11, none⟩ = some x11 ∧ w1.cell? ⟨b12, o12, none⟩ = some x12 ∧ w1.cell? ⟨b13, o13, none⟩ = some x13 ∧ w1.cell? ⟨b14, o14, none⟩ = some x14 ∧ w1.cell? ⟨b15, o15, none⟩ = some x15 ∧ w1.cell? ⟨b16, o16, none⟩ = some x16 ∧ w1.cell? ⟨b17, o17, none⟩ = some x17 ∧ w1.cell? ⟨b18, o18, none⟩ = some x18 ∧ w1.cell? ⟨b19, o19, none⟩ = some x19 ∧ w1.cell? ⟨b20, o20, none⟩ = some x20 ∧ w1.cell? ⟨b21, o21, none⟩ = some x21 ∧ w1.cell? ⟨b22, o22, none⟩ = some x22 ∧ w1.cell? ⟨b23, o23, none⟩ = some x23 ∧ w1.cell? ⟨b24, o24, none⟩ = some x24 ∧ La B W w1 Ts) : w2.cell? ⟨b0, o0, none⟩ = some x0 ∧ w2.cell? ⟨b1, o1, none⟩ = some x1 ∧ w2.cell? ⟨b2, o2, none⟩ = some x2 ∧ w2.cell? ⟨b3, o3, none⟩ = some x3 ∧ w2.cell? ⟨b4, o4, none⟩ = some x4 ∧ w2.cell? ⟨b5, o5, none⟩ = some x5 ∧ w2.cell? ⟨b6, o6, none⟩ = some x6 ∧ w2.cell? ⟨b7, o7, none⟩ = some x7 ∧ w2.cell? ⟨b8, o8, none⟩ = some x8 ∧ w2.cell? ⟨b9, o9, none⟩ = some x9 ∧ w2.cell? ⟨b10, o10, none⟩ = some x10 ∧ w2.cell? ⟨b11, o11, none⟩ = some x11 ∧ w2.cell? ⟨b12, o12, none⟩ = some x12 ∧ w2.cell? ⟨b13, o13, none⟩ = some x13 ∧ w2.cell? ⟨b14, o14, none⟩ = some x14 ∧ w2.cell? ⟨b15, o15, none⟩ = some x15 ∧ w2.cell? ⟨b16, o16, none⟩ = some x16 ∧ w2.cell? ⟨b17, o17, none⟩ = some x17 ∧ w2.cell? ⟨b18, o18, none⟩ = some x18 ∧ w2.cell? ⟨b19, o19, none⟩ = some x19 ∧ w2.cell? ⟨b20, o20, none⟩ = some x20 ∧ w2.cell? ⟨b21, o21, none⟩ = some x21 ∧ w2.cell? ⟨b22, o22, none⟩ = some x22 ∧ w2.cell? ⟨b23, o23, none⟩ = some x23 ∧ w2.cell? ⟨b24, o24, none⟩ = some x24 ∧ La B W w2 Ts := by
  obtain ⟨h0, h1, h2, h3, h4, h5, h6, h7, h8, h9, h10, h11, h12, h13, h14, h15, h16, h17, h18, h19, h20, h21, h22, h23, h24, hw⟩ := h
  exact ⟨keepC hb h0, keepC hb h1, keepC hb h2, keepC hb h3, keepC hb h4, keepC hb h5, keepC hb h6, keepC hb h7, keepC hb h8, keepC hb h9, keepC hb h10, keepC hb h11, keepC hb h12, keepC hb h13, keepC hb h14, keepC hb h15, keepC hb h16, keepC hb h17, keepC hb h18, keepC hb h19, keepC hb h20, keepC hb h21, keepC hb h22, keepC hb h23, keepC hb h24, hw.call hb⟩
set_option maxRecDepth 100000 in
set_option maxHeartbeats 16000000 in
theorem loffers_law (room sent pad : Int) (off : Bool) (k a b r rm : Int) (l : List Cmd) (A : Option Addr) (cap : Nat) (w : World) (F : Forms w 0) (hr : Rk w (.slice A l.length cap) l) :
    Calls Tryd.prog 3 #[.agg #[.int .i64 room, .slice A l.length cap, .int .i64 sent, .int .i64 pad, .bool off], .agg #[.int .i64 k, .int .i64 a, .int .i64 b, .int .i32 r], .int .i64 rm] w fun e w' => e = .returned (.bool true) ∧ Below w.heap.size w w' := by
  have V := Lib.hid (((La.start w).box #[.int .i64 room, .slice A l.length cap, .int .i64 sent, .int .i64 pad, .bool off] 24).box #[.int .i64 k, .int .i64 a, .int .i64 b, .int .i32 r] 26)
  by_cases hbig : 200 < l.length
  case pos =>
    have hB := decide_eq_true hbig
    clear hbig
    go_enter Tryd.func3, Tryd.ntmps3
    go_wp2_with fail
    refine (lkbig_any room sent pad off A l.length cap _).mono ?_
    rintro e w1 ⟨rfl, hb⟩
    rw [hB]
    replace V := Lib.hid (V.out.call hb)
    clear hb
    go_wp2
    go_ret
    exact ⟨rfl, V.out.below⟩
  have hl : l.length ≤ 200 := by omega
  have hl2 : l.length ≤ 100000 := by omega
  have hB := decide_eq_false hbig
  clear hbig
  obtain ⟨r1, l1, s1, p1, o1, hof, hl1⟩ := ofr_form ⟨room, l, sent, pad, off⟩ (k, a, b, r)
  dsimp only at hl1
  have hl1' : l1.length ≤ 100000 := by omega
  obtain ⟨er, her⟩ : ∃ er, er = ofE ⟨room, l, sent, pad, off⟩ (k, a, b, r) := ⟨_, rfl⟩
  obtain ⟨en, hen⟩ : ∃ en, en = nwE rm := ⟨_, rfl⟩
  obtain ⟨rn, hrn⟩ : ∃ rn, rn = (nw rm).room := ⟨_, rfl⟩
  obtain ⟨bs, hbs⟩ : ∃ bs, bs = rs ⟨room, l, sent, pad, off⟩ := ⟨_, rfl⟩
  obtain ⟨bi, hbi⟩ : ∃ bi, bi = decide (rt ⟨room, l, sent, pad, off⟩) := ⟨_, rfl⟩
  have HO := Lib.hid hof
  have HE := Lib.hid her
  have HN := Lib.hid hen
  have HR := Lib.hid hrn
  have HBS := Lib.hid hbs
  have HBI := Lib.hid hbi
  clear hof her hen hrn hbs hbi
  replace V := Lib.hid (V.out.row (hr.below V.out.below))
  clear hr
  go_enter Tryd.func3, Tryd.ntmps3
  go_wp2_with fail
  refine (lkbig_any room sent pad off A l.length cap _).mono ?_
  rintro e w1 ⟨rfl, hb⟩
  rw [hB]
  replace V := Lib.hid (V.out.call hb)
  clear hb
  have gp := V.out.at 2 rfl
  obtain ⟨⟨pa, pb, pc, pd, pe⟩, -, pz⟩ := blk5 gp
  clear gp
  have gp := V.out.at 1 rfl
  rw [one_size] at gp
  obtain ⟨⟨qa, qb, qc, qd⟩, -, qz⟩ := blk4 gp
  clear gp
  go_wp2_with fail
  clear pa pb pc pd pe pz qa qb qc qd qz
  have hrow := V.out.at 0 rfl
  refine (loffer_any room sent pad off k a b r l A cap _ (F.below V.out.below) hrow hl2).mono ?_
  rintro e w2 ⟨ho, hb⟩
  rw [HO.out, ← HE.out] at ho
  obtain ⟨A2, q2, rfl, hk⟩ := ho
  dsimp only at hk ⊢
  clear hrow
  replace V := Lib.hid (V.out.call hb)
  clear hb
  replace V := Lib.hid (V.out.row (hk))
  clear hk
  replace V := Lib.hid (V.out.box #[.int .i64 r1, .slice A2 l1.length q2, .int .i64 s1, .int .i64 p1, .bool o1] 24)
  have gp := V.out.at 4 rfl
  obtain ⟨⟨pa, pb, pc, pd, pe⟩, -, pz⟩ := blk5 gp
  clear gp
  have gp := V.out.at 3 rfl
  rw [one_size] at gp
  obtain ⟨⟨qa, qb, qc, qd⟩, -, qz⟩ := blk4 gp
  clear gp
  go_wp2_with fail
  clear pa pb pc pd pe pz qa qb qc qd qz
  have hrow := V.out.at 2 rfl
  refine (rloffer_any room sent pad off k a b r l A cap _ hrow hl2).mono ?_
  rintro e w3 ⟨ho, hb⟩
  rw [HO.out, ← HE.out] at ho
  obtain ⟨A3, q3, rfl, hk⟩ := ho
  dsimp only at hk ⊢
  clear hrow
  replace V := Lib.hid (V.out.call hb)
  clear hb
  replace V := Lib.hid (V.out.row (hk))
  clear hk
  replace V := Lib.hid (V.out.box #[.int .i64 r1, .slice A3 l1.length q3, .int .i64 s1, .int .i64 p1, .bool o1] 24)
  go_wp2_with fail
  refine (lnew_any rm _).mono ?_
  rintro e w4 ⟨rfl, hb⟩
  rw [← HR.out, ← HN.out]
  replace V := Lib.hid (V.out.call hb)
  clear hb
  replace V := Lib.hid (V.out.box #[.int .i64 rn, .slice none 0 0, .int .i64 0, .int .i64 0, .bool false] 24)
  go_wp2_with fail
  refine (rlnew_any rm _).mono ?_
  rintro e w5 ⟨rfl, hb⟩
  rw [← HR.out, ← HN.out]
  replace V := Lib.hid (V.out.call hb)
  clear hb
  replace V := Lib.hid (V.out.box #[.int .i64 rn, .slice none 0 0, .int .i64 0, .int .i64 0, .bool false] 24)
  have gp := V.out.at 4 rfl
  obtain ⟨⟨xa, xb, xc, xd, xe⟩, -, xz⟩ := blk5 gp
  clear gp
  have gp := V.out.at 2 rfl
  obtain ⟨⟨ya, yb, yc, yd, ye⟩, -, yz⟩ := blk5 gp
  clear gp
  have gp := V.out.at 1 rfl
  obtain ⟨⟨ua, ub, uc, ud, ue⟩, -, uz⟩ := blk5 gp
  clear gp
  have gp := V.out.at 0 rfl
  obtain ⟨⟨va, vb, vc, vd, ve⟩, -, vz⟩ := blk5 gp
  clear gp
  have gp := V.out.at 8 rfl
  obtain ⟨⟨za, zb, zc, zd, ze⟩, -, zz⟩ := blk5 gp
  clear gp
  go_wp2
  obtain ⟨Ts, V, HT_rK, HT_rA, HT_rB⟩ : ∃ Ts, Hid (La w.heap.size w (w5.alloc (.cells #[.int .i64 rn, .slice none 0 0, .int .i64 0, .int .i64 0, .bool false] 24)) Ts) ∧ Hid (Ts[6]? = some (fun w' : World => Rk w' (.slice A l.length cap) l)) ∧ Hid (Ts[5]? = some (fun w' : World => Rk w' (.slice A2 l1.length q2) l1)) ∧ Hid (Ts[3]? = some (fun w' : World => Rk w' (.slice A3 l1.length q3) l1)) :=
    ⟨_, V, Lib.hid rfl, Lib.hid rfl, Lib.hid rfl⟩
  refine wp_region_held_drew (S := fun w' => w'.cell? ⟨w2.heap.size, 0, none⟩ = some (.int .i64 r1) ∧ w'.cell? ⟨w2.heap.size, 1, none⟩ = some (.slice A2 l1.length q2) ∧ w'.cell? ⟨w2.heap.size, 2, none⟩ = some (.int .i64 s1) ∧ w'.cell? ⟨w2.heap.size, 3, none⟩ = some (.int .i64 p1) ∧ w'.cell? ⟨w2.heap.size, 4, none⟩ = some (.bool o1) ∧ w'.cell? ⟨w3.heap.size, 0, none⟩ = some (.int .i64 r1) ∧ w'.cell? ⟨w3.heap.size, 1, none⟩ = some (.slice A3 l1.length q3) ∧ w'.cell? ⟨w3.heap.size, 2, none⟩ = some (.int .i64 s1) ∧ w'.cell? ⟨w3.heap.size, 3, none⟩ = some (.int .i64 p1) ∧ w'.cell? ⟨w3.heap.size, 4, none⟩ = some (.bool o1) ∧ w'.cell? ⟨w4.heap.size, 0, none⟩ = some (.int .i64 rn) ∧ w'.cell? ⟨w4.heap.size, 1, none⟩ = some (.slice none 0 0) ∧ w'.cell? ⟨w4.heap.size, 2, none⟩ = some (.int .i64 0) ∧ w'.cell? ⟨w4.heap.size, 3, none⟩ = some (.int .i64 0) ∧ w'.cell? ⟨w4.heap.size, 4, none⟩ = some (.bool false) ∧ w'.cell? ⟨w5.heap.size, 0, none⟩ = some (.int .i64 rn) ∧ w'.cell? ⟨w5.heap.size, 1, none⟩ = some (.slice none 0 0) ∧ w'.cell? ⟨w5.heap.size, 2, none⟩ = some (.int .i64 0) ∧ w'.cell? ⟨w5.heap.size, 3, none⟩ = some (.int .i64 0) ∧ w'.cell? ⟨w5.heap.size, 4, none⟩ = some (.bool false) ∧ w'.cell? ⟨w.heap.size, 0, none⟩ = some (.int .i64 room) ∧ w'.cell? ⟨w.heap.size, 1, none⟩ = some (.slice A l.length cap) ∧ w'.cell? ⟨w.heap.size, 2, none⟩ = some (.int .i64 sent) ∧ w'.cell? ⟨w.heap.size, 3, none⟩ = some (.int .i64 pad) ∧ w'.cell? ⟨w.heap.size, 4, none⟩ = some (.bool off) ∧ La w.heap.size w w' Ts) (by kernel_rfl) (by exact ⟨by go_keep, by go_keep, by go_keep, by go_keep, by go_keep, by go_keep, by go_keep, by go_keep, by go_keep, by go_keep, by go_keep, by go_keep, by go_keep, by go_keep, by go_keep, by go_keep, by go_keep, by go_keep, by go_keep, by go_keep, by go_keep, by go_keep, by go_keep, by go_keep, by go_keep, La.drew V.out⟩) (fun hHeld => ?_)
  refine wpAnyH_ready (rs := [0]) (by kernel_rfl) (by simp) ?_
  refine AllReadyH.cons rfl (fun K hK => ?_) AllReadyH.nil
  go_simp
  go_at_call 15; refine (linked_any _ (F.below hHeld.2.2.2.2.2.2.2.2.2.2.2.2.2.2.2.2.2.2.2.2.2.2.2.2.2.below)).mono ?_; rintro e w' ⟨rfl, hb⟩
  refine hK.out _ _ (by exact keepL25 hb hHeld) (fun hHeld2 => ?_)
  clear hK K hHeld
  have hHeld := hHeld2
  clear hHeld2
  (try simp only [Act.put, List.setIfInBounds_toArray, List.set_cons_zero, List.set_cons_succ])
  refine held_take (i := 1) (d := (some 40)) (v := ?_) rfl rfl (by kernel_rfl) (by kernel_rfl) (by kernel_rfl) (fun _ _ _ h => h) (by rfl) ?_ (by assumption) ?_
  rotate_left
  · (intro w hSw; (try dsimp only at hSw); go_simp; try with_reducible rfl)
  (try simp only [Act.put, List.setIfInBounds_toArray, List.set_cons_zero, List.set_cons_succ])
  refine held_take (i := 2) (d := (some 41)) (v := ?_) rfl rfl (by kernel_rfl) (by kernel_rfl) (by kernel_rfl) (fun _ _ _ h => h) (by rfl) ?_ (by assumption) ?_
  rotate_left
  · (intro w hSw; (try dsimp only at hSw); go_simp; try with_reducible rfl)
  (try simp only [Act.put, List.setIfInBounds_toArray, List.set_cons_zero, List.set_cons_succ])
  refine held_take (i := 3) (d := (some 42)) (v := ?_) rfl rfl (by kernel_rfl) (by kernel_rfl) (by kernel_rfl) (fun _ _ _ h => h) (by rfl) ?_ (by assumption) ?_
  rotate_left
  · (intro w hSw; (try dsimp only at hSw); go_simp; try with_reducible rfl)
  (try simp only [Act.put, List.setIfInBounds_toArray, List.set_cons_zero, List.set_cons_succ])
  refine wpAnyH_ready (rs := [4]) (by kernel_rfl) (by simp) ?_
  refine AllReadyH.cons rfl (fun K hK => ?_) AllReadyH.nil
  go_simp
  go_at_call 16; refine (lksame_any r1 s1 p1 r1 s1 p1 o1 o1 l1 l1 A2 A3 q2 q3 _ (hHeld.2.2.2.2.2.2.2.2.2.2.2.2.2.2.2.2.2.2.2.2.2.2.2.2.2.at _ HT_rA.out) (hHeld.2.2.2.2.2.2.2.2.2.2.2.2.2.2.2.2.2.2.2.2.2.2.2.2.2.at _ HT_rB.out) hl1' hl1').mono ?_; rintro e w' ⟨rfl, hb⟩; rw [decide_eq_true rfl]
  refine hK.out _ _ (by exact keepL25 hb hHeld) (fun hHeld2 => ?_)
  clear hK K hHeld
  have hHeld := hHeld2
  clear hHeld2
  (try simp only [Act.put, List.setIfInBounds_toArray, List.set_cons_zero, List.set_cons_succ])
  refine held_take (i := 5) (d := (some 44)) (v := ?_) rfl rfl (by kernel_rfl) (by kernel_rfl) (by kernel_rfl) (fun _ _ _ h => h) (by rfl) ?_ (by assumption) ?_
  rotate_left
  · (intro w hSw; (try dsimp only at hSw); go_simp; try with_reducible rfl)
  (try simp only [Act.put, List.setIfInBounds_toArray, List.set_cons_zero, List.set_cons_succ])
  refine held_take (i := 6) (d := (some 45)) (v := ?_) rfl rfl (by kernel_rfl) (by kernel_rfl) (by kernel_rfl) (fun _ _ _ h => h) (by rfl) ?_ (by assumption) ?_
  rotate_left
  · (intro w hSw; (try dsimp only at hSw); go_simp; try with_reducible rfl)
  (try simp only [Act.put, List.setIfInBounds_toArray, List.set_cons_zero, List.set_cons_succ])
  refine held_take (i := 7) (d := (some 46)) (v := ?_) rfl rfl (by kernel_rfl) (by kernel_rfl) (by kernel_rfl) (fun _ _ _ h => h) (by rfl) ?_ (by assumption) ?_
  rotate_left
  · (intro w hSw; (try dsimp only at hSw); go_simp; try with_reducible rfl)
  (try simp only [Act.put, List.setIfInBounds_toArray, List.set_cons_zero, List.set_cons_succ])
  refine held_take (i := 8) (d := (some 47)) (v := ?_) rfl rfl (by kernel_rfl) (by kernel_rfl) (by kernel_rfl) (fun _ _ _ h => h) (by rfl) ?_ (by assumption) ?_
  rotate_left
  · (intro w hSw; (try dsimp only at hSw); go_simp; try with_reducible rfl)
  (try simp only [Act.put, List.setIfInBounds_toArray, List.set_cons_zero, List.set_cons_succ])
  refine held_take (i := 9) (d := (some 48)) (v := ?_) rfl rfl (by kernel_rfl) (by kernel_rfl) (by kernel_rfl) (fun _ _ _ h => h) (by rfl) ?_ (by assumption) ?_
  rotate_left
  · (intro w hSw; (try dsimp only at hSw); go_simp; try with_reducible rfl)
  (try simp only [Act.put, List.setIfInBounds_toArray, List.set_cons_zero, List.set_cons_succ])
  refine held_take (i := 10) (d := (some 49)) (v := ?_) rfl rfl (by kernel_rfl) (by kernel_rfl) (by kernel_rfl) (fun _ _ _ h => h) (by rfl) ?_ (by assumption) ?_
  rotate_left
  · (intro w hSw; (try dsimp only at hSw); go_simp; try with_reducible rfl)
  (try simp only [Act.put, List.setIfInBounds_toArray, List.set_cons_zero, List.set_cons_succ])
  refine held_take (i := 11) (d := (some 50)) (v := ?_) rfl rfl (by kernel_rfl) (by kernel_rfl) (by kernel_rfl) (fun _ _ _ h => h) (by rfl) ?_ (by assumption) ?_
  rotate_left
  · (intro w hSw; (try dsimp only at hSw); go_simp; try with_reducible rfl)
  (try simp only [Act.put, List.setIfInBounds_toArray, List.set_cons_zero, List.set_cons_succ])
  refine held_take (i := 12) (d := (some 51)) (v := ?_) rfl rfl (by kernel_rfl) (by kernel_rfl) (by kernel_rfl) (fun _ _ _ h => h) (by rfl) ?_ (by assumption) ?_
  rotate_left
  · (intro w hSw; (try dsimp only at hSw); go_simp; try with_reducible rfl)
  (try simp only [Act.put, List.setIfInBounds_toArray, List.set_cons_zero, List.set_cons_succ])
  refine held_take (i := 13) (d := (some 52)) (v := ?_) rfl rfl (by kernel_rfl) (by kernel_rfl) (by kernel_rfl) (fun _ _ _ h => h) (by rfl) ?_ (by assumption) ?_
  rotate_left
  · (intro w hSw; (try dsimp only at hSw); go_simp; try with_reducible rfl)
  (try simp only [Act.put, List.setIfInBounds_toArray, List.set_cons_zero, List.set_cons_succ])
  refine wpAnyH_ready (rs := [14]) (by kernel_rfl) (by simp) ?_
  refine AllReadyH.cons rfl (fun K hK => ?_) AllReadyH.nil
  go_simp
  go_at_call 16; refine (lksame_any rn 0 0 rn 0 0 false false [] [] none none 0 0 _ (Rk.nil _ none 0 fun _ => rfl) (Rk.nil _ none 0 fun _ => rfl) (by decide) (by decide)).mono ?_; rintro e w' ⟨rfl, hb⟩; rw [decide_eq_true rfl]
  refine hK.out _ _ (by exact keepL25 hb hHeld) (fun hHeld2 => ?_)
  clear hK K hHeld
  have hHeld := hHeld2
  clear hHeld2
  (try simp only [Act.put, List.setIfInBounds_toArray, List.set_cons_zero, List.set_cons_succ])
  refine held_take (i := 15) (d := (some 54)) (v := ?_) rfl rfl (by kernel_rfl) (by kernel_rfl) (by kernel_rfl) (fun _ _ _ h => h) (by rfl) ?_ (by assumption) ?_
  rotate_left
  · (intro w hSw; (try dsimp only at hSw); go_simp; try with_reducible rfl)
  (try simp only [Act.put, List.setIfInBounds_toArray, List.set_cons_zero, List.set_cons_succ])
  refine held_take (i := 16) (d := (some 55)) (v := ?_) rfl rfl (by kernel_rfl) (by kernel_rfl) (by kernel_rfl) (fun _ _ _ h => h) (by rfl) ?_ (by assumption) ?_
  rotate_left
  · (intro w hSw; (try dsimp only at hSw); go_simp; try with_reducible rfl)
  (try simp only [Act.put, List.setIfInBounds_toArray, List.set_cons_zero, List.set_cons_succ])
  refine held_take (i := 17) (d := (some 56)) (v := ?_) rfl rfl (by kernel_rfl) (by kernel_rfl) (by kernel_rfl) (fun _ _ _ h => h) (by rfl) ?_ (by assumption) ?_
  rotate_left
  · (intro w hSw; (try dsimp only at hSw); go_simp; try with_reducible rfl)
  (try simp only [Act.put, List.setIfInBounds_toArray, List.set_cons_zero, List.set_cons_succ])
  refine held_take (i := 18) (d := (some 57)) (v := ?_) rfl rfl (by kernel_rfl) (by kernel_rfl) (by kernel_rfl) (fun _ _ _ h => h) (by rfl) ?_ (by assumption) ?_
  rotate_left
  · (intro w hSw; (try dsimp only at hSw); go_simp; try with_reducible rfl)
  (try simp only [Act.put, List.setIfInBounds_toArray, List.set_cons_zero, List.set_cons_succ])
  refine held_take (i := 19) (d := (some 58)) (v := ?_) rfl rfl (by kernel_rfl) (by kernel_rfl) (by kernel_rfl) (fun _ _ _ h => h) (by rfl) ?_ (by assumption) ?_
  rotate_left
  · (intro w hSw; (try dsimp only at hSw); go_simp; try with_reducible rfl)
  (try simp only [Act.put, List.setIfInBounds_toArray, List.set_cons_zero, List.set_cons_succ])
  refine held_take (i := 20) (d := (some 59)) (v := ?_) rfl rfl (by kernel_rfl) (by kernel_rfl) (by kernel_rfl) (fun _ _ _ h => h) (by rfl) ?_ (by assumption) ?_
  rotate_left
  · (intro w hSw; (try dsimp only at hSw); go_simp; try with_reducible rfl)
  (try simp only [Act.put, List.setIfInBounds_toArray, List.set_cons_zero, List.set_cons_succ])
  refine held_take (i := 21) (d := (some 60)) (v := ?_) rfl rfl (by kernel_rfl) (by kernel_rfl) (by kernel_rfl) (fun _ _ _ h => h) (by rfl) ?_ (by assumption) ?_
  rotate_left
  · (intro w hSw; (try dsimp only at hSw); go_simp; try with_reducible rfl)
  (try simp only [Act.put, List.setIfInBounds_toArray, List.set_cons_zero, List.set_cons_succ])
  refine held_take (i := 22) (d := (some 61)) (v := ?_) rfl rfl (by kernel_rfl) (by kernel_rfl) (by kernel_rfl) (fun _ _ _ h => h) (by rfl) ?_ (by assumption) ?_
  rotate_left
  · (intro w hSw; (try dsimp only at hSw); go_simp; try with_reducible rfl)
  (try simp only [Act.put, List.setIfInBounds_toArray, List.set_cons_zero, List.set_cons_succ])
  refine held_take (i := 24) (d := (some 63)) (v := ?_) rfl rfl (by kernel_rfl) (by kernel_rfl) (by kernel_rfl) (fun _ _ _ h => h) (by rfl) ?_ (by assumption) ?_
  rotate_left
  · (intro w hSw; (try dsimp only at hSw); go_simp; try with_reducible rfl)
  (try simp only [Act.put, List.setIfInBounds_toArray, List.set_cons_zero, List.set_cons_succ])
  refine wpAnyH_ready (rs := [23]) (by kernel_rfl) (by simp) ?_
  refine AllReadyH.cons rfl (fun K hK => ?_) AllReadyH.nil
  go_simp
  go_at_call 17; refine (lis_any room sent pad off l A cap _ (F.below hHeld.2.2.2.2.2.2.2.2.2.2.2.2.2.2.2.2.2.2.2.2.2.2.2.2.2.below) (hHeld.2.2.2.2.2.2.2.2.2.2.2.2.2.2.2.2.2.2.2.2.2.2.2.2.2.at _ HT_rK.out) hl2).mono ?_; rintro e w' ⟨rfl, hb⟩; rw [← HBI.out]
  refine hK.out _ _ (by exact keepL25 hb hHeld) (fun hHeld2 => ?_)
  clear hK K hHeld
  have hHeld := hHeld2
  clear hHeld2
  (try simp only [Act.put, List.setIfInBounds_toArray, List.set_cons_zero, List.set_cons_succ])
  refine wpAnyH_ready (rs := [25]) (by kernel_rfl) (by simp) ?_
  refine AllReadyH.cons rfl (fun K hK => ?_) AllReadyH.nil
  go_simp
  go_at_call 18; refine (ris9_any room sent pad off l A cap _ (hHeld.2.2.2.2.2.2.2.2.2.2.2.2.2.2.2.2.2.2.2.2.2.2.2.2.2.at _ HT_rK.out) hl2).mono ?_; rintro e w' ⟨rfl, hb⟩; rw [← HBI.out]
  refine hK.out _ _ (by exact keepL25 hb hHeld) (fun hHeld2 => ?_)
  clear hK K hHeld
  have hHeld := hHeld2
  clear hHeld2
  (try simp only [Act.put, List.setIfInBounds_toArray, List.set_cons_zero, List.set_cons_succ])
  refine held_take (i := 26) (d := (some 65)) (v := ?_) rfl rfl (by kernel_rfl) (by kernel_rfl) (by kernel_rfl) (fun _ _ _ h => h) (by rfl) ?_ (by assumption) ?_
  rotate_left
  · (intro w hSw; (try dsimp only at hSw); go_simp; try with_reducible rfl)
  (try simp only [Act.put, List.setIfInBounds_toArray, List.set_cons_zero, List.set_cons_succ])
  refine held_take (i := 27) (d := (some 66)) (v := ?_) rfl rfl (by kernel_rfl) (by kernel_rfl) (by kernel_rfl) (fun _ _ _ h => h) (by rfl) ?_ (by assumption) ?_
  rotate_left
  · (intro w hSw; (try dsimp only at hSw); go_simp; try with_reducible rfl)
  (try simp only [Act.put, List.setIfInBounds_toArray, List.set_cons_zero, List.set_cons_succ])
  refine held_take (i := 28) (d := (some 67)) (v := ?_) rfl rfl (by kernel_rfl) (by kernel_rfl) (by kernel_rfl) (fun _ _ _ h => h) (by rfl) ?_ (by assumption) ?_
  rotate_left
  · (intro w hSw; (try dsimp only at hSw); go_simp; try with_reducible rfl)
  (try simp only [Act.put, List.setIfInBounds_toArray, List.set_cons_zero, List.set_cons_succ])
  refine held_take (i := 29) (d := (some 68)) (v := ?_) rfl rfl (by kernel_rfl) (by kernel_rfl) (by kernel_rfl) (fun _ _ _ h => h) (by rfl) ?_ (by assumption) ?_
  rotate_left
  · (intro w hSw; (try dsimp only at hSw); go_simp; try with_reducible rfl)
  (try simp only [Act.put, List.setIfInBounds_toArray, List.set_cons_zero, List.set_cons_succ])
  refine held_take (i := 31) (d := (some 70)) (v := ?_) rfl rfl (by kernel_rfl) (by kernel_rfl) (by kernel_rfl) (fun _ _ _ h => h) (by rfl) ?_ (by assumption) ?_
  rotate_left
  · (intro w hSw; (try dsimp only at hSw); go_simp; try with_reducible rfl)
  (try simp only [Act.put, List.setIfInBounds_toArray, List.set_cons_zero, List.set_cons_succ])
  refine wpAnyH_ready (rs := [30]) (by kernel_rfl) (by simp) ?_
  refine AllReadyH.cons rfl (fun K hK => ?_) AllReadyH.nil
  go_simp
  go_at_call 19; refine (lrest_any room sent pad off l A cap _ (F.below hHeld.2.2.2.2.2.2.2.2.2.2.2.2.2.2.2.2.2.2.2.2.2.2.2.2.2.below) (hHeld.2.2.2.2.2.2.2.2.2.2.2.2.2.2.2.2.2.2.2.2.2.2.2.2.2.at _ HT_rK.out) hl2).mono ?_; rintro e w' ⟨rfl, hb⟩; rw [← HBS.out]
  refine hK.out _ _ (by exact keepL25 hb hHeld) (fun hHeld2 => ?_)
  clear hK K hHeld
  have hHeld := hHeld2
  clear hHeld2
  (try simp only [Act.put, List.setIfInBounds_toArray, List.set_cons_zero, List.set_cons_succ])
  refine wpAnyH_ready (rs := [32]) (by kernel_rfl) (by simp) ?_
  refine AllReadyH.cons rfl (fun K hK => ?_) AllReadyH.nil
  go_simp
  go_at_call 20; refine (rrest_any room sent pad off l A cap _ (hHeld.2.2.2.2.2.2.2.2.2.2.2.2.2.2.2.2.2.2.2.2.2.2.2.2.2.at _ HT_rK.out) hl2).mono ?_; rintro e w' ⟨rfl, hb⟩; rw [← HBS.out]
  refine hK.out _ _ (by exact keepL25 hb hHeld) (fun hHeld2 => ?_)
  clear hK K hHeld
  have hHeld := hHeld2
  clear hHeld2
  (try simp only [Act.put, List.setIfInBounds_toArray, List.set_cons_zero, List.set_cons_succ])
  refine held_take (i := 33) (d := (some 72)) (v := ?_) rfl rfl (by kernel_rfl) (by kernel_rfl) (by kernel_rfl) (fun _ _ _ h => h) (by rfl) ?_ (by assumption) ?_
  rotate_left
  · (intro w hSw; (try dsimp only at hSw); go_simp; try with_reducible rfl)
  (try simp only [Act.put, List.setIfInBounds_toArray, List.set_cons_zero, List.set_cons_succ])
  refine held_take (i := 34) (d := (some 73)) (v := ?_) rfl rfl (by kernel_rfl) (by kernel_rfl) (by kernel_rfl) (fun _ _ _ h => h) (by rfl) ?_ (by assumption) ?_
  rotate_left
  · (intro w hSw; (try dsimp only at hSw); go_simp; try with_reducible rfl)
  (try simp only [Act.put, List.setIfInBounds_toArray, List.set_cons_zero, List.set_cons_succ])
  refine held_take (i := 35) (d := (some 6)) (v := ?_) rfl rfl (by kernel_rfl) (by kernel_rfl) (by kernel_rfl) (fun _ _ _ h => h) (by rfl) ?_ (by assumption) ?_
  rotate_left
  · (intro w hSw; (try dsimp only at hSw); go_simp; try with_reducible rfl)
  (try simp only [Act.put, List.setIfInBounds_toArray, List.set_cons_zero, List.set_cons_succ])
  refine wpAnyH_done (by kernel_rfl) ?_ _
  go_wp2
  go_ret
  exact ⟨by simp, hHeld.2.2.2.2.2.2.2.2.2.2.2.2.2.2.2.2.2.2.2.2.2.2.2.2.2.below⟩
end Go.Proofs.YtgpebdoafblacaaDoor
