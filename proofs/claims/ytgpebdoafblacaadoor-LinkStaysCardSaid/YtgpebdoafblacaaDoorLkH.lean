/- Links: LinkStays. -/
import Derived.Test.YtgpebdoafblacaaDoorLkW
import Derived.Test.YtgpebdoafblacaaDoorLkT
import Derived.Test.YtgpebdoafblacaaDoorLkU
import Derived.Test.YtgpebdoafblacaaDoorLkV
import Derived.Test.YtgpebdoafblacaaDoorLkX
import Derived.Test.YtgpebdoafblacaaDoorLkZ
import Derived.Test.YtgpebdoafblacaaDoorLkY
import Derived.BigGuardPart
import Derived.BigQuiet
import Derived.Deep.QuietTactic
import Derived.Deep.RegionHeld3
set_option linter.unusedVariables false
namespace Go.Proofs.YtgpebdoafblacaaDoor
open Go.RowKit Go.PlainAid Gl L Vt Lk
theorem lit_of_la {B : Nat} {W X : World} {Ts : List (World → Prop)} {k a b r : Int} {t : TypeId} (h : La B W (X.alloc (.cells #[.int .i64 k, .int .i64 a, .int .i64 b, .int .i32 r] t)) Ts) : Rk (X.alloc (.cells #[.int .i64 k, .int .i64 a, .int .i64 b, .int .i32 r] t)) (.slice (some ⟨X.heap.size, 0, none⟩) 1 1) [(k, a, b, r)] := Rk.one X k a b r t
theorem La.fresh {B : Nat} {W w : World} (h : Below B W w) (hB : B ≤ W.heap.size) : La B W w [] := ⟨h, fun i T h => by simp at h, fun i T h => by simp at h, hB⟩
theorem keepL14 {B : Nat} {W w1 w2 : World} {Ts : List (World → Prop)} {b0 o0 b1 o1 b2 o2 b3 o3 b4 o4 b5 o5 b6 o6 b7 o7 b8 o8 b9 o9 b10 o10 b11 o11 b12 o12 b13 o13 : Nat} {x0 x1 x2 x3 x4 x5 x6 x7 x8 x9 x10 x11 x12 x13 : Value} (hb : Below w1.heap.size w1 w2) (h : w1.cell? ⟨b0, o0, none⟩ = some x0 ∧ w1.cell? ⟨b1, o1, none⟩ = some x1 ∧ w1.cell? ⟨b2, o2, none⟩ = some x2 ∧ w1.cell? ⟨b3, o3, none⟩ = some x3 ∧ w1.cell? ⟨b4, o4, none⟩ = some x4 ∧ w1.cell? ⟨b5, o5, none⟩ = some x5 ∧ w1.cell? ⟨b6, o6, none⟩ = some x6 ∧ w1.cell? ⟨b7, o7, none⟩ = some x7 ∧ w1.cell? ⟨b8, o8, none⟩ = some x8 ∧ w1.cell? ⟨b9, o9, none⟩ = some x9 ∧ w1.cell? ⟨b10, o10, none⟩ = some x10 ∧ w1.cell? ⟨b11, o11, none⟩ = some x11 ∧ w1.cell? ⟨b12, o12, none⟩ = some x12 ∧ w1.cell? ⟨b13, o13, none⟩ = some x13 ∧ La B W w1 Ts) : w2.cell? ⟨b0, o0, none⟩ = some x0 ∧ w2.cell? ⟨b1, o1, none⟩ = some x1 ∧ w2.cell? ⟨b2, o2, none⟩ = some x2 ∧ w2.cell? ⟨b3, o3, none⟩ = some x3 ∧ w2.cell? ⟨b4, o4, none⟩ = some x4 ∧ w2.cell? ⟨b5, o5, none⟩ = some x5 ∧ w2.cell? ⟨b6, o6, none⟩ = some x6 ∧ w2.cell? ⟨b7, o7, none⟩ = some x7 ∧ w2.cell? ⟨b8, o8, none⟩ = some x8 ∧ w2.cell? ⟨b9, o9, none⟩ = some x9 ∧ w2.cell? ⟨b10, o10, none⟩ = some x10 ∧ w2.cell? ⟨b11, o11, none⟩ = some x11 ∧ w2.cell? ⟨b12, o12, none⟩ = some x12 ∧ w2.cell? ⟨b13, o13, none⟩ = some x13 ∧ La B W w2 Ts := by
  obtain ⟨h0, h1, h2, h3, h4, h5, h6, h7, h8, h9, h10, h11, h12, h13, hw⟩ := h
  exact ⟨keepC hb h0, keepC hb h1, keepC hb h2, keepC hb h3, keepC hb h4, keepC hb h5, keepC hb h6, keepC hb h7, keepC hb h8, keepC hb h9, keepC hb h10, keepC hb h11, keepC hb h12, keepC hb h13, hw.call hb⟩
set_option maxRecDepth 100000 in
set_option maxHeartbeats 16000000 in
theorem lstays_law (room sent pad : Int) (off : Bool) (k a b r g : Int) (q : Bool) (l : List Cmd) (A : Option Addr) (cap : Nat) (w : World) (F : Forms w 0) (hr : Rk w (.slice A l.length cap) l) :
    Calls Tryd.prog 6 #[.agg #[.int .i64 room, .slice A l.length cap, .int .i64 sent, .int .i64 pad, .bool off], .agg #[.int .i64 k, .int .i64 a, .int .i64 b, .int .i32 r], .int .i64 g, .bool q] w fun e w' => e = .returned (.bool true) ∧ Below w.heap.size w w' := by
  have V := Lib.hid (((La.start w).box #[.int .i64 room, .slice A l.length cap, .int .i64 sent, .int .i64 pad, .bool off] 24).box #[.int .i64 k, .int .i64 a, .int .i64 b, .int .i32 r] 26)
  by_cases hbig : 200 < l.length
  case pos =>
    have hB := decide_eq_true hbig
    clear hbig
    go_enter Tryd.func6, Tryd.ntmps6
    go_wp2_with fail
    refine (lkbig_any room sent pad off A l.length cap _).mono ?_
    rintro e w1 ⟨rfl, hb⟩
    rw [hB]
    replace V := Lib.hid (V.out.call hb)
    clear hb
    go_wp2_with fail
    refine (linked_any _ (F.below V.out.below)).mono ?_
    rintro e w2 ⟨rfl, hb⟩
    replace V := Lib.hid (V.out.call hb)
    clear hb
    go_wp2
    go_ret
    exact ⟨rfl, V.out.below⟩
  have hl : l.length ≤ 200 := by omega
  have hl2 : l.length ≤ 100000 := by omega
  have hB := decide_eq_false hbig
  clear hbig
  by_cases hk : rt ⟨room, l, sent, pad, off⟩
  case neg =>
    have hI := decide_eq_false hk
    clear hk
    have HR := Lib.hid hr
    go_enter Tryd.func6, Tryd.ntmps6
    go_wp2_with fail
    refine (lkbig_any room sent pad off A l.length cap _).mono ?_
    rintro e w1 ⟨rfl, hb⟩
    rw [hB]
    replace V := Lib.hid (V.out.call hb)
    clear hb
    have gp := V.out.at 1 rfl
    obtain ⟨⟨pa, pb, pc, pd, pe⟩, -, pz⟩ := blk5 gp
    clear gp
    go_wp2_with fail
    clear pa pb pc pd pe pz
    refine (lis_any room sent pad off l A cap _ (F.below V.out.below) (HR.out.below V.out.below) hl2).mono ?_
    rintro e w2 ⟨rfl, hb⟩
    rw [hI]
    replace V := Lib.hid (V.out.call hb)
    clear hb
    go_wp2_with fail
    refine (linked_any _ (F.below V.out.below)).mono ?_
    rintro e w3 ⟨rfl, hb⟩
    replace V := Lib.hid (V.out.call hb)
    clear hb
    go_wp2
    go_ret
    exact ⟨rfl, V.out.below⟩
  obtain ⟨ld, hld⟩ : ∃ x, x = (dp ⟨room, l, sent, pad, off⟩).l := ⟨_, rfl⟩
  obtain ⟨lg, hlg⟩ : ∃ x, x = gn ⟨room, l, sent, pad, off⟩ := ⟨_, rfl⟩
  have hdl := dp_len ⟨room, l, sent, pad, off⟩
  rw [← hld, ← hlg] at hdl
  dsimp only at hdl
  have D1 := (dp_rt hk).1
  have hdi := dp_is room sent pad off l
  rw [← hld] at hdi
  rw [hdi] at D1
  obtain ⟨bs, l1, s1, p1, hsd, hl1⟩ := sd_form ⟨room, l, sent, pad, off⟩ g
  dsimp only at hsd hl1
  have S1 := send_rt ⟨room, l, sent, pad, off⟩ g hk
  rw [hsd] at S1
  dsimp only at S1
  obtain ⟨K1, K2⟩ := tk_rt hk
  rw [tk_is] at K1 K2
  obtain ⟨tp, htp⟩ : ∃ x, x = (tk ⟨room, l, sent, pad, off⟩).pad := ⟨_, rfl⟩
  rw [← htp] at K1 K2
  obtain ⟨H1, H2, H3⟩ := hd_rt hk q
  rw [hd_is, H3] at H1 H2
  obtain ⟨rk, hrk⟩ : ∃ x, x = rs ⟨room, l, sent, pad, off⟩ := ⟨_, rfl⟩
  rw [← hrk] at K2 H2
  have hz1 : rk.size ≤ 48 := by rw [hrk]; exact rs_le _
  have hl1' : l1.length ≤ 100000 := by omega
  have hl2' : ld.length ≤ 100000 := by omega
  have hI := decide_eq_true hk
  have HD1 := Lib.hid (decide_eq_true D1)
  have HS1 := Lib.hid (decide_eq_true S1)
  have HK1 := Lib.hid (decide_eq_true K1)
  have HH1 := Lib.hid (decide_eq_true H1)
  have HK2 := Lib.hid K2
  have HH2 := Lib.hid H2
  have HH3 := Lib.hid H3
  have HLD := Lib.hid hld
  have HLG := Lib.hid hlg
  have HTP := Lib.hid htp
  have HSD := Lib.hid hsd
  have HRK := Lib.hid hrk
  have HR := Lib.hid hr
  clear hld hlg hdl D1 hdi hsd S1 K1 K2 htp H1 H2 H3 hrk hr
  obtain ⟨r5, l5, s5, p5, o5, hof, hl5⟩ := ofr_form ⟨room, l, sent, pad, off⟩ (k, a, b, r)
  dsimp only at hl5
  have hl5' : l5.length ≤ 100000 := by omega
  obtain ⟨er, her⟩ : ∃ er, er = ofE ⟨room, l, sent, pad, off⟩ (k, a, b, r) := ⟨_, rfl⟩
  have HO := Lib.hid hof
  have HE := Lib.hid her
  by_cases he0 : er = 0
  case neg =>
    have hb0 : (er == (0 : Int)) = false := by simp [he0]
    clear her hof
    replace V := Lib.hid (V.out.row (HR.out.below V.out.below))
    go_enter Tryd.func6, Tryd.ntmps6
    go_wp2_with fail
    refine (lkbig_any room sent pad off A l.length cap _).mono ?_
    rintro e w1 ⟨rfl, hb⟩
    rw [hB]
    replace V := Lib.hid (V.out.call hb)
    clear hb
    have gp := V.out.at 2 rfl
    obtain ⟨⟨pa, pb, pc, pd, pe⟩, -, pz⟩ := blk5 gp
    clear gp
    go_wp2_with fail
    clear pa pb pc pd pe pz
    refine (lis_any room sent pad off l A cap _ (F.below V.out.below) (V.out.at 0 rfl) hl2).mono ?_
    rintro e w2 ⟨rfl, hb⟩
    rw [hI]
    replace V := Lib.hid (V.out.call hb)
    clear hb
    have gp := V.out.at 2 rfl
    obtain ⟨⟨pa, pb, pc, pd, pe⟩, -, pz⟩ := blk5 gp
    clear gp
    have gp := V.out.at 1 rfl
    rw [one_size] at gp
    obtain ⟨⟨qa, qb, qc, qd⟩, -, qz⟩ := blk4 gp
    clear gp
    go_wp2_with fail
    clear pa pb pc pd pe pz qa qb qc qd qz
    have hrow := V.out.at 0 rfl
    refine (loffer_any room sent pad off k a b r l A cap _ (F.below V.out.below) hrow hl2).mono ?_
    rintro e w3 ⟨ho, hb⟩
    rw [HO.out, ← HE.out] at ho
    obtain ⟨A3, q3, rfl, hko⟩ := ho
    dsimp only at hko ⊢
    clear hrow
    replace V := Lib.hid (V.out.call hb)
    clear hb
    replace V := Lib.hid (V.out.row (hko))
    clear hko
    replace V := Lib.hid (V.out.box #[.int .i64 r5, .slice A3 l5.length q3, .int .i64 s5, .int .i64 p5, .bool o5] 24)
    have gp := V.out.at 0 rfl
    obtain ⟨⟨xa, xb, xc, xd, xe⟩, -, xz⟩ := blk5 gp
    clear gp
    have gp := V.out.at 4 rfl
    obtain ⟨⟨za, zb, zc, zd, ze⟩, -, zz⟩ := blk5 gp
    clear gp
    have gp := V.out.at 3 rfl
    rw [one_size] at gp
    obtain ⟨⟨ua, ub, uc, ud⟩, -, uz⟩ := blk4 gp
    clear gp
    go_wp2
    obtain ⟨Ts, V, HT_rK, HT_bK, HT_rA⟩ : ∃ Ts, Hid (La w.heap.size w (w3.alloc (.cells #[.int .i64 r5, .slice A3 l5.length q3, .int .i64 s5, .int .i64 p5, .bool o5] 24)) Ts) ∧ Hid (Ts[2]? = some (fun w' : World => Rk w' (.slice A l.length cap) l)) ∧ Hid (Ts[4]? = some (fun w' : World => w'.heap[w.heap.size]? = some (.cells #[.int .i64 room, .slice A l.length cap, .int .i64 sent, .int .i64 pad, .bool off] 24 (0, 0)))) ∧ Hid (Ts[1]? = some (fun w' : World => Rk w' (.slice A3 l5.length q3) l5)) :=
      ⟨_, V, Lib.hid rfl, Lib.hid rfl, Lib.hid rfl⟩
    refine wp_region_held_drew (S := fun w' => w'.cell? ⟨w3.heap.size, 0, none⟩ = some (.int .i64 r5) ∧ w'.cell? ⟨w3.heap.size, 1, none⟩ = some (.slice A3 l5.length q3) ∧ w'.cell? ⟨w3.heap.size, 2, none⟩ = some (.int .i64 s5) ∧ w'.cell? ⟨w3.heap.size, 3, none⟩ = some (.int .i64 p5) ∧ w'.cell? ⟨w3.heap.size, 4, none⟩ = some (.bool o5) ∧ w'.cell? ⟨w.heap.size, 0, none⟩ = some (.int .i64 room) ∧ w'.cell? ⟨w.heap.size, 1, none⟩ = some (.slice A l.length cap) ∧ w'.cell? ⟨w.heap.size, 2, none⟩ = some (.int .i64 sent) ∧ w'.cell? ⟨w.heap.size, 3, none⟩ = some (.int .i64 pad) ∧ w'.cell? ⟨w.heap.size, 4, none⟩ = some (.bool off) ∧ w'.cell? ⟨w.heap.size + 1, 0, none⟩ = some (.int .i64 k) ∧ w'.cell? ⟨w.heap.size + 1, 1, none⟩ = some (.int .i64 a) ∧ w'.cell? ⟨w.heap.size + 1, 2, none⟩ = some (.int .i64 b) ∧ w'.cell? ⟨w.heap.size + 1, 3, none⟩ = some (.int .i32 r) ∧ La w.heap.size w w' Ts) (by kernel_rfl) (by exact ⟨by go_keep, by go_keep, by go_keep, by go_keep, by go_keep, by go_keep, by go_keep, by go_keep, by go_keep, by go_keep, by go_keep, by go_keep, by go_keep, by go_keep, La.drew V.out⟩) (fun hHeld => ?_)
    refine held_take (i := 0) (d := (some 31)) (v := ?_) rfl rfl (by kernel_rfl) (by kernel_rfl) (by kernel_rfl) (fun _ _ _ h => h) (by rfl) ?_ (by assumption) ?_
    rotate_left
    · (intro w hSw; (try dsimp only at hSw); go_simp; try with_reducible rfl)
    (try simp only [Act.put, List.setIfInBounds_toArray, List.set_cons_zero, List.set_cons_succ])
    refine held_take (i := 1) (d := (some 32)) (v := ?_) rfl rfl (by kernel_rfl) (by kernel_rfl) (by kernel_rfl) (fun _ _ _ h => h) (by rfl) ?_ (by assumption) ?_
    rotate_left
    · (intro w hSw; (try dsimp only at hSw); go_simp; try with_reducible rfl)
    (try simp only [Act.put, List.setIfInBounds_toArray, List.set_cons_zero, List.set_cons_succ])
    refine held_take (i := 2) (d := (some 33)) (v := ?_) rfl rfl (by kernel_rfl) (by kernel_rfl) (by kernel_rfl) (fun _ _ _ h => h) (by rfl) ?_ (by assumption) ?_
    rotate_left
    · (intro w hSw; (try dsimp only at hSw); go_simp; try with_reducible rfl)
    (try simp only [Act.put, List.setIfInBounds_toArray, List.set_cons_zero, List.set_cons_succ])
    refine held_skip (i := 3) (d := (some 34)) rfl rfl (by kernel_rfl) (by kernel_rfl) (by kernel_rfl) (fun _ _ _ h => h) (by kernel_rfl) (by assumption) ?_
    (try simp only [Act.put, List.setIfInBounds_toArray, List.set_cons_zero, List.set_cons_succ])
    refine held_skip (i := 4) (d := (some 35)) rfl rfl (by kernel_rfl) (by kernel_rfl) (by kernel_rfl) (fun _ _ _ h => h) (by kernel_rfl) (by assumption) ?_
    (try simp only [Act.put, List.setIfInBounds_toArray, List.set_cons_zero, List.set_cons_succ])
    refine held_skip (i := 5) (d := (some 36)) rfl rfl (by kernel_rfl) (by kernel_rfl) (by kernel_rfl) (fun _ _ _ h => h) (by kernel_rfl) (by assumption) ?_
    (try simp only [Act.put, List.setIfInBounds_toArray, List.set_cons_zero, List.set_cons_succ])
    refine held_skip (i := 6) (d := (some 37)) rfl rfl (by kernel_rfl) (by kernel_rfl) (by kernel_rfl) (fun _ _ _ h => h) (by kernel_rfl) (by assumption) ?_
    (try simp only [Act.put, List.setIfInBounds_toArray, List.set_cons_zero, List.set_cons_succ])
    refine held_skip (i := 7) (d := (some 38)) rfl rfl (by kernel_rfl) (by kernel_rfl) (by kernel_rfl) (fun _ _ _ h => h) (by kernel_rfl) (by assumption) ?_
    (try simp only [Act.put, List.setIfInBounds_toArray, List.set_cons_zero, List.set_cons_succ])
    refine held_skip (i := 8) (d := (some 39)) rfl rfl (by kernel_rfl) (by kernel_rfl) (by kernel_rfl) (fun _ _ _ h => h) (by kernel_rfl) (by assumption) ?_
    (try simp only [Act.put, List.setIfInBounds_toArray, List.set_cons_zero, List.set_cons_succ])
    refine held_skip (i := 9) (d := (some 40)) rfl rfl (by kernel_rfl) (by kernel_rfl) (by kernel_rfl) (fun _ _ _ h => h) (by kernel_rfl) (by assumption) ?_
    (try simp only [Act.put, List.setIfInBounds_toArray, List.set_cons_zero, List.set_cons_succ])
    refine held_skip (i := 10) (d := (some 41)) rfl rfl (by kernel_rfl) (by kernel_rfl) (by kernel_rfl) (fun _ _ _ h => h) (by kernel_rfl) (by assumption) ?_
    (try simp only [Act.put, List.setIfInBounds_toArray, List.set_cons_zero, List.set_cons_succ])
    refine held_skip (i := 11) (d := (some 42)) rfl rfl (by kernel_rfl) (by kernel_rfl) (by kernel_rfl) (fun _ _ _ h => h) (by kernel_rfl) (by assumption) ?_
    (try simp only [Act.put, List.setIfInBounds_toArray, List.set_cons_zero, List.set_cons_succ])
    refine held_skip (i := 12) (d := (some 43)) rfl rfl (by kernel_rfl) (by kernel_rfl) (by kernel_rfl) (fun _ _ _ h => h) (by kernel_rfl) (by assumption) ?_
    (try simp only [Act.put, List.setIfInBounds_toArray, List.set_cons_zero, List.set_cons_succ])
    refine held_skip (i := 13) (d := (some 44)) rfl rfl (by kernel_rfl) (by kernel_rfl) (by kernel_rfl) (fun _ _ _ h => h) (by kernel_rfl) (by assumption) ?_
    (try simp only [Act.put, List.setIfInBounds_toArray, List.set_cons_zero, List.set_cons_succ])
    refine held_skip (i := 14) (d := (some 45)) rfl rfl (by kernel_rfl) (by kernel_rfl) (by kernel_rfl) (fun _ _ _ h => h) (by kernel_rfl) (by assumption) ?_
    (try simp only [Act.put, List.setIfInBounds_toArray, List.set_cons_zero, List.set_cons_succ])
    refine held_skip (i := 15) (d := (some 46)) rfl rfl (by kernel_rfl) (by kernel_rfl) (by kernel_rfl) (fun _ _ _ h => h) (by kernel_rfl) (by assumption) ?_
    (try simp only [Act.put, List.setIfInBounds_toArray, List.set_cons_zero, List.set_cons_succ])
    refine held_skip (i := 16) (d := (some 47)) rfl rfl (by kernel_rfl) (by kernel_rfl) (by kernel_rfl) (fun _ _ _ h => h) (by kernel_rfl) (by assumption) ?_
    (try simp only [Act.put, List.setIfInBounds_toArray, List.set_cons_zero, List.set_cons_succ])
    refine held_take (i := 17) (d := (some 48)) (v := ?_) rfl rfl (by kernel_rfl) (by kernel_rfl) (by kernel_rfl) (fun _ _ _ h => h) (by rfl) ?_ (by assumption) ?_
    rotate_left
    · (intro w hSw; (try dsimp only at hSw); go_simp; try with_reducible rfl)
    (try simp only [Act.put, List.setIfInBounds_toArray, List.set_cons_zero, List.set_cons_succ])
    refine wpAnyH_done (by kernel_rfl) ?_ _
    replace V := Lib.hid hHeld.2.2.2.2.2.2.2.2.2.2.2.2.2.2
    replace V := Lib.hid (((La.fresh V.out.below (Nat.le_refl _)).add (fun w' => w'.heap[w.heap.size]? = some (.cells #[.int .i64 room, .slice A l.length cap, .int .i64 sent, .int .i64 pad, .bool off] 24 (0, 0))) (V.out.at _ HT_bK.out) (Stb.blk _ _)).add (fun w' => Rk w' (.slice A l.length cap) l) (V.out.at _ HT_rK.out) (Stb.rk _ _))
    clear hHeld HT_rK HT_bK HT_rA
    try clear xa xb xc xd xe xz za zb zc zd ze zz ua ub uc ud uz
    have gp := V.out.at 1 rfl
    obtain ⟨⟨pa, pb, pc, pd, pe⟩, -, pz⟩ := blk5 gp
    clear gp
    go_wp2_with fail
    clear pa pb pc pd pe pz
    have hrow := V.out.at 0 rfl
    refine (lsend_any room sent pad off g l A cap _ (F.below V.out.below) hrow hl2).mono ?_
    rintro e w11 ⟨ho, hb⟩
    rw [HSD.out] at ho
    dsimp only at ho
    obtain ⟨A11, q11, rfl, hk1⟩ := ho
    replace hk1 := hk1.below hb
    clear hrow
    replace V := Lib.hid (V.out.call hb)
    clear hb
    replace V := Lib.hid (V.out.row (hk1))
    clear hk1
    replace V := Lib.hid (V.out.box #[.int .i64 room, .slice A11 l1.length q11, .int .i64 s1, .int .i64 p1, .bool off] 24)
    have gp := V.out.at 3 rfl
    obtain ⟨⟨pa, pb, pc, pd, pe⟩, -, pz⟩ := blk5 gp
    clear gp
    go_wp2_with fail
    clear pa pb pc pd pe pz
    have hrow := V.out.at 2 rfl
    refine (ldrop_any room sent pad off l A cap _ (F.below V.out.below) hrow (by omega)).mono ?_
    rintro e w12 ⟨ho, hb⟩
    rw [← HLD.out, ← HLG.out] at ho
    obtain ⟨A12, q12, B12, u12, rfl, hk, hk2⟩ := ho
    clear hrow
    replace V := Lib.hid (V.out.call hb)
    clear hb
    replace V := Lib.hid (V.out.row (hk))
    replace V := Lib.hid (V.out.row (hk2))
    clear hk hk2
    replace V := Lib.hid (V.out.box #[.int .i64 room, .slice A12 ld.length q12, .int .i64 sent, .int .i64 pad, .bool off] 24)
    have gp := V.out.at 6 rfl
    obtain ⟨⟨pa, pb, pc, pd, pe⟩, -, pz⟩ := blk5 gp
    clear gp
    go_wp2_with fail
    clear pa pb pc pd pe pz
    refine (ltick_any room sent pad off l A cap _ (F.below V.out.below) (V.out.at 5 rfl) hl2).mono ?_
    rintro e w13 ⟨rfl, hb⟩
    rw [← HTP.out]
    replace V := Lib.hid (V.out.call hb)
    clear hb
    replace V := Lib.hid (V.out.box #[.int .i64 room, .slice A l.length cap, .int .i64 sent, .int .i64 tp, .bool off] 24)
    have gp := V.out.at 7 rfl
    obtain ⟨⟨pa, pb, pc, pd, pe⟩, -, pz⟩ := blk5 gp
    clear gp
    go_wp2_with fail
    clear pa pb pc pd pe pz
    refine (lhold_any room sent pad off q l A cap _ (F.below V.out.below) (V.out.at 6 rfl) hl2).mono ?_
    rintro e w14 ⟨rfl, hb⟩
    rw [HH3.out]
    replace V := Lib.hid (V.out.call hb)
    clear hb
    replace V := Lib.hid (V.out.box #[.int .i64 room, .slice A l.length cap, .int .i64 sent, .int .i64 pad, .bool q] 24)
    have gp := V.out.at 5 rfl
    obtain ⟨⟨xa, xb, xc, xd, xe⟩, -, xz⟩ := blk5 gp
    clear gp
    have gp := V.out.at 2 rfl
    obtain ⟨⟨ya, yb, yc, yd, ye⟩, -, yz⟩ := blk5 gp
    clear gp
    have gp := V.out.at 1 rfl
    obtain ⟨⟨ua, ub, uc, ud, ue⟩, -, uz⟩ := blk5 gp
    clear gp
    have gp := V.out.at 0 rfl
    obtain ⟨⟨va, vb, vc, vd, ve⟩, -, vz⟩ := blk5 gp
    clear gp
    have gp := V.out.at 8 rfl
    obtain ⟨⟨za, zb, zc, zd, ze⟩, -, zz⟩ := blk5 gp
    clear gp
    go_wp2
    obtain ⟨Ts, V, HT_rK, HT_rS, HT_rD⟩ : ∃ Ts, Hid (La w.heap.size w (w14.alloc (.cells #[.int .i64 room, .slice A l.length cap, .int .i64 sent, .int .i64 pad, .bool q] 24)) Ts) ∧ Hid (Ts[7]? = some (fun w' : World => Rk w' (.slice A l.length cap) l)) ∧ Hid (Ts[6]? = some (fun w' : World => Rk w' (.slice A11 l1.length q11) l1)) ∧ Hid (Ts[4]? = some (fun w' : World => Rk w' (.slice A12 ld.length q12) ld)) :=
      ⟨_, V, Lib.hid rfl, Lib.hid rfl, Lib.hid rfl⟩
    refine wp_region_held_drew (S := fun w' => w'.cell? ⟨w11.heap.size, 0, none⟩ = some (.int .i64 room) ∧ w'.cell? ⟨w11.heap.size, 1, none⟩ = some (.slice A11 l1.length q11) ∧ w'.cell? ⟨w11.heap.size, 2, none⟩ = some (.int .i64 s1) ∧ w'.cell? ⟨w11.heap.size, 3, none⟩ = some (.int .i64 p1) ∧ w'.cell? ⟨w11.heap.size, 4, none⟩ = some (.bool off) ∧ w'.cell? ⟨w12.heap.size, 0, none⟩ = some (.int .i64 room) ∧ w'.cell? ⟨w12.heap.size, 1, none⟩ = some (.slice A12 ld.length q12) ∧ w'.cell? ⟨w12.heap.size, 2, none⟩ = some (.int .i64 sent) ∧ w'.cell? ⟨w12.heap.size, 3, none⟩ = some (.int .i64 pad) ∧ w'.cell? ⟨w12.heap.size, 4, none⟩ = some (.bool off) ∧ w'.cell? ⟨w13.heap.size, 0, none⟩ = some (.int .i64 room) ∧ w'.cell? ⟨w13.heap.size, 1, none⟩ = some (.slice A l.length cap) ∧ w'.cell? ⟨w13.heap.size, 2, none⟩ = some (.int .i64 sent) ∧ w'.cell? ⟨w13.heap.size, 3, none⟩ = some (.int .i64 tp) ∧ w'.cell? ⟨w13.heap.size, 4, none⟩ = some (.bool off) ∧ w'.cell? ⟨w14.heap.size, 0, none⟩ = some (.int .i64 room) ∧ w'.cell? ⟨w14.heap.size, 1, none⟩ = some (.slice A l.length cap) ∧ w'.cell? ⟨w14.heap.size, 2, none⟩ = some (.int .i64 sent) ∧ w'.cell? ⟨w14.heap.size, 3, none⟩ = some (.int .i64 pad) ∧ w'.cell? ⟨w14.heap.size, 4, none⟩ = some (.bool q) ∧ w'.cell? ⟨w.heap.size, 0, none⟩ = some (.int .i64 room) ∧ w'.cell? ⟨w.heap.size, 1, none⟩ = some (.slice A l.length cap) ∧ w'.cell? ⟨w.heap.size, 2, none⟩ = some (.int .i64 sent) ∧ w'.cell? ⟨w.heap.size, 3, none⟩ = some (.int .i64 pad) ∧ w'.cell? ⟨w.heap.size, 4, none⟩ = some (.bool off) ∧ La w.heap.size w w' Ts) (by kernel_rfl) (by exact ⟨by go_keep, by go_keep, by go_keep, by go_keep, by go_keep, by go_keep, by go_keep, by go_keep, by go_keep, by go_keep, by go_keep, by go_keep, by go_keep, by go_keep, by go_keep, by go_keep, by go_keep, by go_keep, by go_keep, by go_keep, by go_keep, by go_keep, by go_keep, by go_keep, by go_keep, La.drew V.out⟩) (fun hHeld => ?_)
    refine wpAnyH_ready (rs := [0]) (by kernel_rfl) (by simp) ?_
    refine AllReadyH.cons rfl (fun K hK => ?_) AllReadyH.nil
    go_simp
    go_at_call 15; refine (linked_any _ (F.below hHeld.2.2.2.2.2.2.2.2.2.2.2.2.2.2.2.2.2.2.2.2.2.2.2.2.2.below)).mono ?_; rintro e w' ⟨rfl, hb⟩
    refine hK.out _ _ (by exact keepL25 hb hHeld) (fun hHeld2 => ?_)
    clear hK K hHeld
    have hHeld := hHeld2
    clear hHeld2
    (try simp only [Act.put, List.setIfInBounds_toArray, List.set_cons_zero, List.set_cons_succ])
    refine held_take (i := 1) (d := (some 66)) (v := ?_) rfl rfl (by kernel_rfl) (by kernel_rfl) (by kernel_rfl) (fun _ _ _ h => h) (by rfl) ?_ (by assumption) ?_
    rotate_left
    · (intro w hSw; (try dsimp only at hSw); go_simp; try with_reducible rfl)
    (try simp only [Act.put, List.setIfInBounds_toArray, List.set_cons_zero, List.set_cons_succ])
    refine held_take (i := 2) (d := (some 67)) (v := ?_) rfl rfl (by kernel_rfl) (by kernel_rfl) (by kernel_rfl) (fun _ _ _ h => h) (by rfl) ?_ (by assumption) ?_
    rotate_left
    · (intro w hSw; (try dsimp only at hSw); go_simp; try with_reducible rfl)
    (try simp only [Act.put, List.setIfInBounds_toArray, List.set_cons_zero, List.set_cons_succ])
    refine wpAnyH_ready (rs := [3]) (by kernel_rfl) (by simp) ?_
    refine AllReadyH.cons rfl (fun K hK => ?_) AllReadyH.nil
    go_simp
    go_at_call 17; refine (lis_any room s1 p1 off l1 A11 q11 _ (F.below hHeld.2.2.2.2.2.2.2.2.2.2.2.2.2.2.2.2.2.2.2.2.2.2.2.2.2.below) (hHeld.2.2.2.2.2.2.2.2.2.2.2.2.2.2.2.2.2.2.2.2.2.2.2.2.2.at _ HT_rS.out) hl1').mono ?_; rintro e w' ⟨rfl, hb⟩; rw [HS1.out]
    refine hK.out _ _ (by exact keepL25 hb hHeld) (fun hHeld2 => ?_)
    clear hK K hHeld
    have hHeld := hHeld2
    clear hHeld2
    (try simp only [Act.put, List.setIfInBounds_toArray, List.set_cons_zero, List.set_cons_succ])
    refine held_take (i := 4) (d := (some 69)) (v := ?_) rfl rfl (by kernel_rfl) (by kernel_rfl) (by kernel_rfl) (fun _ _ _ h => h) (by rfl) ?_ (by assumption) ?_
    rotate_left
    · (intro w hSw; (try dsimp only at hSw); go_simp; try with_reducible rfl)
    (try simp only [Act.put, List.setIfInBounds_toArray, List.set_cons_zero, List.set_cons_succ])
    refine held_take (i := 5) (d := (some 70)) (v := ?_) rfl rfl (by kernel_rfl) (by kernel_rfl) (by kernel_rfl) (fun _ _ _ h => h) (by rfl) ?_ (by assumption) ?_
    rotate_left
    · (intro w hSw; (try dsimp only at hSw); go_simp; try with_reducible rfl)
    (try simp only [Act.put, List.setIfInBounds_toArray, List.set_cons_zero, List.set_cons_succ])
    refine held_take (i := 6) (d := (some 71)) (v := ?_) rfl rfl (by kernel_rfl) (by kernel_rfl) (by kernel_rfl) (fun _ _ _ h => h) (by rfl) ?_ (by assumption) ?_
    rotate_left
    · (intro w hSw; (try dsimp only at hSw); go_simp; try with_reducible rfl)
    (try simp only [Act.put, List.setIfInBounds_toArray, List.set_cons_zero, List.set_cons_succ])
    refine wpAnyH_ready (rs := [7]) (by kernel_rfl) (by simp) ?_
    refine AllReadyH.cons rfl (fun K hK => ?_) AllReadyH.nil
    go_simp
    go_at_call 17; refine (lis_any room sent pad off ld A12 q12 _ (F.below hHeld.2.2.2.2.2.2.2.2.2.2.2.2.2.2.2.2.2.2.2.2.2.2.2.2.2.below) (hHeld.2.2.2.2.2.2.2.2.2.2.2.2.2.2.2.2.2.2.2.2.2.2.2.2.2.at _ HT_rD.out) hl2').mono ?_; rintro e w' ⟨rfl, hb⟩; rw [HD1.out]
    refine hK.out _ _ (by exact keepL25 hb hHeld) (fun hHeld2 => ?_)
    clear hK K hHeld
    have hHeld := hHeld2
    clear hHeld2
    (try simp only [Act.put, List.setIfInBounds_toArray, List.set_cons_zero, List.set_cons_succ])
    refine held_take (i := 8) (d := (some 73)) (v := ?_) rfl rfl (by kernel_rfl) (by kernel_rfl) (by kernel_rfl) (fun _ _ _ h => h) (by rfl) ?_ (by assumption) ?_
    rotate_left
    · (intro w hSw; (try dsimp only at hSw); go_simp; try with_reducible rfl)
    (try simp only [Act.put, List.setIfInBounds_toArray, List.set_cons_zero, List.set_cons_succ])
    refine held_take (i := 9) (d := (some 74)) (v := ?_) rfl rfl (by kernel_rfl) (by kernel_rfl) (by kernel_rfl) (fun _ _ _ h => h) (by rfl) ?_ (by assumption) ?_
    rotate_left
    · (intro w hSw; (try dsimp only at hSw); go_simp; try with_reducible rfl)
    (try simp only [Act.put, List.setIfInBounds_toArray, List.set_cons_zero, List.set_cons_succ])
    refine held_take (i := 10) (d := (some 75)) (v := ?_) rfl rfl (by kernel_rfl) (by kernel_rfl) (by kernel_rfl) (fun _ _ _ h => h) (by rfl) ?_ (by assumption) ?_
    rotate_left
    · (intro w hSw; (try dsimp only at hSw); go_simp; try with_reducible rfl)
    (try simp only [Act.put, List.setIfInBounds_toArray, List.set_cons_zero, List.set_cons_succ])
    refine wpAnyH_ready (rs := [11]) (by kernel_rfl) (by simp) ?_
    refine AllReadyH.cons rfl (fun K hK => ?_) AllReadyH.nil
    go_simp
    go_at_call 17; refine (lis_any room sent tp off l A cap _ (F.below hHeld.2.2.2.2.2.2.2.2.2.2.2.2.2.2.2.2.2.2.2.2.2.2.2.2.2.below) (hHeld.2.2.2.2.2.2.2.2.2.2.2.2.2.2.2.2.2.2.2.2.2.2.2.2.2.at _ HT_rK.out) hl2).mono ?_; rintro e w' ⟨rfl, hb⟩; rw [HK1.out]
    refine hK.out _ _ (by exact keepL25 hb hHeld) (fun hHeld2 => ?_)
    clear hK K hHeld
    have hHeld := hHeld2
    clear hHeld2
    (try simp only [Act.put, List.setIfInBounds_toArray, List.set_cons_zero, List.set_cons_succ])
    refine held_take (i := 12) (d := (some 77)) (v := ?_) rfl rfl (by kernel_rfl) (by kernel_rfl) (by kernel_rfl) (fun _ _ _ h => h) (by rfl) ?_ (by assumption) ?_
    rotate_left
    · (intro w hSw; (try dsimp only at hSw); go_simp; try with_reducible rfl)
    (try simp only [Act.put, List.setIfInBounds_toArray, List.set_cons_zero, List.set_cons_succ])
    refine held_take (i := 13) (d := (some 78)) (v := ?_) rfl rfl (by kernel_rfl) (by kernel_rfl) (by kernel_rfl) (fun _ _ _ h => h) (by rfl) ?_ (by assumption) ?_
    rotate_left
    · (intro w hSw; (try dsimp only at hSw); go_simp; try with_reducible rfl)
    (try simp only [Act.put, List.setIfInBounds_toArray, List.set_cons_zero, List.set_cons_succ])
    refine held_take (i := 14) (d := (some 79)) (v := ?_) rfl rfl (by kernel_rfl) (by kernel_rfl) (by kernel_rfl) (fun _ _ _ h => h) (by rfl) ?_ (by assumption) ?_
    rotate_left
    · (intro w hSw; (try dsimp only at hSw); go_simp; try with_reducible rfl)
    (try simp only [Act.put, List.setIfInBounds_toArray, List.set_cons_zero, List.set_cons_succ])
    refine wpAnyH_ready (rs := [15]) (by kernel_rfl) (by simp) ?_
    refine AllReadyH.cons rfl (fun K hK => ?_) AllReadyH.nil
    go_simp
    go_at_call 17; refine (lis_any room sent pad q l A cap _ (F.below hHeld.2.2.2.2.2.2.2.2.2.2.2.2.2.2.2.2.2.2.2.2.2.2.2.2.2.below) (hHeld.2.2.2.2.2.2.2.2.2.2.2.2.2.2.2.2.2.2.2.2.2.2.2.2.2.at _ HT_rK.out) hl2).mono ?_; rintro e w' ⟨rfl, hb⟩; rw [HH1.out]
    refine hK.out _ _ (by exact keepL25 hb hHeld) (fun hHeld2 => ?_)
    clear hK K hHeld
    have hHeld := hHeld2
    clear hHeld2
    (try simp only [Act.put, List.setIfInBounds_toArray, List.set_cons_zero, List.set_cons_succ])
    refine held_take (i := 16) (d := (some 81)) (v := ?_) rfl rfl (by kernel_rfl) (by kernel_rfl) (by kernel_rfl) (fun _ _ _ h => h) (by rfl) ?_ (by assumption) ?_
    rotate_left
    · (intro w hSw; (try dsimp only at hSw); go_simp; try with_reducible rfl)
    (try simp only [Act.put, List.setIfInBounds_toArray, List.set_cons_zero, List.set_cons_succ])
    refine held_take (i := 17) (d := (some 82)) (v := ?_) rfl rfl (by kernel_rfl) (by kernel_rfl) (by kernel_rfl) (fun _ _ _ h => h) (by rfl) ?_ (by assumption) ?_
    rotate_left
    · (intro w hSw; (try dsimp only at hSw); go_simp; try with_reducible rfl)
    (try simp only [Act.put, List.setIfInBounds_toArray, List.set_cons_zero, List.set_cons_succ])
    refine held_take (i := 18) (d := (some 83)) (v := ?_) rfl rfl (by kernel_rfl) (by kernel_rfl) (by kernel_rfl) (fun _ _ _ h => h) (by rfl) ?_ (by assumption) ?_
    rotate_left
    · (intro w hSw; (try dsimp only at hSw); go_simp; try with_reducible rfl)
    (try simp only [Act.put, List.setIfInBounds_toArray, List.set_cons_zero, List.set_cons_succ])
    refine held_take (i := 20) (d := (some 85)) (v := ?_) rfl rfl (by kernel_rfl) (by kernel_rfl) (by kernel_rfl) (fun _ _ _ h => h) (by rfl) ?_ (by assumption) ?_
    rotate_left
    · (intro w hSw; (try dsimp only at hSw); go_simp; try with_reducible rfl)
    (try simp only [Act.put, List.setIfInBounds_toArray, List.set_cons_zero, List.set_cons_succ])
    refine wpAnyH_ready (rs := [19]) (by kernel_rfl) (by simp) ?_
    refine AllReadyH.cons rfl (fun K hK => ?_) AllReadyH.nil
    go_simp
    go_at_call 19; refine (lrest_any room sent tp off l A cap _ (F.below hHeld.2.2.2.2.2.2.2.2.2.2.2.2.2.2.2.2.2.2.2.2.2.2.2.2.2.below) (hHeld.2.2.2.2.2.2.2.2.2.2.2.2.2.2.2.2.2.2.2.2.2.2.2.2.2.at _ HT_rK.out) hl2).mono ?_; rintro e w' ⟨rfl, hb⟩; rw [HK2.out]
    refine hK.out _ _ (by exact keepL25 hb hHeld) (fun hHeld2 => ?_)
    clear hK K hHeld
    have hHeld := hHeld2
    clear hHeld2
    (try simp only [Act.put, List.setIfInBounds_toArray, List.set_cons_zero, List.set_cons_succ])
    refine wpAnyH_ready (rs := [21]) (by kernel_rfl) (by simp) ?_
    refine AllReadyH.cons rfl (fun K hK => ?_) AllReadyH.nil
    go_simp
    go_at_call 19; refine (lrest_any room sent pad off l A cap _ (F.below hHeld.2.2.2.2.2.2.2.2.2.2.2.2.2.2.2.2.2.2.2.2.2.2.2.2.2.below) (hHeld.2.2.2.2.2.2.2.2.2.2.2.2.2.2.2.2.2.2.2.2.2.2.2.2.2.at _ HT_rK.out) hl2).mono ?_; rintro e w' ⟨rfl, hb⟩; rw [← HRK.out]
    refine hK.out _ _ (by exact keepL25 hb hHeld) (fun hHeld2 => ?_)
    clear hK K hHeld
    have hHeld := hHeld2
    clear hHeld2
    (try simp only [Act.put, List.setIfInBounds_toArray, List.set_cons_zero, List.set_cons_succ])
    refine held_take (i := 22) (d := (some 87)) (v := ?_) rfl rfl (by kernel_rfl) (by kernel_rfl) (by kernel_rfl) (fun _ _ _ h => h) (by rfl) ?_ (by assumption) ?_
    rotate_left
    · (intro w hSw; (try dsimp only at hSw); go_simp; try with_reducible rfl)
    (try simp only [Act.put, List.setIfInBounds_toArray, List.set_cons_zero, List.set_cons_succ])
    refine held_take (i := 23) (d := (some 88)) (v := ?_) rfl rfl (by kernel_rfl) (by kernel_rfl) (by kernel_rfl) (fun _ _ _ h => h) (by rfl) ?_ (by assumption) ?_
    rotate_left
    · (intro w hSw; (try dsimp only at hSw); go_simp; try with_reducible rfl)
    (try simp only [Act.put, List.setIfInBounds_toArray, List.set_cons_zero, List.set_cons_succ])
    refine held_take (i := 24) (d := (some 89)) (v := ?_) rfl rfl (by kernel_rfl) (by kernel_rfl) (by kernel_rfl) (fun _ _ _ h => h) (by rfl) ?_ (by assumption) ?_
    rotate_left
    · (intro w hSw; (try dsimp only at hSw); go_simp; try with_reducible rfl)
    (try simp only [Act.put, List.setIfInBounds_toArray, List.set_cons_zero, List.set_cons_succ])
    refine held_take (i := 25) (d := (some 90)) (v := ?_) rfl rfl (by kernel_rfl) (by kernel_rfl) (by kernel_rfl) (fun _ _ _ h => h) (by rfl) ?_ (by assumption) ?_
    rotate_left
    · (intro w hSw; (try dsimp only at hSw); go_simp; try with_reducible rfl)
    (try simp only [Act.put, List.setIfInBounds_toArray, List.set_cons_zero, List.set_cons_succ])
    refine held_take (i := 27) (d := (some 92)) (v := ?_) rfl rfl (by kernel_rfl) (by kernel_rfl) (by kernel_rfl) (fun _ _ _ h => h) (by rfl) ?_ (by assumption) ?_
    rotate_left
    · (intro w hSw; (try dsimp only at hSw); go_simp; try with_reducible rfl)
    (try simp only [Act.put, List.setIfInBounds_toArray, List.set_cons_zero, List.set_cons_succ])
    refine wpAnyH_ready (rs := [26]) (by kernel_rfl) (by simp) ?_
    refine AllReadyH.cons rfl (fun K hK => ?_) AllReadyH.nil
    go_simp
    go_at_call 19; refine (lrest_any room sent pad q l A cap _ (F.below hHeld.2.2.2.2.2.2.2.2.2.2.2.2.2.2.2.2.2.2.2.2.2.2.2.2.2.below) (hHeld.2.2.2.2.2.2.2.2.2.2.2.2.2.2.2.2.2.2.2.2.2.2.2.2.2.at _ HT_rK.out) hl2).mono ?_; rintro e w' ⟨rfl, hb⟩; rw [HH2.out]
    refine hK.out _ _ (by exact keepL25 hb hHeld) (fun hHeld2 => ?_)
    clear hK K hHeld
    have hHeld := hHeld2
    clear hHeld2
    (try simp only [Act.put, List.setIfInBounds_toArray, List.set_cons_zero, List.set_cons_succ])
    refine wpAnyH_ready (rs := [28]) (by kernel_rfl) (by simp) ?_
    refine AllReadyH.cons rfl (fun K hK => ?_) AllReadyH.nil
    go_simp
    go_at_call 19; refine (lrest_any room sent pad off l A cap _ (F.below hHeld.2.2.2.2.2.2.2.2.2.2.2.2.2.2.2.2.2.2.2.2.2.2.2.2.2.below) (hHeld.2.2.2.2.2.2.2.2.2.2.2.2.2.2.2.2.2.2.2.2.2.2.2.2.2.at _ HT_rK.out) hl2).mono ?_; rintro e w' ⟨rfl, hb⟩; rw [← HRK.out]
    refine hK.out _ _ (by exact keepL25 hb hHeld) (fun hHeld2 => ?_)
    clear hK K hHeld
    have hHeld := hHeld2
    clear hHeld2
    (try simp only [Act.put, List.setIfInBounds_toArray, List.set_cons_zero, List.set_cons_succ])
    refine held_take (i := 29) (d := (some 94)) (v := ?_) rfl rfl (by kernel_rfl) (by kernel_rfl) (by kernel_rfl) (fun _ _ _ h => h) (by rfl) ?_ (by assumption) ?_
    rotate_left
    · (intro w hSw; (try dsimp only at hSw); go_simp; try with_reducible rfl)
    (try simp only [Act.put, List.setIfInBounds_toArray, List.set_cons_zero, List.set_cons_succ])
    refine held_take (i := 30) (d := (some 95)) (v := ?_) rfl rfl (by kernel_rfl) (by kernel_rfl) (by kernel_rfl) (fun _ _ _ h => h) (by rfl) ?_ (by assumption) ?_
    rotate_left
    · (intro w hSw; (try dsimp only at hSw); go_simp; try with_reducible rfl)
    (try simp only [Act.put, List.setIfInBounds_toArray, List.set_cons_zero, List.set_cons_succ])
    refine held_take (i := 31) (d := (some 96)) (v := ?_) rfl rfl (by kernel_rfl) (by kernel_rfl) (by kernel_rfl) (fun _ _ _ h => h) (by rfl) ?_ (by assumption) ?_
    rotate_left
    · (intro w hSw; (try dsimp only at hSw); go_simp; try with_reducible rfl)
    (try simp only [Act.put, List.setIfInBounds_toArray, List.set_cons_zero, List.set_cons_succ])
    refine held_take (i := 32) (d := (some 97)) (v := ?_) rfl rfl (by kernel_rfl) (by kernel_rfl) (by kernel_rfl) (fun _ _ _ h => h) (by rfl) ?_ (by assumption) ?_
    rotate_left
    · (intro w hSw; (try dsimp only at hSw); go_simp; try with_reducible rfl)
    (try simp only [Act.put, List.setIfInBounds_toArray, List.set_cons_zero, List.set_cons_succ])
    refine held_take (i := 33) (d := (some 98)) (v := ?_) rfl rfl (by kernel_rfl) (by kernel_rfl) (by kernel_rfl) (fun _ _ _ h => h) (by rfl) ?_ (by assumption) ?_
    rotate_left
    · (intro w hSw; (try dsimp only at hSw); go_simp; try with_reducible rfl)
    (try simp only [Act.put, List.setIfInBounds_toArray, List.set_cons_zero, List.set_cons_succ])
    refine held_take (i := 34) (d := (some 99)) (v := ?_) rfl rfl (by kernel_rfl) (by kernel_rfl) (by kernel_rfl) (fun _ _ _ h => h) (by rfl) ?_ (by assumption) ?_
    rotate_left
    · (intro w hSw; (try dsimp only at hSw); go_simp; try with_reducible rfl)
    (try simp only [Act.put, List.setIfInBounds_toArray, List.set_cons_zero, List.set_cons_succ])
    refine held_take (i := 35) (d := (some 100)) (v := ?_) rfl rfl (by kernel_rfl) (by kernel_rfl) (by kernel_rfl) (fun _ _ _ h => h) (by rfl) ?_ (by assumption) ?_
    rotate_left
    · (intro w hSw; (try dsimp only at hSw); go_simp; try with_reducible rfl)
    (try simp only [Act.put, List.setIfInBounds_toArray, List.set_cons_zero, List.set_cons_succ])
    refine held_take (i := 36) (d := (some 101)) (v := ?_) rfl rfl (by kernel_rfl) (by kernel_rfl) (by kernel_rfl) (fun _ _ _ h => h) (by rfl) ?_ (by assumption) ?_
    rotate_left
    · (intro w hSw; (try dsimp only at hSw); go_simp; try with_reducible rfl)
    (try simp only [Act.put, List.setIfInBounds_toArray, List.set_cons_zero, List.set_cons_succ])
    refine held_take (i := 37) (d := (some 8)) (v := ?_) rfl rfl (by kernel_rfl) (by kernel_rfl) (by kernel_rfl) (fun _ _ _ h => h) (by rfl) ?_ (by assumption) ?_
    rotate_left
    · (intro w hSw; (try dsimp only at hSw); go_simp; try with_reducible rfl)
    (try simp only [Act.put, List.setIfInBounds_toArray, List.set_cons_zero, List.set_cons_succ])
    refine wpAnyH_done (by kernel_rfl) ?_ _
    go_wp2
    go_ret
    exact ⟨by simp, hHeld.2.2.2.2.2.2.2.2.2.2.2.2.2.2.2.2.2.2.2.2.2.2.2.2.2.below⟩
  subst he0
  obtain ⟨O1, O2⟩ := of_rt (k := ⟨room, l, sent, pad, off⟩) (c := (k, a, b, r)) her.symm
  rw [hof] at O1 O2
  rw [← HRK.out] at O2
  obtain ⟨bc, hbc⟩ : ∃ x, x = btC (k, a, b, r) := ⟨_, rfl⟩
  obtain ⟨ra, hra⟩ : ∃ x, x = rk ++ bc := ⟨_, rfl⟩
  rw [← hbc, ← hra] at O2
  have hbz : bc.size ≤ 8 := by rw [hbc]; exact szC_le (k, a, b, r)
  have hrz : ra.size = rk.size + bc.size := by rw [hra, size_app]
  have hrz3 : ¬ 9223372036854775807 < ra.size := by omega
  have hrz4 : ¬ 9223372036854775807 < rk.size + bc.size := by omega
  have hcat : rk ++ bc = ra := hra.symm
  have HOR := Lib.hid (decide_eq_true O1)
  have HOS := Lib.hid O2
  have HBC : Hid (btsL [(k, a, b, r)] = bc) := Lib.hid (by rw [show btsL [(k, a, b, r)] = btC (k, a, b, r) ++ ⟨#[]⟩ from rfl, app_nil, hbc])
  clear O1 O2 hbc hra hof her hrz
  replace V := Lib.hid (V.out.row (HR.out.below V.out.below))
  go_enter Tryd.func6, Tryd.ntmps6
  go_wp2_with fail
  refine (lkbig_any room sent pad off A l.length cap _).mono ?_
  rintro e w1 ⟨rfl, hb⟩
  rw [hB]
  replace V := Lib.hid (V.out.call hb)
  clear hb
  have gp := V.out.at 2 rfl
  obtain ⟨⟨pa, pb, pc, pd, pe⟩, -, pz⟩ := blk5 gp
  clear gp
  go_wp2_with fail
  clear pa pb pc pd pe pz
  refine (lis_any room sent pad off l A cap _ (F.below V.out.below) (V.out.at 0 rfl) hl2).mono ?_
  rintro e w2 ⟨rfl, hb⟩
  rw [hI]
  replace V := Lib.hid (V.out.call hb)
  clear hb
  have gp := V.out.at 2 rfl
  obtain ⟨⟨pa, pb, pc, pd, pe⟩, -, pz⟩ := blk5 gp
  clear gp
  have gp := V.out.at 1 rfl
  rw [one_size] at gp
  obtain ⟨⟨qa, qb, qc, qd⟩, -, qz⟩ := blk4 gp
  clear gp
  go_wp2_with fail
  clear pa pb pc pd pe pz qa qb qc qd qz
  have hrow := V.out.at 0 rfl
  refine (loffer_any room sent pad off k a b r l A cap _ (F.below V.out.below) hrow hl2).mono ?_
  rintro e w3 ⟨ho, hb⟩
  rw [HO.out, ← HE.out] at ho
  obtain ⟨A3, q3, rfl, hko⟩ := ho
  dsimp only at hko ⊢
  clear hrow
  replace V := Lib.hid (V.out.call hb)
  clear hb
  replace V := Lib.hid (V.out.row (hko))
  clear hko
  replace V := Lib.hid (V.out.box #[.int .i64 r5, .slice A3 l5.length q3, .int .i64 s5, .int .i64 p5, .bool o5] 24)
  have gp := V.out.at 0 rfl
  obtain ⟨⟨xa, xb, xc, xd, xe⟩, -, xz⟩ := blk5 gp
  clear gp
  have gp := V.out.at 4 rfl
  obtain ⟨⟨za, zb, zc, zd, ze⟩, -, zz⟩ := blk5 gp
  clear gp
  have gp := V.out.at 3 rfl
  rw [one_size] at gp
  obtain ⟨⟨ua, ub, uc, ud⟩, -, uz⟩ := blk4 gp
  clear gp
  go_wp2
  obtain ⟨Ts, V, HT_rK, HT_bK, HT_rA⟩ : ∃ Ts, Hid (La w.heap.size w (w3.alloc (.cells #[.int .i64 r5, .slice A3 l5.length q3, .int .i64 s5, .int .i64 p5, .bool o5] 24)) Ts) ∧ Hid (Ts[2]? = some (fun w' : World => Rk w' (.slice A l.length cap) l)) ∧ Hid (Ts[4]? = some (fun w' : World => w'.heap[w.heap.size]? = some (.cells #[.int .i64 room, .slice A l.length cap, .int .i64 sent, .int .i64 pad, .bool off] 24 (0, 0)))) ∧ Hid (Ts[1]? = some (fun w' : World => Rk w' (.slice A3 l5.length q3) l5)) :=
    ⟨_, V, Lib.hid rfl, Lib.hid rfl, Lib.hid rfl⟩
  refine wp_region_held_drew (S := fun w' => w'.cell? ⟨w3.heap.size, 0, none⟩ = some (.int .i64 r5) ∧ w'.cell? ⟨w3.heap.size, 1, none⟩ = some (.slice A3 l5.length q3) ∧ w'.cell? ⟨w3.heap.size, 2, none⟩ = some (.int .i64 s5) ∧ w'.cell? ⟨w3.heap.size, 3, none⟩ = some (.int .i64 p5) ∧ w'.cell? ⟨w3.heap.size, 4, none⟩ = some (.bool o5) ∧ w'.cell? ⟨w.heap.size, 0, none⟩ = some (.int .i64 room) ∧ w'.cell? ⟨w.heap.size, 1, none⟩ = some (.slice A l.length cap) ∧ w'.cell? ⟨w.heap.size, 2, none⟩ = some (.int .i64 sent) ∧ w'.cell? ⟨w.heap.size, 3, none⟩ = some (.int .i64 pad) ∧ w'.cell? ⟨w.heap.size, 4, none⟩ = some (.bool off) ∧ w'.cell? ⟨w.heap.size + 1, 0, none⟩ = some (.int .i64 k) ∧ w'.cell? ⟨w.heap.size + 1, 1, none⟩ = some (.int .i64 a) ∧ w'.cell? ⟨w.heap.size + 1, 2, none⟩ = some (.int .i64 b) ∧ w'.cell? ⟨w.heap.size + 1, 3, none⟩ = some (.int .i32 r) ∧ La w.heap.size w w' Ts) (by kernel_rfl) (by exact ⟨by go_keep, by go_keep, by go_keep, by go_keep, by go_keep, by go_keep, by go_keep, by go_keep, by go_keep, by go_keep, by go_keep, by go_keep, by go_keep, by go_keep, La.drew V.out⟩) (fun hHeld => ?_)
  refine held_take (i := 0) (d := (some 31)) (v := ?_) rfl rfl (by kernel_rfl) (by kernel_rfl) (by kernel_rfl) (fun _ _ _ h => h) (by rfl) ?_ (by assumption) ?_
  rotate_left
  · (intro w hSw; (try dsimp only at hSw); go_simp; try with_reducible rfl)
  (try simp only [Act.put, List.setIfInBounds_toArray, List.set_cons_zero, List.set_cons_succ])
  refine held_take (i := 1) (d := (some 32)) (v := ?_) rfl rfl (by kernel_rfl) (by kernel_rfl) (by kernel_rfl) (fun _ _ _ h => h) (by rfl) ?_ (by assumption) ?_
  rotate_left
  · (intro w hSw; (try dsimp only at hSw); go_simp; try with_reducible rfl)
  (try simp only [Act.put, List.setIfInBounds_toArray, List.set_cons_zero, List.set_cons_succ])
  refine held_take (i := 2) (d := (some 33)) (v := ?_) rfl rfl (by kernel_rfl) (by kernel_rfl) (by kernel_rfl) (fun _ _ _ h => h) (by rfl) ?_ (by assumption) ?_
  rotate_left
  · (intro w hSw; (try dsimp only at hSw); go_simp; try with_reducible rfl)
  (try simp only [Act.put, List.setIfInBounds_toArray, List.set_cons_zero, List.set_cons_succ])
  refine held_take (i := 3) (d := (some 34)) (v := ?_) rfl rfl (by kernel_rfl) (by kernel_rfl) (by kernel_rfl) (fun _ _ _ h => h) (by rfl) ?_ (by assumption) ?_
  rotate_left
  · (intro w hSw; (try dsimp only at hSw); go_simp; try with_reducible rfl)
  (try simp only [Act.put, List.setIfInBounds_toArray, List.set_cons_zero, List.set_cons_succ])
  refine wpAnyH_ready (rs := [4]) (by kernel_rfl) (by simp) ?_
  refine AllReadyH.cons rfl (fun K hK => ?_) AllReadyH.nil
  go_simp
  go_at_call 17; refine (lis_any r5 s5 p5 o5 l5 A3 q3 _ (F.below hHeld.2.2.2.2.2.2.2.2.2.2.2.2.2.2.below) (hHeld.2.2.2.2.2.2.2.2.2.2.2.2.2.2.at _ HT_rA.out) hl5').mono ?_; rintro e w' ⟨rfl, hb⟩; rw [HOR.out]
  refine hK.out _ _ (by exact keepL14 hb hHeld) (fun hHeld2 => ?_)
  clear hK K hHeld
  have hHeld := hHeld2
  clear hHeld2
  (try simp only [Act.put, List.setIfInBounds_toArray, List.set_cons_zero, List.set_cons_succ])
  refine held_take (i := 5) (d := (some 36)) (v := ?_) rfl rfl (by kernel_rfl) (by kernel_rfl) (by kernel_rfl) (fun _ _ _ h => h) (by rfl) ?_ (by assumption) ?_
  rotate_left
  · (intro w hSw; (try dsimp only at hSw); go_simp; try with_reducible rfl)
  (try simp only [Act.put, List.setIfInBounds_toArray, List.set_cons_zero, List.set_cons_succ])
  refine held_take (i := 6) (d := (some 37)) (v := ?_) rfl rfl (by kernel_rfl) (by kernel_rfl) (by kernel_rfl) (fun _ _ _ h => h) (by rfl) ?_ (by assumption) ?_
  rotate_left
  · (intro w hSw; (try dsimp only at hSw); go_simp; try with_reducible rfl)
  (try simp only [Act.put, List.setIfInBounds_toArray, List.set_cons_zero, List.set_cons_succ])
  refine held_take (i := 7) (d := (some 38)) (v := ?_) rfl rfl (by kernel_rfl) (by kernel_rfl) (by kernel_rfl) (fun _ _ _ h => h) (by rfl) ?_ (by assumption) ?_
  rotate_left
  · (intro w hSw; (try dsimp only at hSw); go_simp; try with_reducible rfl)
  (try simp only [Act.put, List.setIfInBounds_toArray, List.set_cons_zero, List.set_cons_succ])
  refine held_take (i := 9) (d := (some 40)) (v := ?_) rfl rfl (by kernel_rfl) (by kernel_rfl) (by kernel_rfl) (fun _ _ _ h => h) (by rfl) ?_ (by assumption) ?_
  rotate_left
  · (intro w hSw; (try dsimp only at hSw); go_simp; try with_reducible rfl)
  (try simp only [Act.put, List.setIfInBounds_toArray, List.set_cons_zero, List.set_cons_succ])
  refine held_take (i := 11) (d := (some 42)) (v := ?_) rfl rfl (by kernel_rfl) (by kernel_rfl) (by kernel_rfl) (fun _ _ _ h => h) (by rfl) ?_ (by assumption) ?_
  rotate_left
  · (intro w hSw; (try dsimp only at hSw); go_simp; try with_reducible rfl)
  (try simp only [Act.put, List.setIfInBounds_toArray, List.set_cons_zero, List.set_cons_succ])
  refine wpAnyH_ready (rs := [8, 12]) (by kernel_rfl) (by simp) ?_
  refine AllReadyH.cons rfl (fun K hK => ?_) (AllReadyH.cons rfl (fun K hK => ?_) (AllReadyH.nil))
  · go_simp
    go_at_call 19; refine (lrest_any r5 s5 p5 o5 l5 A3 q3 _ (F.below hHeld.2.2.2.2.2.2.2.2.2.2.2.2.2.2.below) (hHeld.2.2.2.2.2.2.2.2.2.2.2.2.2.2.at _ HT_rA.out) hl5').mono ?_; rintro e w' ⟨rfl, hb⟩; rw [HOS.out]; try replace HLIT := Lib.hid (HLIT.out.below hb)
    refine hK.out _ _ (by exact keepL14 hb hHeld) (fun hHeld2 => ?_)
    clear hK K hHeld
    have hHeld := hHeld2
    clear hHeld2
    (try simp only [Act.put, List.setIfInBounds_toArray, List.set_cons_zero, List.set_cons_succ])
    refine wpAnyH_ready (rs := [10, 12]) (by kernel_rfl) (by simp) ?_
    refine AllReadyH.cons rfl (fun K hK => ?_) (AllReadyH.cons rfl (fun K hK => ?_) (AllReadyH.nil))
    · go_simp
      go_at_call 19; refine (lrest_any room sent pad off l A cap _ (F.below hHeld.2.2.2.2.2.2.2.2.2.2.2.2.2.2.below) (hHeld.2.2.2.2.2.2.2.2.2.2.2.2.2.2.at _ HT_rK.out) hl2).mono ?_; rintro e w' ⟨rfl, hb⟩; rw [← HRK.out]; try replace HLIT := Lib.hid (HLIT.out.below hb)
      refine hK.out _ _ (by exact keepL14 hb hHeld) (fun hHeld2 => ?_)
      clear hK K hHeld
      have hHeld := hHeld2
      clear hHeld2
      (try simp only [Act.put, List.setIfInBounds_toArray, List.set_cons_zero, List.set_cons_succ])
      refine wpAnyH_ready (rs := [12]) (by kernel_rfl) (by simp) ?_
      refine AllReadyH.cons rfl (fun K hK => ?_) AllReadyH.nil
      go_simp
      refine hK.out _ _ (by exact keepL14 ((Below.refl _ _).alloc (Nat.le_refl _) _) hHeld) (fun hHeld2 => ?_)
      clear hK K hHeld
      have hHeld := hHeld2
      clear hHeld2
      have HLIT := Lib.hid (lit_of_la hHeld.2.2.2.2.2.2.2.2.2.2.2.2.2.2)
      (try simp only [Act.put, List.setIfInBounds_toArray, List.set_cons_zero, List.set_cons_succ])
      refine wpAnyH_ready (rs := [13]) (by kernel_rfl) (by simp) ?_
      refine AllReadyH.cons rfl (fun K hK => ?_) AllReadyH.nil
      go_simp
      go_at_call 30; refine (rbytes_any _ [(k, a, b, r)] _ HLIT.out.rw (by simp)).mono ?_; rintro e w' ⟨rfl, hb⟩; rw [HBC.out]
      refine hK.out _ _ (by exact keepL14 hb hHeld) (fun hHeld2 => ?_)
      clear hK K hHeld
      have hHeld := hHeld2
      clear hHeld2
      (try simp only [Act.put, List.setIfInBounds_toArray, List.set_cons_zero, List.set_cons_succ])
      refine held_take (i := 14) (d := (some 45)) (v := ?_) rfl rfl (by kernel_rfl) (by kernel_rfl) (by kernel_rfl) (fun _ _ _ h => h) (by rfl) ?_ (by assumption) ?_
      rotate_left
      · (intro w hSw; (try dsimp only at hSw); go_simp; try with_reducible rfl)
      (try simp only [Act.put, List.setIfInBounds_toArray, List.set_cons_zero, List.set_cons_succ])
      refine held_take (i := 15) (d := (some 46)) (v := ?_) rfl rfl (by kernel_rfl) (by kernel_rfl) (by kernel_rfl) (fun _ _ _ h => h) (by rfl) ?_ (by assumption) ?_
      rotate_left
      · (intro w hSw; (try dsimp only at hSw); go_simp; try with_reducible rfl)
      (try simp only [Act.put, List.setIfInBounds_toArray, List.set_cons_zero, List.set_cons_succ])
      refine held_take (i := 16) (d := (some 47)) (v := ?_) rfl rfl (by kernel_rfl) (by kernel_rfl) (by kernel_rfl) (fun _ _ _ h => h) (by rfl) ?_ (by assumption) ?_
      rotate_left
      · (intro w hSw; (try dsimp only at hSw); go_simp; try with_reducible rfl)
      (try simp only [Act.put, List.setIfInBounds_toArray, List.set_cons_zero, List.set_cons_succ])
      refine held_take (i := 17) (d := (some 48)) (v := ?_) rfl rfl (by kernel_rfl) (by kernel_rfl) (by kernel_rfl) (fun _ _ _ h => h) (by rfl) ?_ (by assumption) ?_
      rotate_left
      · (intro w hSw; (try dsimp only at hSw); go_simp; try with_reducible rfl)
      (try simp only [Act.put, List.setIfInBounds_toArray, List.set_cons_zero, List.set_cons_succ])
      refine wpAnyH_done (by kernel_rfl) ?_ _
      replace V := Lib.hid hHeld.2.2.2.2.2.2.2.2.2.2.2.2.2.2
      replace V := Lib.hid (((La.fresh V.out.below (Nat.le_refl _)).add (fun w' => w'.heap[w.heap.size]? = some (.cells #[.int .i64 room, .slice A l.length cap, .int .i64 sent, .int .i64 pad, .bool off] 24 (0, 0))) (V.out.at _ HT_bK.out) (Stb.blk _ _)).add (fun w' => Rk w' (.slice A l.length cap) l) (V.out.at _ HT_rK.out) (Stb.rk _ _))
      clear hHeld HT_rK HT_bK HT_rA
      try clear xa xb xc xd xe xz za zb zc zd ze zz ua ub uc ud uz
      have gp := V.out.at 1 rfl
      obtain ⟨⟨pa, pb, pc, pd, pe⟩, -, pz⟩ := blk5 gp
      clear gp
      go_wp2_with fail
      clear pa pb pc pd pe pz
      have hrow := V.out.at 0 rfl
      refine (lsend_any room sent pad off g l A cap _ (F.below V.out.below) hrow hl2).mono ?_
      rintro e w11 ⟨ho, hb⟩
      rw [HSD.out] at ho
      dsimp only at ho
      obtain ⟨A11, q11, rfl, hk1⟩ := ho
      replace hk1 := hk1.below hb
      clear hrow
      replace V := Lib.hid (V.out.call hb)
      clear hb
      replace V := Lib.hid (V.out.row (hk1))
      clear hk1
      replace V := Lib.hid (V.out.box #[.int .i64 room, .slice A11 l1.length q11, .int .i64 s1, .int .i64 p1, .bool off] 24)
      have gp := V.out.at 3 rfl
      obtain ⟨⟨pa, pb, pc, pd, pe⟩, -, pz⟩ := blk5 gp
      clear gp
      go_wp2_with fail
      clear pa pb pc pd pe pz
      have hrow := V.out.at 2 rfl
      refine (ldrop_any room sent pad off l A cap _ (F.below V.out.below) hrow (by omega)).mono ?_
      rintro e w12 ⟨ho, hb⟩
      rw [← HLD.out, ← HLG.out] at ho
      obtain ⟨A12, q12, B12, u12, rfl, hk, hk2⟩ := ho
      clear hrow
      replace V := Lib.hid (V.out.call hb)
      clear hb
      replace V := Lib.hid (V.out.row (hk))
      replace V := Lib.hid (V.out.row (hk2))
      clear hk hk2
      replace V := Lib.hid (V.out.box #[.int .i64 room, .slice A12 ld.length q12, .int .i64 sent, .int .i64 pad, .bool off] 24)
      have gp := V.out.at 6 rfl
      obtain ⟨⟨pa, pb, pc, pd, pe⟩, -, pz⟩ := blk5 gp
      clear gp
      go_wp2_with fail
      clear pa pb pc pd pe pz
      refine (ltick_any room sent pad off l A cap _ (F.below V.out.below) (V.out.at 5 rfl) hl2).mono ?_
      rintro e w13 ⟨rfl, hb⟩
      rw [← HTP.out]
      replace V := Lib.hid (V.out.call hb)
      clear hb
      replace V := Lib.hid (V.out.box #[.int .i64 room, .slice A l.length cap, .int .i64 sent, .int .i64 tp, .bool off] 24)
      have gp := V.out.at 7 rfl
      obtain ⟨⟨pa, pb, pc, pd, pe⟩, -, pz⟩ := blk5 gp
      clear gp
      go_wp2_with fail
      clear pa pb pc pd pe pz
      refine (lhold_any room sent pad off q l A cap _ (F.below V.out.below) (V.out.at 6 rfl) hl2).mono ?_
      rintro e w14 ⟨rfl, hb⟩
      rw [HH3.out]
      replace V := Lib.hid (V.out.call hb)
      clear hb
      replace V := Lib.hid (V.out.box #[.int .i64 room, .slice A l.length cap, .int .i64 sent, .int .i64 pad, .bool q] 24)
      have gp := V.out.at 5 rfl
      obtain ⟨⟨xa, xb, xc, xd, xe⟩, -, xz⟩ := blk5 gp
      clear gp
      have gp := V.out.at 2 rfl
      obtain ⟨⟨ya, yb, yc, yd, ye⟩, -, yz⟩ := blk5 gp
      clear gp
      have gp := V.out.at 1 rfl
      obtain ⟨⟨ua, ub, uc, ud, ue⟩, -, uz⟩ := blk5 gp
      clear gp
      have gp := V.out.at 0 rfl
      obtain ⟨⟨va, vb, vc, vd, ve⟩, -, vz⟩ := blk5 gp
      clear gp
      have gp := V.out.at 8 rfl
      obtain ⟨⟨za, zb, zc, zd, ze⟩, -, zz⟩ := blk5 gp
      clear gp
      go_wp2
      obtain ⟨Ts, V, HT_rK, HT_rS, HT_rD⟩ : ∃ Ts, Hid (La w.heap.size w (w14.alloc (.cells #[.int .i64 room, .slice A l.length cap, .int .i64 sent, .int .i64 pad, .bool q] 24)) Ts) ∧ Hid (Ts[7]? = some (fun w' : World => Rk w' (.slice A l.length cap) l)) ∧ Hid (Ts[6]? = some (fun w' : World => Rk w' (.slice A11 l1.length q11) l1)) ∧ Hid (Ts[4]? = some (fun w' : World => Rk w' (.slice A12 ld.length q12) ld)) :=
        ⟨_, V, Lib.hid rfl, Lib.hid rfl, Lib.hid rfl⟩
      refine wp_region_held_drew (S := fun w' => w'.cell? ⟨w11.heap.size, 0, none⟩ = some (.int .i64 room) ∧ w'.cell? ⟨w11.heap.size, 1, none⟩ = some (.slice A11 l1.length q11) ∧ w'.cell? ⟨w11.heap.size, 2, none⟩ = some (.int .i64 s1) ∧ w'.cell? ⟨w11.heap.size, 3, none⟩ = some (.int .i64 p1) ∧ w'.cell? ⟨w11.heap.size, 4, none⟩ = some (.bool off) ∧ w'.cell? ⟨w12.heap.size, 0, none⟩ = some (.int .i64 room) ∧ w'.cell? ⟨w12.heap.size, 1, none⟩ = some (.slice A12 ld.length q12) ∧ w'.cell? ⟨w12.heap.size, 2, none⟩ = some (.int .i64 sent) ∧ w'.cell? ⟨w12.heap.size, 3, none⟩ = some (.int .i64 pad) ∧ w'.cell? ⟨w12.heap.size, 4, none⟩ = some (.bool off) ∧ w'.cell? ⟨w13.heap.size, 0, none⟩ = some (.int .i64 room) ∧ w'.cell? ⟨w13.heap.size, 1, none⟩ = some (.slice A l.length cap) ∧ w'.cell? ⟨w13.heap.size, 2, none⟩ = some (.int .i64 sent) ∧ w'.cell? ⟨w13.heap.size, 3, none⟩ = some (.int .i64 tp) ∧ w'.cell? ⟨w13.heap.size, 4, none⟩ = some (.bool off) ∧ w'.cell? ⟨w14.heap.size, 0, none⟩ = some (.int .i64 room) ∧ w'.cell? ⟨w14.heap.size, 1, none⟩ = some (.slice A l.length cap) ∧ w'.cell? ⟨w14.heap.size, 2, none⟩ = some (.int .i64 sent) ∧ w'.cell? ⟨w14.heap.size, 3, none⟩ = some (.int .i64 pad) ∧ w'.cell? ⟨w14.heap.size, 4, none⟩ = some (.bool q) ∧ w'.cell? ⟨w.heap.size, 0, none⟩ = some (.int .i64 room) ∧ w'.cell? ⟨w.heap.size, 1, none⟩ = some (.slice A l.length cap) ∧ w'.cell? ⟨w.heap.size, 2, none⟩ = some (.int .i64 sent) ∧ w'.cell? ⟨w.heap.size, 3, none⟩ = some (.int .i64 pad) ∧ w'.cell? ⟨w.heap.size, 4, none⟩ = some (.bool off) ∧ La w.heap.size w w' Ts) (by kernel_rfl) (by exact ⟨by go_keep, by go_keep, by go_keep, by go_keep, by go_keep, by go_keep, by go_keep, by go_keep, by go_keep, by go_keep, by go_keep, by go_keep, by go_keep, by go_keep, by go_keep, by go_keep, by go_keep, by go_keep, by go_keep, by go_keep, by go_keep, by go_keep, by go_keep, by go_keep, by go_keep, La.drew V.out⟩) (fun hHeld => ?_)
      refine wpAnyH_ready (rs := [0]) (by kernel_rfl) (by simp) ?_
      refine AllReadyH.cons rfl (fun K hK => ?_) AllReadyH.nil
      go_simp
      go_at_call 15; refine (linked_any _ (F.below hHeld.2.2.2.2.2.2.2.2.2.2.2.2.2.2.2.2.2.2.2.2.2.2.2.2.2.below)).mono ?_; rintro e w' ⟨rfl, hb⟩
      refine hK.out _ _ (by exact keepL25 hb hHeld) (fun hHeld2 => ?_)
      clear hK K hHeld
      have hHeld := hHeld2
      clear hHeld2
      (try simp only [Act.put, List.setIfInBounds_toArray, List.set_cons_zero, List.set_cons_succ])
      refine held_take (i := 1) (d := (some 66)) (v := ?_) rfl rfl (by kernel_rfl) (by kernel_rfl) (by kernel_rfl) (fun _ _ _ h => h) (by rfl) ?_ (by assumption) ?_
      rotate_left
      · (intro w hSw; (try dsimp only at hSw); go_simp; try with_reducible rfl)
      (try simp only [Act.put, List.setIfInBounds_toArray, List.set_cons_zero, List.set_cons_succ])
      refine held_take (i := 2) (d := (some 67)) (v := ?_) rfl rfl (by kernel_rfl) (by kernel_rfl) (by kernel_rfl) (fun _ _ _ h => h) (by rfl) ?_ (by assumption) ?_
      rotate_left
      · (intro w hSw; (try dsimp only at hSw); go_simp; try with_reducible rfl)
      (try simp only [Act.put, List.setIfInBounds_toArray, List.set_cons_zero, List.set_cons_succ])
      refine wpAnyH_ready (rs := [3]) (by kernel_rfl) (by simp) ?_
      refine AllReadyH.cons rfl (fun K hK => ?_) AllReadyH.nil
      go_simp
      go_at_call 17; refine (lis_any room s1 p1 off l1 A11 q11 _ (F.below hHeld.2.2.2.2.2.2.2.2.2.2.2.2.2.2.2.2.2.2.2.2.2.2.2.2.2.below) (hHeld.2.2.2.2.2.2.2.2.2.2.2.2.2.2.2.2.2.2.2.2.2.2.2.2.2.at _ HT_rS.out) hl1').mono ?_; rintro e w' ⟨rfl, hb⟩; rw [HS1.out]
      refine hK.out _ _ (by exact keepL25 hb hHeld) (fun hHeld2 => ?_)
      clear hK K hHeld
      have hHeld := hHeld2
      clear hHeld2
      (try simp only [Act.put, List.setIfInBounds_toArray, List.set_cons_zero, List.set_cons_succ])
      refine held_take (i := 4) (d := (some 69)) (v := ?_) rfl rfl (by kernel_rfl) (by kernel_rfl) (by kernel_rfl) (fun _ _ _ h => h) (by rfl) ?_ (by assumption) ?_
      rotate_left
      · (intro w hSw; (try dsimp only at hSw); go_simp; try with_reducible rfl)
      (try simp only [Act.put, List.setIfInBounds_toArray, List.set_cons_zero, List.set_cons_succ])
      refine held_take (i := 5) (d := (some 70)) (v := ?_) rfl rfl (by kernel_rfl) (by kernel_rfl) (by kernel_rfl) (fun _ _ _ h => h) (by rfl) ?_ (by assumption) ?_
      rotate_left
      · (intro w hSw; (try dsimp only at hSw); go_simp; try with_reducible rfl)
      (try simp only [Act.put, List.setIfInBounds_toArray, List.set_cons_zero, List.set_cons_succ])
      refine held_take (i := 6) (d := (some 71)) (v := ?_) rfl rfl (by kernel_rfl) (by kernel_rfl) (by kernel_rfl) (fun _ _ _ h => h) (by rfl) ?_ (by assumption) ?_
      rotate_left
      · (intro w hSw; (try dsimp only at hSw); go_simp; try with_reducible rfl)
      (try simp only [Act.put, List.setIfInBounds_toArray, List.set_cons_zero, List.set_cons_succ])
      refine wpAnyH_ready (rs := [7]) (by kernel_rfl) (by simp) ?_
      refine AllReadyH.cons rfl (fun K hK => ?_) AllReadyH.nil
      go_simp
      go_at_call 17; refine (lis_any room sent pad off ld A12 q12 _ (F.below hHeld.2.2.2.2.2.2.2.2.2.2.2.2.2.2.2.2.2.2.2.2.2.2.2.2.2.below) (hHeld.2.2.2.2.2.2.2.2.2.2.2.2.2.2.2.2.2.2.2.2.2.2.2.2.2.at _ HT_rD.out) hl2').mono ?_; rintro e w' ⟨rfl, hb⟩; rw [HD1.out]
      refine hK.out _ _ (by exact keepL25 hb hHeld) (fun hHeld2 => ?_)
      clear hK K hHeld
      have hHeld := hHeld2
      clear hHeld2
      (try simp only [Act.put, List.setIfInBounds_toArray, List.set_cons_zero, List.set_cons_succ])
      refine held_take (i := 8) (d := (some 73)) (v := ?_) rfl rfl (by kernel_rfl) (by kernel_rfl) (by kernel_rfl) (fun _ _ _ h => h) (by rfl) ?_ (by assumption) ?_
      rotate_left
      · (intro w hSw; (try dsimp only at hSw); go_simp; try with_reducible rfl)
      (try simp only [Act.put, List.setIfInBounds_toArray, List.set_cons_zero, List.set_cons_succ])
      refine held_take (i := 9) (d := (some 74)) (v := ?_) rfl rfl (by kernel_rfl) (by kernel_rfl) (by kernel_rfl) (fun _ _ _ h => h) (by rfl) ?_ (by assumption) ?_
      rotate_left
      · (intro w hSw; (try dsimp only at hSw); go_simp; try with_reducible rfl)
      (try simp only [Act.put, List.setIfInBounds_toArray, List.set_cons_zero, List.set_cons_succ])
      refine held_take (i := 10) (d := (some 75)) (v := ?_) rfl rfl (by kernel_rfl) (by kernel_rfl) (by kernel_rfl) (fun _ _ _ h => h) (by rfl) ?_ (by assumption) ?_
      rotate_left
      · (intro w hSw; (try dsimp only at hSw); go_simp; try with_reducible rfl)
      (try simp only [Act.put, List.setIfInBounds_toArray, List.set_cons_zero, List.set_cons_succ])
      refine wpAnyH_ready (rs := [11]) (by kernel_rfl) (by simp) ?_
      refine AllReadyH.cons rfl (fun K hK => ?_) AllReadyH.nil
      go_simp
      go_at_call 17; refine (lis_any room sent tp off l A cap _ (F.below hHeld.2.2.2.2.2.2.2.2.2.2.2.2.2.2.2.2.2.2.2.2.2.2.2.2.2.below) (hHeld.2.2.2.2.2.2.2.2.2.2.2.2.2.2.2.2.2.2.2.2.2.2.2.2.2.at _ HT_rK.out) hl2).mono ?_; rintro e w' ⟨rfl, hb⟩; rw [HK1.out]
      refine hK.out _ _ (by exact keepL25 hb hHeld) (fun hHeld2 => ?_)
      clear hK K hHeld
      have hHeld := hHeld2
      clear hHeld2
      (try simp only [Act.put, List.setIfInBounds_toArray, List.set_cons_zero, List.set_cons_succ])
      refine held_take (i := 12) (d := (some 77)) (v := ?_) rfl rfl (by kernel_rfl) (by kernel_rfl) (by kernel_rfl) (fun _ _ _ h => h) (by rfl) ?_ (by assumption) ?_
      rotate_left
      · (intro w hSw; (try dsimp only at hSw); go_simp; try with_reducible rfl)
      (try simp only [Act.put, List.setIfInBounds_toArray, List.set_cons_zero, List.set_cons_succ])
      refine held_take (i := 13) (d := (some 78)) (v := ?_) rfl rfl (by kernel_rfl) (by kernel_rfl) (by kernel_rfl) (fun _ _ _ h => h) (by rfl) ?_ (by assumption) ?_
      rotate_left
      · (intro w hSw; (try dsimp only at hSw); go_simp; try with_reducible rfl)
      (try simp only [Act.put, List.setIfInBounds_toArray, List.set_cons_zero, List.set_cons_succ])
      refine held_take (i := 14) (d := (some 79)) (v := ?_) rfl rfl (by kernel_rfl) (by kernel_rfl) (by kernel_rfl) (fun _ _ _ h => h) (by rfl) ?_ (by assumption) ?_
      rotate_left
      · (intro w hSw; (try dsimp only at hSw); go_simp; try with_reducible rfl)
      (try simp only [Act.put, List.setIfInBounds_toArray, List.set_cons_zero, List.set_cons_succ])
      refine wpAnyH_ready (rs := [15]) (by kernel_rfl) (by simp) ?_
      refine AllReadyH.cons rfl (fun K hK => ?_) AllReadyH.nil
      go_simp
      go_at_call 17; refine (lis_any room sent pad q l A cap _ (F.below hHeld.2.2.2.2.2.2.2.2.2.2.2.2.2.2.2.2.2.2.2.2.2.2.2.2.2.below) (hHeld.2.2.2.2.2.2.2.2.2.2.2.2.2.2.2.2.2.2.2.2.2.2.2.2.2.at _ HT_rK.out) hl2).mono ?_; rintro e w' ⟨rfl, hb⟩; rw [HH1.out]
      refine hK.out _ _ (by exact keepL25 hb hHeld) (fun hHeld2 => ?_)
      clear hK K hHeld
      have hHeld := hHeld2
      clear hHeld2
      (try simp only [Act.put, List.setIfInBounds_toArray, List.set_cons_zero, List.set_cons_succ])
      refine held_take (i := 16) (d := (some 81)) (v := ?_) rfl rfl (by kernel_rfl) (by kernel_rfl) (by kernel_rfl) (fun _ _ _ h => h) (by rfl) ?_ (by assumption) ?_
      rotate_left
      · (intro w hSw; (try dsimp only at hSw); go_simp; try with_reducible rfl)
      (try simp only [Act.put, List.setIfInBounds_toArray, List.set_cons_zero, List.set_cons_succ])
      refine held_take (i := 17) (d := (some 82)) (v := ?_) rfl rfl (by kernel_rfl) (by kernel_rfl) (by kernel_rfl) (fun _ _ _ h => h) (by rfl) ?_ (by assumption) ?_
      rotate_left
      · (intro w hSw; (try dsimp only at hSw); go_simp; try with_reducible rfl)
      (try simp only [Act.put, List.setIfInBounds_toArray, List.set_cons_zero, List.set_cons_succ])
      refine held_take (i := 18) (d := (some 83)) (v := ?_) rfl rfl (by kernel_rfl) (by kernel_rfl) (by kernel_rfl) (fun _ _ _ h => h) (by rfl) ?_ (by assumption) ?_
      rotate_left
      · (intro w hSw; (try dsimp only at hSw); go_simp; try with_reducible rfl)
      (try simp only [Act.put, List.setIfInBounds_toArray, List.set_cons_zero, List.set_cons_succ])
      refine held_take (i := 20) (d := (some 85)) (v := ?_) rfl rfl (by kernel_rfl) (by kernel_rfl) (by kernel_rfl) (fun _ _ _ h => h) (by rfl) ?_ (by assumption) ?_
      rotate_left
      · (intro w hSw; (try dsimp only at hSw); go_simp; try with_reducible rfl)
      (try simp only [Act.put, List.setIfInBounds_toArray, List.set_cons_zero, List.set_cons_succ])
      refine wpAnyH_ready (rs := [19]) (by kernel_rfl) (by simp) ?_
      refine AllReadyH.cons rfl (fun K hK => ?_) AllReadyH.nil
      go_simp
      go_at_call 19; refine (lrest_any room sent tp off l A cap _ (F.below hHeld.2.2.2.2.2.2.2.2.2.2.2.2.2.2.2.2.2.2.2.2.2.2.2.2.2.below) (hHeld.2.2.2.2.2.2.2.2.2.2.2.2.2.2.2.2.2.2.2.2.2.2.2.2.2.at _ HT_rK.out) hl2).mono ?_; rintro e w' ⟨rfl, hb⟩; rw [HK2.out]
      refine hK.out _ _ (by exact keepL25 hb hHeld) (fun hHeld2 => ?_)
      clear hK K hHeld
      have hHeld := hHeld2
      clear hHeld2
      (try simp only [Act.put, List.setIfInBounds_toArray, List.set_cons_zero, List.set_cons_succ])
      refine wpAnyH_ready (rs := [21]) (by kernel_rfl) (by simp) ?_
      refine AllReadyH.cons rfl (fun K hK => ?_) AllReadyH.nil
      go_simp
      go_at_call 19; refine (lrest_any room sent pad off l A cap _ (F.below hHeld.2.2.2.2.2.2.2.2.2.2.2.2.2.2.2.2.2.2.2.2.2.2.2.2.2.below) (hHeld.2.2.2.2.2.2.2.2.2.2.2.2.2.2.2.2.2.2.2.2.2.2.2.2.2.at _ HT_rK.out) hl2).mono ?_; rintro e w' ⟨rfl, hb⟩; rw [← HRK.out]
      refine hK.out _ _ (by exact keepL25 hb hHeld) (fun hHeld2 => ?_)
      clear hK K hHeld
      have hHeld := hHeld2
      clear hHeld2
      (try simp only [Act.put, List.setIfInBounds_toArray, List.set_cons_zero, List.set_cons_succ])
      refine held_take (i := 22) (d := (some 87)) (v := ?_) rfl rfl (by kernel_rfl) (by kernel_rfl) (by kernel_rfl) (fun _ _ _ h => h) (by rfl) ?_ (by assumption) ?_
      rotate_left
      · (intro w hSw; (try dsimp only at hSw); go_simp; try with_reducible rfl)
      (try simp only [Act.put, List.setIfInBounds_toArray, List.set_cons_zero, List.set_cons_succ])
      refine held_take (i := 23) (d := (some 88)) (v := ?_) rfl rfl (by kernel_rfl) (by kernel_rfl) (by kernel_rfl) (fun _ _ _ h => h) (by rfl) ?_ (by assumption) ?_
      rotate_left
      · (intro w hSw; (try dsimp only at hSw); go_simp; try with_reducible rfl)
      (try simp only [Act.put, List.setIfInBounds_toArray, List.set_cons_zero, List.set_cons_succ])
      refine held_take (i := 24) (d := (some 89)) (v := ?_) rfl rfl (by kernel_rfl) (by kernel_rfl) (by kernel_rfl) (fun _ _ _ h => h) (by rfl) ?_ (by assumption) ?_
      rotate_left
      · (intro w hSw; (try dsimp only at hSw); go_simp; try with_reducible rfl)
      (try simp only [Act.put, List.setIfInBounds_toArray, List.set_cons_zero, List.set_cons_succ])
      refine held_take (i := 25) (d := (some 90)) (v := ?_) rfl rfl (by kernel_rfl) (by kernel_rfl) (by kernel_rfl) (fun _ _ _ h => h) (by rfl) ?_ (by assumption) ?_
      rotate_left
      · (intro w hSw; (try dsimp only at hSw); go_simp; try with_reducible rfl)
      (try simp only [Act.put, List.setIfInBounds_toArray, List.set_cons_zero, List.set_cons_succ])
      refine held_take (i := 27) (d := (some 92)) (v := ?_) rfl rfl (by kernel_rfl) (by kernel_rfl) (by kernel_rfl) (fun _ _ _ h => h) (by rfl) ?_ (by assumption) ?_
      rotate_left
      · (intro w hSw; (try dsimp only at hSw); go_simp; try with_reducible rfl)
      (try simp only [Act.put, List.setIfInBounds_toArray, List.set_cons_zero, List.set_cons_succ])
      refine wpAnyH_ready (rs := [26]) (by kernel_rfl) (by simp) ?_
      refine AllReadyH.cons rfl (fun K hK => ?_) AllReadyH.nil
      go_simp
      go_at_call 19; refine (lrest_any room sent pad q l A cap _ (F.below hHeld.2.2.2.2.2.2.2.2.2.2.2.2.2.2.2.2.2.2.2.2.2.2.2.2.2.below) (hHeld.2.2.2.2.2.2.2.2.2.2.2.2.2.2.2.2.2.2.2.2.2.2.2.2.2.at _ HT_rK.out) hl2).mono ?_; rintro e w' ⟨rfl, hb⟩; rw [HH2.out]
      refine hK.out _ _ (by exact keepL25 hb hHeld) (fun hHeld2 => ?_)
      clear hK K hHeld
      have hHeld := hHeld2
      clear hHeld2
      (try simp only [Act.put, List.setIfInBounds_toArray, List.set_cons_zero, List.set_cons_succ])
      refine wpAnyH_ready (rs := [28]) (by kernel_rfl) (by simp) ?_
      refine AllReadyH.cons rfl (fun K hK => ?_) AllReadyH.nil
      go_simp
      go_at_call 19; refine (lrest_any room sent pad off l A cap _ (F.below hHeld.2.2.2.2.2.2.2.2.2.2.2.2.2.2.2.2.2.2.2.2.2.2.2.2.2.below) (hHeld.2.2.2.2.2.2.2.2.2.2.2.2.2.2.2.2.2.2.2.2.2.2.2.2.2.at _ HT_rK.out) hl2).mono ?_; rintro e w' ⟨rfl, hb⟩; rw [← HRK.out]
      refine hK.out _ _ (by exact keepL25 hb hHeld) (fun hHeld2 => ?_)
      clear hK K hHeld
      have hHeld := hHeld2
      clear hHeld2
      (try simp only [Act.put, List.setIfInBounds_toArray, List.set_cons_zero, List.set_cons_succ])
      refine held_take (i := 29) (d := (some 94)) (v := ?_) rfl rfl (by kernel_rfl) (by kernel_rfl) (by kernel_rfl) (fun _ _ _ h => h) (by rfl) ?_ (by assumption) ?_
      rotate_left
      · (intro w hSw; (try dsimp only at hSw); go_simp; try with_reducible rfl)
      (try simp only [Act.put, List.setIfInBounds_toArray, List.set_cons_zero, List.set_cons_succ])
      refine held_take (i := 30) (d := (some 95)) (v := ?_) rfl rfl (by kernel_rfl) (by kernel_rfl) (by kernel_rfl) (fun _ _ _ h => h) (by rfl) ?_ (by assumption) ?_
      rotate_left
      · (intro w hSw; (try dsimp only at hSw); go_simp; try with_reducible rfl)
      (try simp only [Act.put, List.setIfInBounds_toArray, List.set_cons_zero, List.set_cons_succ])
      refine held_take (i := 31) (d := (some 96)) (v := ?_) rfl rfl (by kernel_rfl) (by kernel_rfl) (by kernel_rfl) (fun _ _ _ h => h) (by rfl) ?_ (by assumption) ?_
      rotate_left
      · (intro w hSw; (try dsimp only at hSw); go_simp; try with_reducible rfl)
      (try simp only [Act.put, List.setIfInBounds_toArray, List.set_cons_zero, List.set_cons_succ])
      refine held_take (i := 32) (d := (some 97)) (v := ?_) rfl rfl (by kernel_rfl) (by kernel_rfl) (by kernel_rfl) (fun _ _ _ h => h) (by rfl) ?_ (by assumption) ?_
      rotate_left
      · (intro w hSw; (try dsimp only at hSw); go_simp; try with_reducible rfl)
      (try simp only [Act.put, List.setIfInBounds_toArray, List.set_cons_zero, List.set_cons_succ])
      refine held_take (i := 33) (d := (some 98)) (v := ?_) rfl rfl (by kernel_rfl) (by kernel_rfl) (by kernel_rfl) (fun _ _ _ h => h) (by rfl) ?_ (by assumption) ?_
      rotate_left
      · (intro w hSw; (try dsimp only at hSw); go_simp; try with_reducible rfl)
      (try simp only [Act.put, List.setIfInBounds_toArray, List.set_cons_zero, List.set_cons_succ])
      refine held_take (i := 34) (d := (some 99)) (v := ?_) rfl rfl (by kernel_rfl) (by kernel_rfl) (by kernel_rfl) (fun _ _ _ h => h) (by rfl) ?_ (by assumption) ?_
      rotate_left
      · (intro w hSw; (try dsimp only at hSw); go_simp; try with_reducible rfl)
      (try simp only [Act.put, List.setIfInBounds_toArray, List.set_cons_zero, List.set_cons_succ])
      refine held_take (i := 35) (d := (some 100)) (v := ?_) rfl rfl (by kernel_rfl) (by kernel_rfl) (by kernel_rfl) (fun _ _ _ h => h) (by rfl) ?_ (by assumption) ?_
      rotate_left
      · (intro w hSw; (try dsimp only at hSw); go_simp; try with_reducible rfl)
      (try simp only [Act.put, List.setIfInBounds_toArray, List.set_cons_zero, List.set_cons_succ])
      refine held_take (i := 36) (d := (some 101)) (v := ?_) rfl rfl (by kernel_rfl) (by kernel_rfl) (by kernel_rfl) (fun _ _ _ h => h) (by rfl) ?_ (by assumption) ?_
      rotate_left
      · (intro w hSw; (try dsimp only at hSw); go_simp; try with_reducible rfl)
      (try simp only [Act.put, List.setIfInBounds_toArray, List.set_cons_zero, List.set_cons_succ])
      refine held_take (i := 37) (d := (some 8)) (v := ?_) rfl rfl (by kernel_rfl) (by kernel_rfl) (by kernel_rfl) (fun _ _ _ h => h) (by rfl) ?_ (by assumption) ?_
      rotate_left
      · (intro w hSw; (try dsimp only at hSw); go_simp; try with_reducible rfl)
      (try simp only [Act.put, List.setIfInBounds_toArray, List.set_cons_zero, List.set_cons_succ])
      refine wpAnyH_done (by kernel_rfl) ?_ _
      go_wp2
      go_ret
      exact ⟨by simp, hHeld.2.2.2.2.2.2.2.2.2.2.2.2.2.2.2.2.2.2.2.2.2.2.2.2.2.below⟩
    · go_simp
      refine hK.out _ _ (by exact keepL14 ((Below.refl _ _).alloc (Nat.le_refl _) _) hHeld) (fun hHeld2 => ?_)
      clear hK K hHeld
      have hHeld := hHeld2
      clear hHeld2
      have HLIT := Lib.hid (lit_of_la hHeld.2.2.2.2.2.2.2.2.2.2.2.2.2.2)
      (try simp only [Act.put, List.setIfInBounds_toArray, List.set_cons_zero, List.set_cons_succ])
      refine wpAnyH_ready (rs := [10]) (by kernel_rfl) (by simp) ?_
      refine AllReadyH.cons rfl (fun K hK => ?_) AllReadyH.nil
      go_simp
      go_at_call 19; refine (lrest_any room sent pad off l A cap _ (F.below hHeld.2.2.2.2.2.2.2.2.2.2.2.2.2.2.below) (hHeld.2.2.2.2.2.2.2.2.2.2.2.2.2.2.at _ HT_rK.out) hl2).mono ?_; rintro e w' ⟨rfl, hb⟩; rw [← HRK.out]; try replace HLIT := Lib.hid (HLIT.out.below hb)
      refine hK.out _ _ (by exact keepL14 hb hHeld) (fun hHeld2 => ?_)
      clear hK K hHeld
      have hHeld := hHeld2
      clear hHeld2
      (try simp only [Act.put, List.setIfInBounds_toArray, List.set_cons_zero, List.set_cons_succ])
      refine wpAnyH_ready (rs := [13]) (by kernel_rfl) (by simp) ?_
      refine AllReadyH.cons rfl (fun K hK => ?_) AllReadyH.nil
      go_simp
      go_at_call 30; refine (rbytes_any _ [(k, a, b, r)] _ HLIT.out.rw (by simp)).mono ?_; rintro e w' ⟨rfl, hb⟩; rw [HBC.out]
      refine hK.out _ _ (by exact keepL14 hb hHeld) (fun hHeld2 => ?_)
      clear hK K hHeld
      have hHeld := hHeld2
      clear hHeld2
      (try simp only [Act.put, List.setIfInBounds_toArray, List.set_cons_zero, List.set_cons_succ])
      refine held_take (i := 14) (d := (some 45)) (v := ?_) rfl rfl (by kernel_rfl) (by kernel_rfl) (by kernel_rfl) (fun _ _ _ h => h) (by rfl) ?_ (by assumption) ?_
      rotate_left
      · (intro w hSw; (try dsimp only at hSw); go_simp; try with_reducible rfl)
      (try simp only [Act.put, List.setIfInBounds_toArray, List.set_cons_zero, List.set_cons_succ])
      refine held_take (i := 15) (d := (some 46)) (v := ?_) rfl rfl (by kernel_rfl) (by kernel_rfl) (by kernel_rfl) (fun _ _ _ h => h) (by rfl) ?_ (by assumption) ?_
      rotate_left
      · (intro w hSw; (try dsimp only at hSw); go_simp; try with_reducible rfl)
      (try simp only [Act.put, List.setIfInBounds_toArray, List.set_cons_zero, List.set_cons_succ])
      refine held_take (i := 16) (d := (some 47)) (v := ?_) rfl rfl (by kernel_rfl) (by kernel_rfl) (by kernel_rfl) (fun _ _ _ h => h) (by rfl) ?_ (by assumption) ?_
      rotate_left
      · (intro w hSw; (try dsimp only at hSw); go_simp; try with_reducible rfl)
      (try simp only [Act.put, List.setIfInBounds_toArray, List.set_cons_zero, List.set_cons_succ])
      refine held_take (i := 17) (d := (some 48)) (v := ?_) rfl rfl (by kernel_rfl) (by kernel_rfl) (by kernel_rfl) (fun _ _ _ h => h) (by rfl) ?_ (by assumption) ?_
      rotate_left
      · (intro w hSw; (try dsimp only at hSw); go_simp; try with_reducible rfl)
      (try simp only [Act.put, List.setIfInBounds_toArray, List.set_cons_zero, List.set_cons_succ])
      refine wpAnyH_done (by kernel_rfl) ?_ _
      replace V := Lib.hid hHeld.2.2.2.2.2.2.2.2.2.2.2.2.2.2
      replace V := Lib.hid (((La.fresh V.out.below (Nat.le_refl _)).add (fun w' => w'.heap[w.heap.size]? = some (.cells #[.int .i64 room, .slice A l.length cap, .int .i64 sent, .int .i64 pad, .bool off] 24 (0, 0))) (V.out.at _ HT_bK.out) (Stb.blk _ _)).add (fun w' => Rk w' (.slice A l.length cap) l) (V.out.at _ HT_rK.out) (Stb.rk _ _))
      clear hHeld HT_rK HT_bK HT_rA
      try clear xa xb xc xd xe xz za zb zc zd ze zz ua ub uc ud uz
      have gp := V.out.at 1 rfl
      obtain ⟨⟨pa, pb, pc, pd, pe⟩, -, pz⟩ := blk5 gp
      clear gp
      go_wp2_with fail
      clear pa pb pc pd pe pz
      have hrow := V.out.at 0 rfl
      refine (lsend_any room sent pad off g l A cap _ (F.below V.out.below) hrow hl2).mono ?_
      rintro e w11 ⟨ho, hb⟩
      rw [HSD.out] at ho
      dsimp only at ho
      obtain ⟨A11, q11, rfl, hk1⟩ := ho
      replace hk1 := hk1.below hb
      clear hrow
      replace V := Lib.hid (V.out.call hb)
      clear hb
      replace V := Lib.hid (V.out.row (hk1))
      clear hk1
      replace V := Lib.hid (V.out.box #[.int .i64 room, .slice A11 l1.length q11, .int .i64 s1, .int .i64 p1, .bool off] 24)
      have gp := V.out.at 3 rfl
      obtain ⟨⟨pa, pb, pc, pd, pe⟩, -, pz⟩ := blk5 gp
      clear gp
      go_wp2_with fail
      clear pa pb pc pd pe pz
      have hrow := V.out.at 2 rfl
      refine (ldrop_any room sent pad off l A cap _ (F.below V.out.below) hrow (by omega)).mono ?_
      rintro e w12 ⟨ho, hb⟩
      rw [← HLD.out, ← HLG.out] at ho
      obtain ⟨A12, q12, B12, u12, rfl, hk, hk2⟩ := ho
      clear hrow
      replace V := Lib.hid (V.out.call hb)
      clear hb
      replace V := Lib.hid (V.out.row (hk))
      replace V := Lib.hid (V.out.row (hk2))
      clear hk hk2
      replace V := Lib.hid (V.out.box #[.int .i64 room, .slice A12 ld.length q12, .int .i64 sent, .int .i64 pad, .bool off] 24)
      have gp := V.out.at 6 rfl
      obtain ⟨⟨pa, pb, pc, pd, pe⟩, -, pz⟩ := blk5 gp
      clear gp
      go_wp2_with fail
      clear pa pb pc pd pe pz
      refine (ltick_any room sent pad off l A cap _ (F.below V.out.below) (V.out.at 5 rfl) hl2).mono ?_
      rintro e w13 ⟨rfl, hb⟩
      rw [← HTP.out]
      replace V := Lib.hid (V.out.call hb)
      clear hb
      replace V := Lib.hid (V.out.box #[.int .i64 room, .slice A l.length cap, .int .i64 sent, .int .i64 tp, .bool off] 24)
      have gp := V.out.at 7 rfl
      obtain ⟨⟨pa, pb, pc, pd, pe⟩, -, pz⟩ := blk5 gp
      clear gp
      go_wp2_with fail
      clear pa pb pc pd pe pz
      refine (lhold_any room sent pad off q l A cap _ (F.below V.out.below) (V.out.at 6 rfl) hl2).mono ?_
      rintro e w14 ⟨rfl, hb⟩
      rw [HH3.out]
      replace V := Lib.hid (V.out.call hb)
      clear hb
      replace V := Lib.hid (V.out.box #[.int .i64 room, .slice A l.length cap, .int .i64 sent, .int .i64 pad, .bool q] 24)
      have gp := V.out.at 5 rfl
      obtain ⟨⟨xa, xb, xc, xd, xe⟩, -, xz⟩ := blk5 gp
      clear gp
      have gp := V.out.at 2 rfl
      obtain ⟨⟨ya, yb, yc, yd, ye⟩, -, yz⟩ := blk5 gp
      clear gp
      have gp := V.out.at 1 rfl
      obtain ⟨⟨ua, ub, uc, ud, ue⟩, -, uz⟩ := blk5 gp
      clear gp
      have gp := V.out.at 0 rfl
      obtain ⟨⟨va, vb, vc, vd, ve⟩, -, vz⟩ := blk5 gp
      clear gp
      have gp := V.out.at 8 rfl
      obtain ⟨⟨za, zb, zc, zd, ze⟩, -, zz⟩ := blk5 gp
      clear gp
      go_wp2
      obtain ⟨Ts, V, HT_rK, HT_rS, HT_rD⟩ : ∃ Ts, Hid (La w.heap.size w (w14.alloc (.cells #[.int .i64 room, .slice A l.length cap, .int .i64 sent, .int .i64 pad, .bool q] 24)) Ts) ∧ Hid (Ts[7]? = some (fun w' : World => Rk w' (.slice A l.length cap) l)) ∧ Hid (Ts[6]? = some (fun w' : World => Rk w' (.slice A11 l1.length q11) l1)) ∧ Hid (Ts[4]? = some (fun w' : World => Rk w' (.slice A12 ld.length q12) ld)) :=
        ⟨_, V, Lib.hid rfl, Lib.hid rfl, Lib.hid rfl⟩
      refine wp_region_held_drew (S := fun w' => w'.cell? ⟨w11.heap.size, 0, none⟩ = some (.int .i64 room) ∧ w'.cell? ⟨w11.heap.size, 1, none⟩ = some (.slice A11 l1.length q11) ∧ w'.cell? ⟨w11.heap.size, 2, none⟩ = some (.int .i64 s1) ∧ w'.cell? ⟨w11.heap.size, 3, none⟩ = some (.int .i64 p1) ∧ w'.cell? ⟨w11.heap.size, 4, none⟩ = some (.bool off) ∧ w'.cell? ⟨w12.heap.size, 0, none⟩ = some (.int .i64 room) ∧ w'.cell? ⟨w12.heap.size, 1, none⟩ = some (.slice A12 ld.length q12) ∧ w'.cell? ⟨w12.heap.size, 2, none⟩ = some (.int .i64 sent) ∧ w'.cell? ⟨w12.heap.size, 3, none⟩ = some (.int .i64 pad) ∧ w'.cell? ⟨w12.heap.size, 4, none⟩ = some (.bool off) ∧ w'.cell? ⟨w13.heap.size, 0, none⟩ = some (.int .i64 room) ∧ w'.cell? ⟨w13.heap.size, 1, none⟩ = some (.slice A l.length cap) ∧ w'.cell? ⟨w13.heap.size, 2, none⟩ = some (.int .i64 sent) ∧ w'.cell? ⟨w13.heap.size, 3, none⟩ = some (.int .i64 tp) ∧ w'.cell? ⟨w13.heap.size, 4, none⟩ = some (.bool off) ∧ w'.cell? ⟨w14.heap.size, 0, none⟩ = some (.int .i64 room) ∧ w'.cell? ⟨w14.heap.size, 1, none⟩ = some (.slice A l.length cap) ∧ w'.cell? ⟨w14.heap.size, 2, none⟩ = some (.int .i64 sent) ∧ w'.cell? ⟨w14.heap.size, 3, none⟩ = some (.int .i64 pad) ∧ w'.cell? ⟨w14.heap.size, 4, none⟩ = some (.bool q) ∧ w'.cell? ⟨w.heap.size, 0, none⟩ = some (.int .i64 room) ∧ w'.cell? ⟨w.heap.size, 1, none⟩ = some (.slice A l.length cap) ∧ w'.cell? ⟨w.heap.size, 2, none⟩ = some (.int .i64 sent) ∧ w'.cell? ⟨w.heap.size, 3, none⟩ = some (.int .i64 pad) ∧ w'.cell? ⟨w.heap.size, 4, none⟩ = some (.bool off) ∧ La w.heap.size w w' Ts) (by kernel_rfl) (by exact ⟨by go_keep, by go_keep, by go_keep, by go_keep, by go_keep, by go_keep, by go_keep, by go_keep, by go_keep, by go_keep, by go_keep, by go_keep, by go_keep, by go_keep, by go_keep, by go_keep, by go_keep, by go_keep, by go_keep, by go_keep, by go_keep, by go_keep, by go_keep, by go_keep, by go_keep, La.drew V.out⟩) (fun hHeld => ?_)
      refine wpAnyH_ready (rs := [0]) (by kernel_rfl) (by simp) ?_
      refine AllReadyH.cons rfl (fun K hK => ?_) AllReadyH.nil
      go_simp
      go_at_call 15; refine (linked_any _ (F.below hHeld.2.2.2.2.2.2.2.2.2.2.2.2.2.2.2.2.2.2.2.2.2.2.2.2.2.below)).mono ?_; rintro e w' ⟨rfl, hb⟩
      refine hK.out _ _ (by exact keepL25 hb hHeld) (fun hHeld2 => ?_)
      clear hK K hHeld
      have hHeld := hHeld2
      clear hHeld2
      (try simp only [Act.put, List.setIfInBounds_toArray, List.set_cons_zero, List.set_cons_succ])
      refine held_take (i := 1) (d := (some 66)) (v := ?_) rfl rfl (by kernel_rfl) (by kernel_rfl) (by kernel_rfl) (fun _ _ _ h => h) (by rfl) ?_ (by assumption) ?_
      rotate_left
      · (intro w hSw; (try dsimp only at hSw); go_simp; try with_reducible rfl)
      (try simp only [Act.put, List.setIfInBounds_toArray, List.set_cons_zero, List.set_cons_succ])
      refine held_take (i := 2) (d := (some 67)) (v := ?_) rfl rfl (by kernel_rfl) (by kernel_rfl) (by kernel_rfl) (fun _ _ _ h => h) (by rfl) ?_ (by assumption) ?_
      rotate_left
      · (intro w hSw; (try dsimp only at hSw); go_simp; try with_reducible rfl)
      (try simp only [Act.put, List.setIfInBounds_toArray, List.set_cons_zero, List.set_cons_succ])
      refine wpAnyH_ready (rs := [3]) (by kernel_rfl) (by simp) ?_
      refine AllReadyH.cons rfl (fun K hK => ?_) AllReadyH.nil
      go_simp
      go_at_call 17; refine (lis_any room s1 p1 off l1 A11 q11 _ (F.below hHeld.2.2.2.2.2.2.2.2.2.2.2.2.2.2.2.2.2.2.2.2.2.2.2.2.2.below) (hHeld.2.2.2.2.2.2.2.2.2.2.2.2.2.2.2.2.2.2.2.2.2.2.2.2.2.at _ HT_rS.out) hl1').mono ?_; rintro e w' ⟨rfl, hb⟩; rw [HS1.out]
      refine hK.out _ _ (by exact keepL25 hb hHeld) (fun hHeld2 => ?_)
      clear hK K hHeld
      have hHeld := hHeld2
      clear hHeld2
      (try simp only [Act.put, List.setIfInBounds_toArray, List.set_cons_zero, List.set_cons_succ])
      refine held_take (i := 4) (d := (some 69)) (v := ?_) rfl rfl (by kernel_rfl) (by kernel_rfl) (by kernel_rfl) (fun _ _ _ h => h) (by rfl) ?_ (by assumption) ?_
      rotate_left
      · (intro w hSw; (try dsimp only at hSw); go_simp; try with_reducible rfl)
      (try simp only [Act.put, List.setIfInBounds_toArray, List.set_cons_zero, List.set_cons_succ])
      refine held_take (i := 5) (d := (some 70)) (v := ?_) rfl rfl (by kernel_rfl) (by kernel_rfl) (by kernel_rfl) (fun _ _ _ h => h) (by rfl) ?_ (by assumption) ?_
      rotate_left
      · (intro w hSw; (try dsimp only at hSw); go_simp; try with_reducible rfl)
      (try simp only [Act.put, List.setIfInBounds_toArray, List.set_cons_zero, List.set_cons_succ])
      refine held_take (i := 6) (d := (some 71)) (v := ?_) rfl rfl (by kernel_rfl) (by kernel_rfl) (by kernel_rfl) (fun _ _ _ h => h) (by rfl) ?_ (by assumption) ?_
      rotate_left
      · (intro w hSw; (try dsimp only at hSw); go_simp; try with_reducible rfl)
      (try simp only [Act.put, List.setIfInBounds_toArray, List.set_cons_zero, List.set_cons_succ])
      refine wpAnyH_ready (rs := [7]) (by kernel_rfl) (by simp) ?_
      refine AllReadyH.cons rfl (fun K hK => ?_) AllReadyH.nil
      go_simp
      go_at_call 17; refine (lis_any room sent pad off ld A12 q12 _ (F.below hHeld.2.2.2.2.2.2.2.2.2.2.2.2.2.2.2.2.2.2.2.2.2.2.2.2.2.below) (hHeld.2.2.2.2.2.2.2.2.2.2.2.2.2.2.2.2.2.2.2.2.2.2.2.2.2.at _ HT_rD.out) hl2').mono ?_; rintro e w' ⟨rfl, hb⟩; rw [HD1.out]
      refine hK.out _ _ (by exact keepL25 hb hHeld) (fun hHeld2 => ?_)
      clear hK K hHeld
      have hHeld := hHeld2
      clear hHeld2
      (try simp only [Act.put, List.setIfInBounds_toArray, List.set_cons_zero, List.set_cons_succ])
      refine held_take (i := 8) (d := (some 73)) (v := ?_) rfl rfl (by kernel_rfl) (by kernel_rfl) (by kernel_rfl) (fun _ _ _ h => h) (by rfl) ?_ (by assumption) ?_
      rotate_left
      · (intro w hSw; (try dsimp only at hSw); go_simp; try with_reducible rfl)
      (try simp only [Act.put, List.setIfInBounds_toArray, List.set_cons_zero, List.set_cons_succ])
      refine held_take (i := 9) (d := (some 74)) (v := ?_) rfl rfl (by kernel_rfl) (by kernel_rfl) (by kernel_rfl) (fun _ _ _ h => h) (by rfl) ?_ (by assumption) ?_
      rotate_left
      · (intro w hSw; (try dsimp only at hSw); go_simp; try with_reducible rfl)
      (try simp only [Act.put, List.setIfInBounds_toArray, List.set_cons_zero, List.set_cons_succ])
      refine held_take (i := 10) (d := (some 75)) (v := ?_) rfl rfl (by kernel_rfl) (by kernel_rfl) (by kernel_rfl) (fun _ _ _ h => h) (by rfl) ?_ (by assumption) ?_
      rotate_left
      · (intro w hSw; (try dsimp only at hSw); go_simp; try with_reducible rfl)
      (try simp only [Act.put, List.setIfInBounds_toArray, List.set_cons_zero, List.set_cons_succ])
      refine wpAnyH_ready (rs := [11]) (by kernel_rfl) (by simp) ?_
      refine AllReadyH.cons rfl (fun K hK => ?_) AllReadyH.nil
      go_simp
      go_at_call 17; refine (lis_any room sent tp off l A cap _ (F.below hHeld.2.2.2.2.2.2.2.2.2.2.2.2.2.2.2.2.2.2.2.2.2.2.2.2.2.below) (hHeld.2.2.2.2.2.2.2.2.2.2.2.2.2.2.2.2.2.2.2.2.2.2.2.2.2.at _ HT_rK.out) hl2).mono ?_; rintro e w' ⟨rfl, hb⟩; rw [HK1.out]
      refine hK.out _ _ (by exact keepL25 hb hHeld) (fun hHeld2 => ?_)
      clear hK K hHeld
      have hHeld := hHeld2
      clear hHeld2
      (try simp only [Act.put, List.setIfInBounds_toArray, List.set_cons_zero, List.set_cons_succ])
      refine held_take (i := 12) (d := (some 77)) (v := ?_) rfl rfl (by kernel_rfl) (by kernel_rfl) (by kernel_rfl) (fun _ _ _ h => h) (by rfl) ?_ (by assumption) ?_
      rotate_left
      · (intro w hSw; (try dsimp only at hSw); go_simp; try with_reducible rfl)
      (try simp only [Act.put, List.setIfInBounds_toArray, List.set_cons_zero, List.set_cons_succ])
      refine held_take (i := 13) (d := (some 78)) (v := ?_) rfl rfl (by kernel_rfl) (by kernel_rfl) (by kernel_rfl) (fun _ _ _ h => h) (by rfl) ?_ (by assumption) ?_
      rotate_left
      · (intro w hSw; (try dsimp only at hSw); go_simp; try with_reducible rfl)
      (try simp only [Act.put, List.setIfInBounds_toArray, List.set_cons_zero, List.set_cons_succ])
      refine held_take (i := 14) (d := (some 79)) (v := ?_) rfl rfl (by kernel_rfl) (by kernel_rfl) (by kernel_rfl) (fun _ _ _ h => h) (by rfl) ?_ (by assumption) ?_
      rotate_left
      · (intro w hSw; (try dsimp only at hSw); go_simp; try with_reducible rfl)
      (try simp only [Act.put, List.setIfInBounds_toArray, List.set_cons_zero, List.set_cons_succ])
      refine wpAnyH_ready (rs := [15]) (by kernel_rfl) (by simp) ?_
      refine AllReadyH.cons rfl (fun K hK => ?_) AllReadyH.nil
      go_simp
      go_at_call 17; refine (lis_any room sent pad q l A cap _ (F.below hHeld.2.2.2.2.2.2.2.2.2.2.2.2.2.2.2.2.2.2.2.2.2.2.2.2.2.below) (hHeld.2.2.2.2.2.2.2.2.2.2.2.2.2.2.2.2.2.2.2.2.2.2.2.2.2.at _ HT_rK.out) hl2).mono ?_; rintro e w' ⟨rfl, hb⟩; rw [HH1.out]
      refine hK.out _ _ (by exact keepL25 hb hHeld) (fun hHeld2 => ?_)
      clear hK K hHeld
      have hHeld := hHeld2
      clear hHeld2
      (try simp only [Act.put, List.setIfInBounds_toArray, List.set_cons_zero, List.set_cons_succ])
      refine held_take (i := 16) (d := (some 81)) (v := ?_) rfl rfl (by kernel_rfl) (by kernel_rfl) (by kernel_rfl) (fun _ _ _ h => h) (by rfl) ?_ (by assumption) ?_
      rotate_left
      · (intro w hSw; (try dsimp only at hSw); go_simp; try with_reducible rfl)
      (try simp only [Act.put, List.setIfInBounds_toArray, List.set_cons_zero, List.set_cons_succ])
      refine held_take (i := 17) (d := (some 82)) (v := ?_) rfl rfl (by kernel_rfl) (by kernel_rfl) (by kernel_rfl) (fun _ _ _ h => h) (by rfl) ?_ (by assumption) ?_
      rotate_left
      · (intro w hSw; (try dsimp only at hSw); go_simp; try with_reducible rfl)
      (try simp only [Act.put, List.setIfInBounds_toArray, List.set_cons_zero, List.set_cons_succ])
      refine held_take (i := 18) (d := (some 83)) (v := ?_) rfl rfl (by kernel_rfl) (by kernel_rfl) (by kernel_rfl) (fun _ _ _ h => h) (by rfl) ?_ (by assumption) ?_
      rotate_left
      · (intro w hSw; (try dsimp only at hSw); go_simp; try with_reducible rfl)
      (try simp only [Act.put, List.setIfInBounds_toArray, List.set_cons_zero, List.set_cons_succ])
      refine held_take (i := 20) (d := (some 85)) (v := ?_) rfl rfl (by kernel_rfl) (by kernel_rfl) (by kernel_rfl) (fun _ _ _ h => h) (by rfl) ?_ (by assumption) ?_
      rotate_left
      · (intro w hSw; (try dsimp only at hSw); go_simp; try with_reducible rfl)
      (try simp only [Act.put, List.setIfInBounds_toArray, List.set_cons_zero, List.set_cons_succ])
      refine wpAnyH_ready (rs := [19]) (by kernel_rfl) (by simp) ?_
      refine AllReadyH.cons rfl (fun K hK => ?_) AllReadyH.nil
      go_simp
      go_at_call 19; refine (lrest_any room sent tp off l A cap _ (F.below hHeld.2.2.2.2.2.2.2.2.2.2.2.2.2.2.2.2.2.2.2.2.2.2.2.2.2.below) (hHeld.2.2.2.2.2.2.2.2.2.2.2.2.2.2.2.2.2.2.2.2.2.2.2.2.2.at _ HT_rK.out) hl2).mono ?_; rintro e w' ⟨rfl, hb⟩; rw [HK2.out]
      refine hK.out _ _ (by exact keepL25 hb hHeld) (fun hHeld2 => ?_)
      clear hK K hHeld
      have hHeld := hHeld2
      clear hHeld2
      (try simp only [Act.put, List.setIfInBounds_toArray, List.set_cons_zero, List.set_cons_succ])
      refine wpAnyH_ready (rs := [21]) (by kernel_rfl) (by simp) ?_
      refine AllReadyH.cons rfl (fun K hK => ?_) AllReadyH.nil
      go_simp
      go_at_call 19; refine (lrest_any room sent pad off l A cap _ (F.below hHeld.2.2.2.2.2.2.2.2.2.2.2.2.2.2.2.2.2.2.2.2.2.2.2.2.2.below) (hHeld.2.2.2.2.2.2.2.2.2.2.2.2.2.2.2.2.2.2.2.2.2.2.2.2.2.at _ HT_rK.out) hl2).mono ?_; rintro e w' ⟨rfl, hb⟩; rw [← HRK.out]
      refine hK.out _ _ (by exact keepL25 hb hHeld) (fun hHeld2 => ?_)
      clear hK K hHeld
      have hHeld := hHeld2
      clear hHeld2
      (try simp only [Act.put, List.setIfInBounds_toArray, List.set_cons_zero, List.set_cons_succ])
      refine held_take (i := 22) (d := (some 87)) (v := ?_) rfl rfl (by kernel_rfl) (by kernel_rfl) (by kernel_rfl) (fun _ _ _ h => h) (by rfl) ?_ (by assumption) ?_
      rotate_left
      · (intro w hSw; (try dsimp only at hSw); go_simp; try with_reducible rfl)
      (try simp only [Act.put, List.setIfInBounds_toArray, List.set_cons_zero, List.set_cons_succ])
      refine held_take (i := 23) (d := (some 88)) (v := ?_) rfl rfl (by kernel_rfl) (by kernel_rfl) (by kernel_rfl) (fun _ _ _ h => h) (by rfl) ?_ (by assumption) ?_
      rotate_left
      · (intro w hSw; (try dsimp only at hSw); go_simp; try with_reducible rfl)
      (try simp only [Act.put, List.setIfInBounds_toArray, List.set_cons_zero, List.set_cons_succ])
      refine held_take (i := 24) (d := (some 89)) (v := ?_) rfl rfl (by kernel_rfl) (by kernel_rfl) (by kernel_rfl) (fun _ _ _ h => h) (by rfl) ?_ (by assumption) ?_
      rotate_left
      · (intro w hSw; (try dsimp only at hSw); go_simp; try with_reducible rfl)
      (try simp only [Act.put, List.setIfInBounds_toArray, List.set_cons_zero, List.set_cons_succ])
      refine held_take (i := 25) (d := (some 90)) (v := ?_) rfl rfl (by kernel_rfl) (by kernel_rfl) (by kernel_rfl) (fun _ _ _ h => h) (by rfl) ?_ (by assumption) ?_
      rotate_left
      · (intro w hSw; (try dsimp only at hSw); go_simp; try with_reducible rfl)
      (try simp only [Act.put, List.setIfInBounds_toArray, List.set_cons_zero, List.set_cons_succ])
      refine held_take (i := 27) (d := (some 92)) (v := ?_) rfl rfl (by kernel_rfl) (by kernel_rfl) (by kernel_rfl) (fun _ _ _ h => h) (by rfl) ?_ (by assumption) ?_
      rotate_left
      · (intro w hSw; (try dsimp only at hSw); go_simp; try with_reducible rfl)
      (try simp only [Act.put, List.setIfInBounds_toArray, List.set_cons_zero, List.set_cons_succ])
      refine wpAnyH_ready (rs := [26]) (by kernel_rfl) (by simp) ?_
      refine AllReadyH.cons rfl (fun K hK => ?_) AllReadyH.nil
      go_simp
      go_at_call 19; refine (lrest_any room sent pad q l A cap _ (F.below hHeld.2.2.2.2.2.2.2.2.2.2.2.2.2.2.2.2.2.2.2.2.2.2.2.2.2.below) (hHeld.2.2.2.2.2.2.2.2.2.2.2.2.2.2.2.2.2.2.2.2.2.2.2.2.2.at _ HT_rK.out) hl2).mono ?_; rintro e w' ⟨rfl, hb⟩; rw [HH2.out]
      refine hK.out _ _ (by exact keepL25 hb hHeld) (fun hHeld2 => ?_)
      clear hK K hHeld
      have hHeld := hHeld2
      clear hHeld2
      (try simp only [Act.put, List.setIfInBounds_toArray, List.set_cons_zero, List.set_cons_succ])
      refine wpAnyH_ready (rs := [28]) (by kernel_rfl) (by simp) ?_
      refine AllReadyH.cons rfl (fun K hK => ?_) AllReadyH.nil
      go_simp
      go_at_call 19; refine (lrest_any room sent pad off l A cap _ (F.below hHeld.2.2.2.2.2.2.2.2.2.2.2.2.2.2.2.2.2.2.2.2.2.2.2.2.2.below) (hHeld.2.2.2.2.2.2.2.2.2.2.2.2.2.2.2.2.2.2.2.2.2.2.2.2.2.at _ HT_rK.out) hl2).mono ?_; rintro e w' ⟨rfl, hb⟩; rw [← HRK.out]
      refine hK.out _ _ (by exact keepL25 hb hHeld) (fun hHeld2 => ?_)
      clear hK K hHeld
      have hHeld := hHeld2
      clear hHeld2
      (try simp only [Act.put, List.setIfInBounds_toArray, List.set_cons_zero, List.set_cons_succ])
      refine held_take (i := 29) (d := (some 94)) (v := ?_) rfl rfl (by kernel_rfl) (by kernel_rfl) (by kernel_rfl) (fun _ _ _ h => h) (by rfl) ?_ (by assumption) ?_
      rotate_left
      · (intro w hSw; (try dsimp only at hSw); go_simp; try with_reducible rfl)
      (try simp only [Act.put, List.setIfInBounds_toArray, List.set_cons_zero, List.set_cons_succ])
      refine held_take (i := 30) (d := (some 95)) (v := ?_) rfl rfl (by kernel_rfl) (by kernel_rfl) (by kernel_rfl) (fun _ _ _ h => h) (by rfl) ?_ (by assumption) ?_
      rotate_left
      · (intro w hSw; (try dsimp only at hSw); go_simp; try with_reducible rfl)
      (try simp only [Act.put, List.setIfInBounds_toArray, List.set_cons_zero, List.set_cons_succ])
      refine held_take (i := 31) (d := (some 96)) (v := ?_) rfl rfl (by kernel_rfl) (by kernel_rfl) (by kernel_rfl) (fun _ _ _ h => h) (by rfl) ?_ (by assumption) ?_
      rotate_left
      · (intro w hSw; (try dsimp only at hSw); go_simp; try with_reducible rfl)
      (try simp only [Act.put, List.setIfInBounds_toArray, List.set_cons_zero, List.set_cons_succ])
      refine held_take (i := 32) (d := (some 97)) (v := ?_) rfl rfl (by kernel_rfl) (by kernel_rfl) (by kernel_rfl) (fun _ _ _ h => h) (by rfl) ?_ (by assumption) ?_
      rotate_left
      · (intro w hSw; (try dsimp only at hSw); go_simp; try with_reducible rfl)
      (try simp only [Act.put, List.setIfInBounds_toArray, List.set_cons_zero, List.set_cons_succ])
      refine held_take (i := 33) (d := (some 98)) (v := ?_) rfl rfl (by kernel_rfl) (by kernel_rfl) (by kernel_rfl) (fun _ _ _ h => h) (by rfl) ?_ (by assumption) ?_
      rotate_left
      · (intro w hSw; (try dsimp only at hSw); go_simp; try with_reducible rfl)
      (try simp only [Act.put, List.setIfInBounds_toArray, List.set_cons_zero, List.set_cons_succ])
      refine held_take (i := 34) (d := (some 99)) (v := ?_) rfl rfl (by kernel_rfl) (by kernel_rfl) (by kernel_rfl) (fun _ _ _ h => h) (by rfl) ?_ (by assumption) ?_
      rotate_left
      · (intro w hSw; (try dsimp only at hSw); go_simp; try with_reducible rfl)
      (try simp only [Act.put, List.setIfInBounds_toArray, List.set_cons_zero, List.set_cons_succ])
      refine held_take (i := 35) (d := (some 100)) (v := ?_) rfl rfl (by kernel_rfl) (by kernel_rfl) (by kernel_rfl) (fun _ _ _ h => h) (by rfl) ?_ (by assumption) ?_
      rotate_left
      · (intro w hSw; (try dsimp only at hSw); go_simp; try with_reducible rfl)
      (try simp only [Act.put, List.setIfInBounds_toArray, List.set_cons_zero, List.set_cons_succ])
      refine held_take (i := 36) (d := (some 101)) (v := ?_) rfl rfl (by kernel_rfl) (by kernel_rfl) (by kernel_rfl) (fun _ _ _ h => h) (by rfl) ?_ (by assumption) ?_
      rotate_left
      · (intro w hSw; (try dsimp only at hSw); go_simp; try with_reducible rfl)
      (try simp only [Act.put, List.setIfInBounds_toArray, List.set_cons_zero, List.set_cons_succ])
      refine held_take (i := 37) (d := (some 8)) (v := ?_) rfl rfl (by kernel_rfl) (by kernel_rfl) (by kernel_rfl) (fun _ _ _ h => h) (by rfl) ?_ (by assumption) ?_
      rotate_left
      · (intro w hSw; (try dsimp only at hSw); go_simp; try with_reducible rfl)
      (try simp only [Act.put, List.setIfInBounds_toArray, List.set_cons_zero, List.set_cons_succ])
      refine wpAnyH_done (by kernel_rfl) ?_ _
      go_wp2
      go_ret
      exact ⟨by simp, hHeld.2.2.2.2.2.2.2.2.2.2.2.2.2.2.2.2.2.2.2.2.2.2.2.2.2.below⟩
  · go_simp
    refine hK.out _ _ (by exact keepL14 ((Below.refl _ _).alloc (Nat.le_refl _) _) hHeld) (fun hHeld2 => ?_)
    clear hK K hHeld
    have hHeld := hHeld2
    clear hHeld2
    have HLIT := Lib.hid (lit_of_la hHeld.2.2.2.2.2.2.2.2.2.2.2.2.2.2)
    (try simp only [Act.put, List.setIfInBounds_toArray, List.set_cons_zero, List.set_cons_succ])
    refine wpAnyH_ready (rs := [8]) (by kernel_rfl) (by simp) ?_
    refine AllReadyH.cons rfl (fun K hK => ?_) AllReadyH.nil
    go_simp
    go_at_call 19; refine (lrest_any r5 s5 p5 o5 l5 A3 q3 _ (F.below hHeld.2.2.2.2.2.2.2.2.2.2.2.2.2.2.below) (hHeld.2.2.2.2.2.2.2.2.2.2.2.2.2.2.at _ HT_rA.out) hl5').mono ?_; rintro e w' ⟨rfl, hb⟩; rw [HOS.out]; try replace HLIT := Lib.hid (HLIT.out.below hb)
    refine hK.out _ _ (by exact keepL14 hb hHeld) (fun hHeld2 => ?_)
    clear hK K hHeld
    have hHeld := hHeld2
    clear hHeld2
    (try simp only [Act.put, List.setIfInBounds_toArray, List.set_cons_zero, List.set_cons_succ])
    refine wpAnyH_ready (rs := [10]) (by kernel_rfl) (by simp) ?_
    refine AllReadyH.cons rfl (fun K hK => ?_) AllReadyH.nil
    go_simp
    go_at_call 19; refine (lrest_any room sent pad off l A cap _ (F.below hHeld.2.2.2.2.2.2.2.2.2.2.2.2.2.2.below) (hHeld.2.2.2.2.2.2.2.2.2.2.2.2.2.2.at _ HT_rK.out) hl2).mono ?_; rintro e w' ⟨rfl, hb⟩; rw [← HRK.out]; try replace HLIT := Lib.hid (HLIT.out.below hb)
    refine hK.out _ _ (by exact keepL14 hb hHeld) (fun hHeld2 => ?_)
    clear hK K hHeld
    have hHeld := hHeld2
    clear hHeld2
    (try simp only [Act.put, List.setIfInBounds_toArray, List.set_cons_zero, List.set_cons_succ])
    refine wpAnyH_ready (rs := [13]) (by kernel_rfl) (by simp) ?_
    refine AllReadyH.cons rfl (fun K hK => ?_) AllReadyH.nil
    go_simp
    go_at_call 30; refine (rbytes_any _ [(k, a, b, r)] _ HLIT.out.rw (by simp)).mono ?_; rintro e w' ⟨rfl, hb⟩; rw [HBC.out]
    refine hK.out _ _ (by exact keepL14 hb hHeld) (fun hHeld2 => ?_)
    clear hK K hHeld
    have hHeld := hHeld2
    clear hHeld2
    (try simp only [Act.put, List.setIfInBounds_toArray, List.set_cons_zero, List.set_cons_succ])
    refine held_take (i := 14) (d := (some 45)) (v := ?_) rfl rfl (by kernel_rfl) (by kernel_rfl) (by kernel_rfl) (fun _ _ _ h => h) (by rfl) ?_ (by assumption) ?_
    rotate_left
    · (intro w hSw; (try dsimp only at hSw); go_simp; try with_reducible rfl)
    (try simp only [Act.put, List.setIfInBounds_toArray, List.set_cons_zero, List.set_cons_succ])
    refine held_take (i := 15) (d := (some 46)) (v := ?_) rfl rfl (by kernel_rfl) (by kernel_rfl) (by kernel_rfl) (fun _ _ _ h => h) (by rfl) ?_ (by assumption) ?_
    rotate_left
    · (intro w hSw; (try dsimp only at hSw); go_simp; try with_reducible rfl)
    (try simp only [Act.put, List.setIfInBounds_toArray, List.set_cons_zero, List.set_cons_succ])
    refine held_take (i := 16) (d := (some 47)) (v := ?_) rfl rfl (by kernel_rfl) (by kernel_rfl) (by kernel_rfl) (fun _ _ _ h => h) (by rfl) ?_ (by assumption) ?_
    rotate_left
    · (intro w hSw; (try dsimp only at hSw); go_simp; try with_reducible rfl)
    (try simp only [Act.put, List.setIfInBounds_toArray, List.set_cons_zero, List.set_cons_succ])
    refine held_take (i := 17) (d := (some 48)) (v := ?_) rfl rfl (by kernel_rfl) (by kernel_rfl) (by kernel_rfl) (fun _ _ _ h => h) (by rfl) ?_ (by assumption) ?_
    rotate_left
    · (intro w hSw; (try dsimp only at hSw); go_simp; try with_reducible rfl)
    (try simp only [Act.put, List.setIfInBounds_toArray, List.set_cons_zero, List.set_cons_succ])
    refine wpAnyH_done (by kernel_rfl) ?_ _
    replace V := Lib.hid hHeld.2.2.2.2.2.2.2.2.2.2.2.2.2.2
    replace V := Lib.hid (((La.fresh V.out.below (Nat.le_refl _)).add (fun w' => w'.heap[w.heap.size]? = some (.cells #[.int .i64 room, .slice A l.length cap, .int .i64 sent, .int .i64 pad, .bool off] 24 (0, 0))) (V.out.at _ HT_bK.out) (Stb.blk _ _)).add (fun w' => Rk w' (.slice A l.length cap) l) (V.out.at _ HT_rK.out) (Stb.rk _ _))
    clear hHeld HT_rK HT_bK HT_rA
    try clear xa xb xc xd xe xz za zb zc zd ze zz ua ub uc ud uz
    have gp := V.out.at 1 rfl
    obtain ⟨⟨pa, pb, pc, pd, pe⟩, -, pz⟩ := blk5 gp
    clear gp
    go_wp2_with fail
    clear pa pb pc pd pe pz
    have hrow := V.out.at 0 rfl
    refine (lsend_any room sent pad off g l A cap _ (F.below V.out.below) hrow hl2).mono ?_
    rintro e w11 ⟨ho, hb⟩
    rw [HSD.out] at ho
    dsimp only at ho
    obtain ⟨A11, q11, rfl, hk1⟩ := ho
    replace hk1 := hk1.below hb
    clear hrow
    replace V := Lib.hid (V.out.call hb)
    clear hb
    replace V := Lib.hid (V.out.row (hk1))
    clear hk1
    replace V := Lib.hid (V.out.box #[.int .i64 room, .slice A11 l1.length q11, .int .i64 s1, .int .i64 p1, .bool off] 24)
    have gp := V.out.at 3 rfl
    obtain ⟨⟨pa, pb, pc, pd, pe⟩, -, pz⟩ := blk5 gp
    clear gp
    go_wp2_with fail
    clear pa pb pc pd pe pz
    have hrow := V.out.at 2 rfl
    refine (ldrop_any room sent pad off l A cap _ (F.below V.out.below) hrow (by omega)).mono ?_
    rintro e w12 ⟨ho, hb⟩
    rw [← HLD.out, ← HLG.out] at ho
    obtain ⟨A12, q12, B12, u12, rfl, hk, hk2⟩ := ho
    clear hrow
    replace V := Lib.hid (V.out.call hb)
    clear hb
    replace V := Lib.hid (V.out.row (hk))
    replace V := Lib.hid (V.out.row (hk2))
    clear hk hk2
    replace V := Lib.hid (V.out.box #[.int .i64 room, .slice A12 ld.length q12, .int .i64 sent, .int .i64 pad, .bool off] 24)
    have gp := V.out.at 6 rfl
    obtain ⟨⟨pa, pb, pc, pd, pe⟩, -, pz⟩ := blk5 gp
    clear gp
    go_wp2_with fail
    clear pa pb pc pd pe pz
    refine (ltick_any room sent pad off l A cap _ (F.below V.out.below) (V.out.at 5 rfl) hl2).mono ?_
    rintro e w13 ⟨rfl, hb⟩
    rw [← HTP.out]
    replace V := Lib.hid (V.out.call hb)
    clear hb
    replace V := Lib.hid (V.out.box #[.int .i64 room, .slice A l.length cap, .int .i64 sent, .int .i64 tp, .bool off] 24)
    have gp := V.out.at 7 rfl
    obtain ⟨⟨pa, pb, pc, pd, pe⟩, -, pz⟩ := blk5 gp
    clear gp
    go_wp2_with fail
    clear pa pb pc pd pe pz
    refine (lhold_any room sent pad off q l A cap _ (F.below V.out.below) (V.out.at 6 rfl) hl2).mono ?_
    rintro e w14 ⟨rfl, hb⟩
    rw [HH3.out]
    replace V := Lib.hid (V.out.call hb)
    clear hb
    replace V := Lib.hid (V.out.box #[.int .i64 room, .slice A l.length cap, .int .i64 sent, .int .i64 pad, .bool q] 24)
    have gp := V.out.at 5 rfl
    obtain ⟨⟨xa, xb, xc, xd, xe⟩, -, xz⟩ := blk5 gp
    clear gp
    have gp := V.out.at 2 rfl
    obtain ⟨⟨ya, yb, yc, yd, ye⟩, -, yz⟩ := blk5 gp
    clear gp
    have gp := V.out.at 1 rfl
    obtain ⟨⟨ua, ub, uc, ud, ue⟩, -, uz⟩ := blk5 gp
    clear gp
    have gp := V.out.at 0 rfl
    obtain ⟨⟨va, vb, vc, vd, ve⟩, -, vz⟩ := blk5 gp
    clear gp
    have gp := V.out.at 8 rfl
    obtain ⟨⟨za, zb, zc, zd, ze⟩, -, zz⟩ := blk5 gp
    clear gp
    go_wp2
    obtain ⟨Ts, V, HT_rK, HT_rS, HT_rD⟩ : ∃ Ts, Hid (La w.heap.size w (w14.alloc (.cells #[.int .i64 room, .slice A l.length cap, .int .i64 sent, .int .i64 pad, .bool q] 24)) Ts) ∧ Hid (Ts[7]? = some (fun w' : World => Rk w' (.slice A l.length cap) l)) ∧ Hid (Ts[6]? = some (fun w' : World => Rk w' (.slice A11 l1.length q11) l1)) ∧ Hid (Ts[4]? = some (fun w' : World => Rk w' (.slice A12 ld.length q12) ld)) :=
      ⟨_, V, Lib.hid rfl, Lib.hid rfl, Lib.hid rfl⟩
    refine wp_region_held_drew (S := fun w' => w'.cell? ⟨w11.heap.size, 0, none⟩ = some (.int .i64 room) ∧ w'.cell? ⟨w11.heap.size, 1, none⟩ = some (.slice A11 l1.length q11) ∧ w'.cell? ⟨w11.heap.size, 2, none⟩ = some (.int .i64 s1) ∧ w'.cell? ⟨w11.heap.size, 3, none⟩ = some (.int .i64 p1) ∧ w'.cell? ⟨w11.heap.size, 4, none⟩ = some (.bool off) ∧ w'.cell? ⟨w12.heap.size, 0, none⟩ = some (.int .i64 room) ∧ w'.cell? ⟨w12.heap.size, 1, none⟩ = some (.slice A12 ld.length q12) ∧ w'.cell? ⟨w12.heap.size, 2, none⟩ = some (.int .i64 sent) ∧ w'.cell? ⟨w12.heap.size, 3, none⟩ = some (.int .i64 pad) ∧ w'.cell? ⟨w12.heap.size, 4, none⟩ = some (.bool off) ∧ w'.cell? ⟨w13.heap.size, 0, none⟩ = some (.int .i64 room) ∧ w'.cell? ⟨w13.heap.size, 1, none⟩ = some (.slice A l.length cap) ∧ w'.cell? ⟨w13.heap.size, 2, none⟩ = some (.int .i64 sent) ∧ w'.cell? ⟨w13.heap.size, 3, none⟩ = some (.int .i64 tp) ∧ w'.cell? ⟨w13.heap.size, 4, none⟩ = some (.bool off) ∧ w'.cell? ⟨w14.heap.size, 0, none⟩ = some (.int .i64 room) ∧ w'.cell? ⟨w14.heap.size, 1, none⟩ = some (.slice A l.length cap) ∧ w'.cell? ⟨w14.heap.size, 2, none⟩ = some (.int .i64 sent) ∧ w'.cell? ⟨w14.heap.size, 3, none⟩ = some (.int .i64 pad) ∧ w'.cell? ⟨w14.heap.size, 4, none⟩ = some (.bool q) ∧ w'.cell? ⟨w.heap.size, 0, none⟩ = some (.int .i64 room) ∧ w'.cell? ⟨w.heap.size, 1, none⟩ = some (.slice A l.length cap) ∧ w'.cell? ⟨w.heap.size, 2, none⟩ = some (.int .i64 sent) ∧ w'.cell? ⟨w.heap.size, 3, none⟩ = some (.int .i64 pad) ∧ w'.cell? ⟨w.heap.size, 4, none⟩ = some (.bool off) ∧ La w.heap.size w w' Ts) (by kernel_rfl) (by exact ⟨by go_keep, by go_keep, by go_keep, by go_keep, by go_keep, by go_keep, by go_keep, by go_keep, by go_keep, by go_keep, by go_keep, by go_keep, by go_keep, by go_keep, by go_keep, by go_keep, by go_keep, by go_keep, by go_keep, by go_keep, by go_keep, by go_keep, by go_keep, by go_keep, by go_keep, La.drew V.out⟩) (fun hHeld => ?_)
    refine wpAnyH_ready (rs := [0]) (by kernel_rfl) (by simp) ?_
    refine AllReadyH.cons rfl (fun K hK => ?_) AllReadyH.nil
    go_simp
    go_at_call 15; refine (linked_any _ (F.below hHeld.2.2.2.2.2.2.2.2.2.2.2.2.2.2.2.2.2.2.2.2.2.2.2.2.2.below)).mono ?_; rintro e w' ⟨rfl, hb⟩
    refine hK.out _ _ (by exact keepL25 hb hHeld) (fun hHeld2 => ?_)
    clear hK K hHeld
    have hHeld := hHeld2
    clear hHeld2
    (try simp only [Act.put, List.setIfInBounds_toArray, List.set_cons_zero, List.set_cons_succ])
    refine held_take (i := 1) (d := (some 66)) (v := ?_) rfl rfl (by kernel_rfl) (by kernel_rfl) (by kernel_rfl) (fun _ _ _ h => h) (by rfl) ?_ (by assumption) ?_
    rotate_left
    · (intro w hSw; (try dsimp only at hSw); go_simp; try with_reducible rfl)
    (try simp only [Act.put, List.setIfInBounds_toArray, List.set_cons_zero, List.set_cons_succ])
    refine held_take (i := 2) (d := (some 67)) (v := ?_) rfl rfl (by kernel_rfl) (by kernel_rfl) (by kernel_rfl) (fun _ _ _ h => h) (by rfl) ?_ (by assumption) ?_
    rotate_left
    · (intro w hSw; (try dsimp only at hSw); go_simp; try with_reducible rfl)
    (try simp only [Act.put, List.setIfInBounds_toArray, List.set_cons_zero, List.set_cons_succ])
    refine wpAnyH_ready (rs := [3]) (by kernel_rfl) (by simp) ?_
    refine AllReadyH.cons rfl (fun K hK => ?_) AllReadyH.nil
    go_simp
    go_at_call 17; refine (lis_any room s1 p1 off l1 A11 q11 _ (F.below hHeld.2.2.2.2.2.2.2.2.2.2.2.2.2.2.2.2.2.2.2.2.2.2.2.2.2.below) (hHeld.2.2.2.2.2.2.2.2.2.2.2.2.2.2.2.2.2.2.2.2.2.2.2.2.2.at _ HT_rS.out) hl1').mono ?_; rintro e w' ⟨rfl, hb⟩; rw [HS1.out]
    refine hK.out _ _ (by exact keepL25 hb hHeld) (fun hHeld2 => ?_)
    clear hK K hHeld
    have hHeld := hHeld2
    clear hHeld2
    (try simp only [Act.put, List.setIfInBounds_toArray, List.set_cons_zero, List.set_cons_succ])
    refine held_take (i := 4) (d := (some 69)) (v := ?_) rfl rfl (by kernel_rfl) (by kernel_rfl) (by kernel_rfl) (fun _ _ _ h => h) (by rfl) ?_ (by assumption) ?_
    rotate_left
    · (intro w hSw; (try dsimp only at hSw); go_simp; try with_reducible rfl)
    (try simp only [Act.put, List.setIfInBounds_toArray, List.set_cons_zero, List.set_cons_succ])
    refine held_take (i := 5) (d := (some 70)) (v := ?_) rfl rfl (by kernel_rfl) (by kernel_rfl) (by kernel_rfl) (fun _ _ _ h => h) (by rfl) ?_ (by assumption) ?_
    rotate_left
    · (intro w hSw; (try dsimp only at hSw); go_simp; try with_reducible rfl)
    (try simp only [Act.put, List.setIfInBounds_toArray, List.set_cons_zero, List.set_cons_succ])
    refine held_take (i := 6) (d := (some 71)) (v := ?_) rfl rfl (by kernel_rfl) (by kernel_rfl) (by kernel_rfl) (fun _ _ _ h => h) (by rfl) ?_ (by assumption) ?_
    rotate_left
    · (intro w hSw; (try dsimp only at hSw); go_simp; try with_reducible rfl)
    (try simp only [Act.put, List.setIfInBounds_toArray, List.set_cons_zero, List.set_cons_succ])
    refine wpAnyH_ready (rs := [7]) (by kernel_rfl) (by simp) ?_
    refine AllReadyH.cons rfl (fun K hK => ?_) AllReadyH.nil
    go_simp
    go_at_call 17; refine (lis_any room sent pad off ld A12 q12 _ (F.below hHeld.2.2.2.2.2.2.2.2.2.2.2.2.2.2.2.2.2.2.2.2.2.2.2.2.2.below) (hHeld.2.2.2.2.2.2.2.2.2.2.2.2.2.2.2.2.2.2.2.2.2.2.2.2.2.at _ HT_rD.out) hl2').mono ?_; rintro e w' ⟨rfl, hb⟩; rw [HD1.out]
    refine hK.out _ _ (by exact keepL25 hb hHeld) (fun hHeld2 => ?_)
    clear hK K hHeld
    have hHeld := hHeld2
    clear hHeld2
    (try simp only [Act.put, List.setIfInBounds_toArray, List.set_cons_zero, List.set_cons_succ])
    refine held_take (i := 8) (d := (some 73)) (v := ?_) rfl rfl (by kernel_rfl) (by kernel_rfl) (by kernel_rfl) (fun _ _ _ h => h) (by rfl) ?_ (by assumption) ?_
    rotate_left
    · (intro w hSw; (try dsimp only at hSw); go_simp; try with_reducible rfl)
    (try simp only [Act.put, List.setIfInBounds_toArray, List.set_cons_zero, List.set_cons_succ])
    refine held_take (i := 9) (d := (some 74)) (v := ?_) rfl rfl (by kernel_rfl) (by kernel_rfl) (by kernel_rfl) (fun _ _ _ h => h) (by rfl) ?_ (by assumption) ?_
    rotate_left
    · (intro w hSw; (try dsimp only at hSw); go_simp; try with_reducible rfl)
    (try simp only [Act.put, List.setIfInBounds_toArray, List.set_cons_zero, List.set_cons_succ])
    refine held_take (i := 10) (d := (some 75)) (v := ?_) rfl rfl (by kernel_rfl) (by kernel_rfl) (by kernel_rfl) (fun _ _ _ h => h) (by rfl) ?_ (by assumption) ?_
    rotate_left
    · (intro w hSw; (try dsimp only at hSw); go_simp; try with_reducible rfl)
    (try simp only [Act.put, List.setIfInBounds_toArray, List.set_cons_zero, List.set_cons_succ])
    refine wpAnyH_ready (rs := [11]) (by kernel_rfl) (by simp) ?_
    refine AllReadyH.cons rfl (fun K hK => ?_) AllReadyH.nil
    go_simp
    go_at_call 17; refine (lis_any room sent tp off l A cap _ (F.below hHeld.2.2.2.2.2.2.2.2.2.2.2.2.2.2.2.2.2.2.2.2.2.2.2.2.2.below) (hHeld.2.2.2.2.2.2.2.2.2.2.2.2.2.2.2.2.2.2.2.2.2.2.2.2.2.at _ HT_rK.out) hl2).mono ?_; rintro e w' ⟨rfl, hb⟩; rw [HK1.out]
    refine hK.out _ _ (by exact keepL25 hb hHeld) (fun hHeld2 => ?_)
    clear hK K hHeld
    have hHeld := hHeld2
    clear hHeld2
    (try simp only [Act.put, List.setIfInBounds_toArray, List.set_cons_zero, List.set_cons_succ])
    refine held_take (i := 12) (d := (some 77)) (v := ?_) rfl rfl (by kernel_rfl) (by kernel_rfl) (by kernel_rfl) (fun _ _ _ h => h) (by rfl) ?_ (by assumption) ?_
    rotate_left
    · (intro w hSw; (try dsimp only at hSw); go_simp; try with_reducible rfl)
    (try simp only [Act.put, List.setIfInBounds_toArray, List.set_cons_zero, List.set_cons_succ])
    refine held_take (i := 13) (d := (some 78)) (v := ?_) rfl rfl (by kernel_rfl) (by kernel_rfl) (by kernel_rfl) (fun _ _ _ h => h) (by rfl) ?_ (by assumption) ?_
    rotate_left
    · (intro w hSw; (try dsimp only at hSw); go_simp; try with_reducible rfl)
    (try simp only [Act.put, List.setIfInBounds_toArray, List.set_cons_zero, List.set_cons_succ])
    refine held_take (i := 14) (d := (some 79)) (v := ?_) rfl rfl (by kernel_rfl) (by kernel_rfl) (by kernel_rfl) (fun _ _ _ h => h) (by rfl) ?_ (by assumption) ?_
    rotate_left
    · (intro w hSw; (try dsimp only at hSw); go_simp; try with_reducible rfl)
    (try simp only [Act.put, List.setIfInBounds_toArray, List.set_cons_zero, List.set_cons_succ])
    refine wpAnyH_ready (rs := [15]) (by kernel_rfl) (by simp) ?_
    refine AllReadyH.cons rfl (fun K hK => ?_) AllReadyH.nil
    go_simp
    go_at_call 17; refine (lis_any room sent pad q l A cap _ (F.below hHeld.2.2.2.2.2.2.2.2.2.2.2.2.2.2.2.2.2.2.2.2.2.2.2.2.2.below) (hHeld.2.2.2.2.2.2.2.2.2.2.2.2.2.2.2.2.2.2.2.2.2.2.2.2.2.at _ HT_rK.out) hl2).mono ?_; rintro e w' ⟨rfl, hb⟩; rw [HH1.out]
    refine hK.out _ _ (by exact keepL25 hb hHeld) (fun hHeld2 => ?_)
    clear hK K hHeld
    have hHeld := hHeld2
    clear hHeld2
    (try simp only [Act.put, List.setIfInBounds_toArray, List.set_cons_zero, List.set_cons_succ])
    refine held_take (i := 16) (d := (some 81)) (v := ?_) rfl rfl (by kernel_rfl) (by kernel_rfl) (by kernel_rfl) (fun _ _ _ h => h) (by rfl) ?_ (by assumption) ?_
    rotate_left
    · (intro w hSw; (try dsimp only at hSw); go_simp; try with_reducible rfl)
    (try simp only [Act.put, List.setIfInBounds_toArray, List.set_cons_zero, List.set_cons_succ])
    refine held_take (i := 17) (d := (some 82)) (v := ?_) rfl rfl (by kernel_rfl) (by kernel_rfl) (by kernel_rfl) (fun _ _ _ h => h) (by rfl) ?_ (by assumption) ?_
    rotate_left
    · (intro w hSw; (try dsimp only at hSw); go_simp; try with_reducible rfl)
    (try simp only [Act.put, List.setIfInBounds_toArray, List.set_cons_zero, List.set_cons_succ])
    refine held_take (i := 18) (d := (some 83)) (v := ?_) rfl rfl (by kernel_rfl) (by kernel_rfl) (by kernel_rfl) (fun _ _ _ h => h) (by rfl) ?_ (by assumption) ?_
    rotate_left
    · (intro w hSw; (try dsimp only at hSw); go_simp; try with_reducible rfl)
    (try simp only [Act.put, List.setIfInBounds_toArray, List.set_cons_zero, List.set_cons_succ])
    refine held_take (i := 20) (d := (some 85)) (v := ?_) rfl rfl (by kernel_rfl) (by kernel_rfl) (by kernel_rfl) (fun _ _ _ h => h) (by rfl) ?_ (by assumption) ?_
    rotate_left
    · (intro w hSw; (try dsimp only at hSw); go_simp; try with_reducible rfl)
    (try simp only [Act.put, List.setIfInBounds_toArray, List.set_cons_zero, List.set_cons_succ])
    refine wpAnyH_ready (rs := [19]) (by kernel_rfl) (by simp) ?_
    refine AllReadyH.cons rfl (fun K hK => ?_) AllReadyH.nil
    go_simp
    go_at_call 19; refine (lrest_any room sent tp off l A cap _ (F.below hHeld.2.2.2.2.2.2.2.2.2.2.2.2.2.2.2.2.2.2.2.2.2.2.2.2.2.below) (hHeld.2.2.2.2.2.2.2.2.2.2.2.2.2.2.2.2.2.2.2.2.2.2.2.2.2.at _ HT_rK.out) hl2).mono ?_; rintro e w' ⟨rfl, hb⟩; rw [HK2.out]
    refine hK.out _ _ (by exact keepL25 hb hHeld) (fun hHeld2 => ?_)
    clear hK K hHeld
    have hHeld := hHeld2
    clear hHeld2
    (try simp only [Act.put, List.setIfInBounds_toArray, List.set_cons_zero, List.set_cons_succ])
    refine wpAnyH_ready (rs := [21]) (by kernel_rfl) (by simp) ?_
    refine AllReadyH.cons rfl (fun K hK => ?_) AllReadyH.nil
    go_simp
    go_at_call 19; refine (lrest_any room sent pad off l A cap _ (F.below hHeld.2.2.2.2.2.2.2.2.2.2.2.2.2.2.2.2.2.2.2.2.2.2.2.2.2.below) (hHeld.2.2.2.2.2.2.2.2.2.2.2.2.2.2.2.2.2.2.2.2.2.2.2.2.2.at _ HT_rK.out) hl2).mono ?_; rintro e w' ⟨rfl, hb⟩; rw [← HRK.out]
    refine hK.out _ _ (by exact keepL25 hb hHeld) (fun hHeld2 => ?_)
    clear hK K hHeld
    have hHeld := hHeld2
    clear hHeld2
    (try simp only [Act.put, List.setIfInBounds_toArray, List.set_cons_zero, List.set_cons_succ])
    refine held_take (i := 22) (d := (some 87)) (v := ?_) rfl rfl (by kernel_rfl) (by kernel_rfl) (by kernel_rfl) (fun _ _ _ h => h) (by rfl) ?_ (by assumption) ?_
    rotate_left
    · (intro w hSw; (try dsimp only at hSw); go_simp; try with_reducible rfl)
    (try simp only [Act.put, List.setIfInBounds_toArray, List.set_cons_zero, List.set_cons_succ])
    refine held_take (i := 23) (d := (some 88)) (v := ?_) rfl rfl (by kernel_rfl) (by kernel_rfl) (by kernel_rfl) (fun _ _ _ h => h) (by rfl) ?_ (by assumption) ?_
    rotate_left
    · (intro w hSw; (try dsimp only at hSw); go_simp; try with_reducible rfl)
    (try simp only [Act.put, List.setIfInBounds_toArray, List.set_cons_zero, List.set_cons_succ])
    refine held_take (i := 24) (d := (some 89)) (v := ?_) rfl rfl (by kernel_rfl) (by kernel_rfl) (by kernel_rfl) (fun _ _ _ h => h) (by rfl) ?_ (by assumption) ?_
    rotate_left
    · (intro w hSw; (try dsimp only at hSw); go_simp; try with_reducible rfl)
    (try simp only [Act.put, List.setIfInBounds_toArray, List.set_cons_zero, List.set_cons_succ])
    refine held_take (i := 25) (d := (some 90)) (v := ?_) rfl rfl (by kernel_rfl) (by kernel_rfl) (by kernel_rfl) (fun _ _ _ h => h) (by rfl) ?_ (by assumption) ?_
    rotate_left
    · (intro w hSw; (try dsimp only at hSw); go_simp; try with_reducible rfl)
    (try simp only [Act.put, List.setIfInBounds_toArray, List.set_cons_zero, List.set_cons_succ])
    refine held_take (i := 27) (d := (some 92)) (v := ?_) rfl rfl (by kernel_rfl) (by kernel_rfl) (by kernel_rfl) (fun _ _ _ h => h) (by rfl) ?_ (by assumption) ?_
    rotate_left
    · (intro w hSw; (try dsimp only at hSw); go_simp; try with_reducible rfl)
    (try simp only [Act.put, List.setIfInBounds_toArray, List.set_cons_zero, List.set_cons_succ])
    refine wpAnyH_ready (rs := [26]) (by kernel_rfl) (by simp) ?_
    refine AllReadyH.cons rfl (fun K hK => ?_) AllReadyH.nil
    go_simp
    go_at_call 19; refine (lrest_any room sent pad q l A cap _ (F.below hHeld.2.2.2.2.2.2.2.2.2.2.2.2.2.2.2.2.2.2.2.2.2.2.2.2.2.below) (hHeld.2.2.2.2.2.2.2.2.2.2.2.2.2.2.2.2.2.2.2.2.2.2.2.2.2.at _ HT_rK.out) hl2).mono ?_; rintro e w' ⟨rfl, hb⟩; rw [HH2.out]
    refine hK.out _ _ (by exact keepL25 hb hHeld) (fun hHeld2 => ?_)
    clear hK K hHeld
    have hHeld := hHeld2
    clear hHeld2
    (try simp only [Act.put, List.setIfInBounds_toArray, List.set_cons_zero, List.set_cons_succ])
    refine wpAnyH_ready (rs := [28]) (by kernel_rfl) (by simp) ?_
    refine AllReadyH.cons rfl (fun K hK => ?_) AllReadyH.nil
    go_simp
    go_at_call 19; refine (lrest_any room sent pad off l A cap _ (F.below hHeld.2.2.2.2.2.2.2.2.2.2.2.2.2.2.2.2.2.2.2.2.2.2.2.2.2.below) (hHeld.2.2.2.2.2.2.2.2.2.2.2.2.2.2.2.2.2.2.2.2.2.2.2.2.2.at _ HT_rK.out) hl2).mono ?_; rintro e w' ⟨rfl, hb⟩; rw [← HRK.out]
    refine hK.out _ _ (by exact keepL25 hb hHeld) (fun hHeld2 => ?_)
    clear hK K hHeld
    have hHeld := hHeld2
    clear hHeld2
    (try simp only [Act.put, List.setIfInBounds_toArray, List.set_cons_zero, List.set_cons_succ])
    refine held_take (i := 29) (d := (some 94)) (v := ?_) rfl rfl (by kernel_rfl) (by kernel_rfl) (by kernel_rfl) (fun _ _ _ h => h) (by rfl) ?_ (by assumption) ?_
    rotate_left
    · (intro w hSw; (try dsimp only at hSw); go_simp; try with_reducible rfl)
    (try simp only [Act.put, List.setIfInBounds_toArray, List.set_cons_zero, List.set_cons_succ])
    refine held_take (i := 30) (d := (some 95)) (v := ?_) rfl rfl (by kernel_rfl) (by kernel_rfl) (by kernel_rfl) (fun _ _ _ h => h) (by rfl) ?_ (by assumption) ?_
    rotate_left
    · (intro w hSw; (try dsimp only at hSw); go_simp; try with_reducible rfl)
    (try simp only [Act.put, List.setIfInBounds_toArray, List.set_cons_zero, List.set_cons_succ])
    refine held_take (i := 31) (d := (some 96)) (v := ?_) rfl rfl (by kernel_rfl) (by kernel_rfl) (by kernel_rfl) (fun _ _ _ h => h) (by rfl) ?_ (by assumption) ?_
    rotate_left
    · (intro w hSw; (try dsimp only at hSw); go_simp; try with_reducible rfl)
    (try simp only [Act.put, List.setIfInBounds_toArray, List.set_cons_zero, List.set_cons_succ])
    refine held_take (i := 32) (d := (some 97)) (v := ?_) rfl rfl (by kernel_rfl) (by kernel_rfl) (by kernel_rfl) (fun _ _ _ h => h) (by rfl) ?_ (by assumption) ?_
    rotate_left
    · (intro w hSw; (try dsimp only at hSw); go_simp; try with_reducible rfl)
    (try simp only [Act.put, List.setIfInBounds_toArray, List.set_cons_zero, List.set_cons_succ])
    refine held_take (i := 33) (d := (some 98)) (v := ?_) rfl rfl (by kernel_rfl) (by kernel_rfl) (by kernel_rfl) (fun _ _ _ h => h) (by rfl) ?_ (by assumption) ?_
    rotate_left
    · (intro w hSw; (try dsimp only at hSw); go_simp; try with_reducible rfl)
    (try simp only [Act.put, List.setIfInBounds_toArray, List.set_cons_zero, List.set_cons_succ])
    refine held_take (i := 34) (d := (some 99)) (v := ?_) rfl rfl (by kernel_rfl) (by kernel_rfl) (by kernel_rfl) (fun _ _ _ h => h) (by rfl) ?_ (by assumption) ?_
    rotate_left
    · (intro w hSw; (try dsimp only at hSw); go_simp; try with_reducible rfl)
    (try simp only [Act.put, List.setIfInBounds_toArray, List.set_cons_zero, List.set_cons_succ])
    refine held_take (i := 35) (d := (some 100)) (v := ?_) rfl rfl (by kernel_rfl) (by kernel_rfl) (by kernel_rfl) (fun _ _ _ h => h) (by rfl) ?_ (by assumption) ?_
    rotate_left
    · (intro w hSw; (try dsimp only at hSw); go_simp; try with_reducible rfl)
    (try simp only [Act.put, List.setIfInBounds_toArray, List.set_cons_zero, List.set_cons_succ])
    refine held_take (i := 36) (d := (some 101)) (v := ?_) rfl rfl (by kernel_rfl) (by kernel_rfl) (by kernel_rfl) (fun _ _ _ h => h) (by rfl) ?_ (by assumption) ?_
    rotate_left
    · (intro w hSw; (try dsimp only at hSw); go_simp; try with_reducible rfl)
    (try simp only [Act.put, List.setIfInBounds_toArray, List.set_cons_zero, List.set_cons_succ])
    refine held_take (i := 37) (d := (some 8)) (v := ?_) rfl rfl (by kernel_rfl) (by kernel_rfl) (by kernel_rfl) (fun _ _ _ h => h) (by rfl) ?_ (by assumption) ?_
    rotate_left
    · (intro w hSw; (try dsimp only at hSw); go_simp; try with_reducible rfl)
    (try simp only [Act.put, List.setIfInBounds_toArray, List.set_cons_zero, List.set_cons_succ])
    refine wpAnyH_done (by kernel_rfl) ?_ _
    go_wp2
    go_ret
    exact ⟨by simp, hHeld.2.2.2.2.2.2.2.2.2.2.2.2.2.2.2.2.2.2.2.2.2.2.2.2.2.below⟩
end Go.Proofs.YtgpebdoafblacaaDoor
