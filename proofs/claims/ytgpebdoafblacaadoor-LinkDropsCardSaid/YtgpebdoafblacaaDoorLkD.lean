/- Links: LinkDrops. -/
import Derived.Test.YtgpebdoafblacaaDoorLkW
import Derived.Test.YtgpebdoafblacaaDoorLkT
import Derived.Test.YtgpebdoafblacaaDoorLkU
import Derived.Test.YtgpebdoafblacaaDoorLkV
import Derived.Test.YtgpebdoafblacaaDoorLkX
import Derived.Test.YtgpebdoafblacaaDoorLkZ
import Derived.BigGuardPart
import Derived.BigQuiet
import Derived.Deep.QuietTactic
import Derived.Deep.RegionHeld3
set_option linter.unusedVariables false
namespace Go.Proofs.YtgpebdoafblacaaDoor
open Go.RowKit Go.PlainAid Gl L Vt Lk
set_option maxRecDepth 100000 in
set_option maxHeartbeats 16000000 in
theorem ldrops_law (room sent pad : Int) (off : Bool) (l : List Cmd) (A : Option Addr) (cap : Nat) (w : World) (F : Forms w 0) (hr : Rk w (.slice A l.length cap) l) :
    Calls Tryd.prog 9 #[.agg #[.int .i64 room, .slice A l.length cap, .int .i64 sent, .int .i64 pad, .bool off]] w fun e w' => e = .returned (.bool true) ∧ Below w.heap.size w w' := by
  have V := Lib.hid ((La.start w).box #[.int .i64 room, .slice A l.length cap, .int .i64 sent, .int .i64 pad, .bool off] 24)
  by_cases hbig : 200 < l.length
  case pos =>
    have hB := decide_eq_true hbig
    clear hbig
    go_enter Tryd.func9, Tryd.ntmps9
    go_wp2_with fail
    refine (lkbig_any room sent pad off A l.length cap _).mono ?_
    rintro e w1 ⟨rfl, hb⟩
    rw [hB]
    replace V := Lib.hid (V.out.call hb)
    clear hb
    go_wp2_with fail
    refine (linked_any _ (F.below V.out.below)).mono ?_
    rintro e w2 ⟨rfl, hb⟩
    replace V := Lib.hid (V.out.call hb)
    clear hb
    go_wp2
    go_ret
    exact ⟨rfl, V.out.below⟩
  have hl : l.length ≤ 200 := by omega
  have hl2 : l.length ≤ 100000 := by omega
  have hB := decide_eq_false hbig
  clear hbig
  by_cases hk : rt ⟨room, l, sent, pad, off⟩
  case neg =>
    have hI := decide_eq_false hk
    clear hk
    have HR := Lib.hid hr
    go_enter Tryd.func9, Tryd.ntmps9
    go_wp2_with fail
    refine (lkbig_any room sent pad off A l.length cap _).mono ?_
    rintro e w1 ⟨rfl, hb⟩
    rw [hB]
    replace V := Lib.hid (V.out.call hb)
    clear hb
    have gp := V.out.at 0 rfl
    obtain ⟨⟨pa, pb, pc, pd, pe⟩, -, pz⟩ := blk5 gp
    clear gp
    go_wp2_with fail
    clear pa pb pc pd pe pz
    refine (lis_any room sent pad off l A cap _ (F.below V.out.below) (HR.out.below V.out.below) hl2).mono ?_
    rintro e w2 ⟨rfl, hb⟩
    rw [hI]
    replace V := Lib.hid (V.out.call hb)
    clear hb
    go_wp2_with fail
    refine (linked_any _ (F.below V.out.below)).mono ?_
    rintro e w3 ⟨rfl, hb⟩
    replace V := Lib.hid (V.out.call hb)
    clear hb
    go_wp2
    go_ret
    exact ⟨rfl, V.out.below⟩
  obtain ⟨ld, hld⟩ : ∃ x, x = (dp ⟨room, l, sent, pad, off⟩).l := ⟨_, rfl⟩
  obtain ⟨lg, hlg⟩ : ∃ x, x = gn ⟨room, l, sent, pad, off⟩ := ⟨_, rfl⟩
  have hdl := dp_len ⟨room, l, sent, pad, off⟩
  rw [← hld, ← hlg] at hdl
  dsimp only at hdl
  obtain ⟨D1, D2, D3, D4, D5, D6, D7⟩ := dp_rt hk
  have hdi := dp_is room sent pad off l
  rw [← hld] at hdi
  rw [hdi] at D1 D2 D4 D5 D6 D7
  rw [← hlg] at D2 D3
  dsimp only at D4 D7
  have hl1 : ld.length ≤ 100000 := by omega
  have hl3 : lg.length ≤ 200 := by omega
  have hl3' : lg.length ≤ 100000 := by omega
  obtain ⟨ra, hra⟩ : ∃ x, x = rs ⟨room, ld, sent, pad, off⟩ := ⟨_, rfl⟩
  obtain ⟨rk, hrk⟩ : ∃ x, x = rs ⟨room, l, sent, pad, off⟩ := ⟨_, rfl⟩
  obtain ⟨bg, hbg⟩ : ∃ x, x = btsL lg := ⟨_, rfl⟩
  obtain ⟨cz, hcz⟩ : ∃ x : Int, x = (costL ld : Int) := ⟨_, rfl⟩
  rw [← hra, ← hbg, ← hrk] at D2
  rw [← hra] at D7
  have hz1 : rk.size ≤ 48 := by rw [hrk]; exact rs_le _
  have hz2 : ra.size + bg.size = rk.size := by rw [← D2, size_app]
  have hz3 : ¬ 9223372036854775807 < rk.size := by omega
  have hz4 : ¬ 9223372036854775807 < bg.size := by omega
  have hcz8 : cz ≤ 8 := by omega
  have hcz0 : 0 ≤ cz := by omega
  have hcd := decide_eq_true hcz8
  have HLD := Lib.hid hld
  have HLG := Lib.hid hlg
  have HDD := Lib.hid (show ld = (dp ⟨room, ld, sent, pad, off⟩).l by rw [D6])
  have HGG := Lib.hid D5.symm
  have HRA := Lib.hid hra
  have HRK := Lib.hid hrk
  have HBG := Lib.hid hbg
  have HCZ := Lib.hid hcz
  have HD3 := Lib.hid D3
  have HD7 := Lib.hid D7
  have hI := decide_eq_true hk
  have HBD := Lib.hid (costL_bd ld)
  clear hld hlg hdl D1 D4 D5 D6 D7 D3 hdi hra hrk hbg hcz hk hcz8
  have HR := Lib.hid hr
  clear hr
  by_cases hs : 0 < sent
  case pos =>
    have hsd := decide_eq_true hs
    replace V := Lib.hid (V.out.row (HR.out.below V.out.below))
    go_enter Tryd.func9, Tryd.ntmps9
    go_wp2_with fail
    refine (lkbig_any room sent pad off A l.length cap _).mono ?_
    rintro e w1 ⟨rfl, hb⟩
    rw [hB]
    replace V := Lib.hid (V.out.call hb)
    clear hb
    have gp := V.out.at 1 rfl
    obtain ⟨⟨pa, pb, pc, pd, pe⟩, -, pz⟩ := blk5 gp
    clear gp
    go_wp2_with fail
    clear pa pb pc pd pe pz
    refine (lis_any room sent pad off l A cap _ (F.below V.out.below) (V.out.at 0 rfl) hl2).mono ?_
    rintro e w2 ⟨rfl, hb⟩
    rw [hI]
    replace V := Lib.hid (V.out.call hb)
    clear hb
    have gp := V.out.at 1 rfl
    obtain ⟨⟨pa, pb, pc, pd, pe⟩, -, pz⟩ := blk5 gp
    clear gp
    go_wp2_with fail
    clear pa pb pc pd pe pz
    have hrow := V.out.at 0 rfl
    refine (ldrop_any room sent pad off l A cap _ (F.below V.out.below) hrow (by omega)).mono ?_
    rintro e w3 ⟨ho, hb⟩
    rw [← HLD.out, ← HLG.out] at ho
    obtain ⟨A3, q3, B3, u3, rfl, hk, hk2⟩ := ho
    clear hrow
    replace V := Lib.hid (V.out.call hb)
    clear hb
    replace V := Lib.hid (V.out.row (hk))
    replace V := Lib.hid (V.out.row (hk2))
    clear hk hk2
    replace V := Lib.hid (V.out.box #[.int .i64 room, .slice A3 ld.length q3, .int .i64 sent, .int .i64 pad, .bool off] 24)
    have HC := Lib.hid (cmds_row (show Rk _ (.slice B3 lg.length u3) lg from V.out.at 1 rfl).rw)
    go_wp2
    go_loopw [5] (fun i wr => ∃ k : Nat, k ≤ lg.length ∧ i = .int .i64 k ∧ Below (w3.alloc (.cells #[.int .i64 room, .slice A3 ld.length q3, .int .i64 sent, .int .i64 pad, .bool off] 24)).heap.size (w3.alloc (.cells #[.int .i64 room, .slice A3 ld.length q3, .int .i64 sent, .int .i64 pad, .bool off] 24)) wr) (fun i _ => lg.length - (intOf i).toNat)
    case atStart => exact ⟨0, by omega, rfl, Below.refl _ _⟩
    case round =>
      obtain ⟨k, hk, rfl, hw⟩ := hrel
      replace V := Lib.hid (V.out.call hw)
      by_cases hlt : k < lg.length
      · obtain ⟨A', c', e, hcc⟩ := HC.out
        cases e
        rcases hcc with h0 | ⟨gg, oo, rfl, hcc⟩
        · omega
        obtain ⟨e0, e1, e2, e3⟩ := hcc k hlt
        replace e0 := keepC hw e0
        replace e1 := keepC hw e1
        replace e2 := keepC hw e2
        replace e3 := keepC hw e3
        have g0 := World.block_lt_of_cell? wr _ e0
        have hi : isC (cK lg k) (cA lg k) (cB lg k) (cR lg k) = true := HD3.out _ (getD_in hlt)
        have HW := Lib.hid hw
        clear hcc hw
        go_wp2_with fail
        refine (vis_any (cK lg k) (cA lg k) (cB lg k) (cR lg k) _ (F.below V.out.below)).mono ?_
        rintro e w1 ⟨rfl, hb⟩
        rw [hi]
        have HW1 := Lib.hid (HW.out.trans (hb.mono HW.out.size))
        go_wp2
        go_roundw
        case rel => exact ⟨k + 1, by omega, by go_num, HW1.out⟩
        case measure => simp [intOf]; omega
      · obtain rfl : k = lg.length := by omega
        clear hlt hw
        have gp := V.out.at 0 rfl
        obtain ⟨⟨pa, pb, pc, pd, pe⟩, -, pz⟩ := blk5 gp
        clear gp
        go_wp2_with fail
        clear pa pb pc pd pe pz
        have hrow := V.out.at 2 rfl
        refine (ldrop_any room sent pad off ld A3 q3 _ (F.below V.out.below) hrow (by omega)).mono ?_
        rintro e w4 ⟨ho, hb⟩
        rw [← HDD.out, ← HGG.out] at ho
        obtain ⟨A4, q4, B4, u4, rfl, hk1, hk2⟩ := ho
        clear hrow
        replace V := Lib.hid (V.out.call hb)
        clear hb
        replace V := Lib.hid (V.out.row (hk1))
        clear hk1 hk2
        replace V := Lib.hid (V.out.box #[.int .i64 room, .slice A4 ld.length q4, .int .i64 sent, .int .i64 pad, .bool off] 24)
        have gp := V.out.at 2 rfl
        obtain ⟨⟨xa, xb, xc, xd, xe⟩, -, xz⟩ := blk5 gp
        clear gp
        have gp := V.out.at 0 rfl
        obtain ⟨⟨ya, yb, yc, yd, ye⟩, -, yz⟩ := blk5 gp
        clear gp
        have gp := V.out.at 6 rfl
        obtain ⟨⟨za, zb, zc, zd, ze⟩, -, zz⟩ := blk5 gp
        clear gp
        go_wp2
        obtain ⟨Ts, V, HT_rK, HT_rA, HT_rG, HT_rB⟩ : ∃ Ts, Hid (La w.heap.size w (w4.alloc (.cells #[.int .i64 room, .slice A4 ld.length q4, .int .i64 sent, .int .i64 pad, .bool off] 24)) Ts) ∧ Hid (Ts[5]? = some (fun w' : World => Rk w' (.slice A l.length cap) l)) ∧ Hid (Ts[4]? = some (fun w' : World => Rk w' (.slice A3 ld.length q3) ld)) ∧ Hid (Ts[3]? = some (fun w' : World => Rk w' (.slice B3 lg.length u3) lg)) ∧ Hid (Ts[1]? = some (fun w' : World => Rk w' (.slice A4 ld.length q4) ld)) :=
          ⟨_, V, Lib.hid rfl, Lib.hid rfl, Lib.hid rfl, Lib.hid rfl⟩
        refine wp_region_held_drew (S := fun w' => w'.cell? ⟨w3.heap.size, 0, none⟩ = some (.int .i64 room) ∧ w'.cell? ⟨w3.heap.size, 1, none⟩ = some (.slice A3 ld.length q3) ∧ w'.cell? ⟨w3.heap.size, 2, none⟩ = some (.int .i64 sent) ∧ w'.cell? ⟨w3.heap.size, 3, none⟩ = some (.int .i64 pad) ∧ w'.cell? ⟨w3.heap.size, 4, none⟩ = some (.bool off) ∧ w'.cell? ⟨w4.heap.size, 0, none⟩ = some (.int .i64 room) ∧ w'.cell? ⟨w4.heap.size, 1, none⟩ = some (.slice A4 ld.length q4) ∧ w'.cell? ⟨w4.heap.size, 2, none⟩ = some (.int .i64 sent) ∧ w'.cell? ⟨w4.heap.size, 3, none⟩ = some (.int .i64 pad) ∧ w'.cell? ⟨w4.heap.size, 4, none⟩ = some (.bool off) ∧ w'.cell? ⟨w.heap.size, 0, none⟩ = some (.int .i64 room) ∧ w'.cell? ⟨w.heap.size, 1, none⟩ = some (.slice A l.length cap) ∧ w'.cell? ⟨w.heap.size, 2, none⟩ = some (.int .i64 sent) ∧ w'.cell? ⟨w.heap.size, 3, none⟩ = some (.int .i64 pad) ∧ w'.cell? ⟨w.heap.size, 4, none⟩ = some (.bool off) ∧ La w.heap.size w w' Ts) (by kernel_rfl) (by exact ⟨by go_keep, by go_keep, by go_keep, by go_keep, by go_keep, by go_keep, by go_keep, by go_keep, by go_keep, by go_keep, by go_keep, by go_keep, by go_keep, by go_keep, by go_keep, La.drew V.out⟩) (fun hHeld => ?_)
        refine wpAnyH_ready (rs := [0]) (by kernel_rfl) (by simp) ?_
        refine AllReadyH.cons rfl (fun K hK => ?_) AllReadyH.nil
        go_simp
        go_at_call 15; refine (linked_any _ (F.below hHeld.2.2.2.2.2.2.2.2.2.2.2.2.2.2.2.below)).mono ?_; rintro e w' ⟨rfl, hb⟩
        refine hK.out _ _ (by exact keepL15 hb hHeld) (fun hHeld2 => ?_)
        clear hK K hHeld
        have hHeld := hHeld2
        clear hHeld2
        (try simp only [Act.put, List.setIfInBounds_toArray, List.set_cons_zero, List.set_cons_succ])
        refine held_take (i := 1) (d := (some 39)) (v := ?_) rfl rfl (by kernel_rfl) (by kernel_rfl) (by kernel_rfl) (fun _ _ _ h => h) (by rfl) ?_ (by assumption) ?_
        rotate_left
        · (intro w hSw; (try dsimp only at hSw); go_simp; try with_reducible rfl)
        (try simp only [Act.put, List.setIfInBounds_toArray, List.set_cons_zero, List.set_cons_succ])
        refine held_take (i := 2) (d := (some 40)) (v := ?_) rfl rfl (by kernel_rfl) (by kernel_rfl) (by kernel_rfl) (fun _ _ _ h => h) (by rfl) ?_ (by assumption) ?_
        rotate_left
        · (intro w hSw; (try dsimp only at hSw); go_simp; try with_reducible rfl)
        (try simp only [Act.put, List.setIfInBounds_toArray, List.set_cons_zero, List.set_cons_succ])
        refine held_take (i := 4) (d := (some 42)) (v := ?_) rfl rfl (by kernel_rfl) (by kernel_rfl) (by kernel_rfl) (fun _ _ _ h => h) (by rfl) ?_ (by assumption) ?_
        rotate_left
        · (intro w hSw; (try dsimp only at hSw); go_simp; try with_reducible rfl)
        (try simp only [Act.put, List.setIfInBounds_toArray, List.set_cons_zero, List.set_cons_succ])
        refine held_take (i := 7) (d := (some 45)) (v := ?_) rfl rfl (by kernel_rfl) (by kernel_rfl) (by kernel_rfl) (fun _ _ _ h => h) (by rfl) ?_ (by assumption) ?_
        rotate_left
        · (intro w hSw; (try dsimp only at hSw); go_simp; try with_reducible rfl)
        (try simp only [Act.put, List.setIfInBounds_toArray, List.set_cons_zero, List.set_cons_succ])
        refine wpAnyH_ready (rs := [3]) (by kernel_rfl) (by simp) ?_
        refine AllReadyH.cons rfl (fun K hK => ?_) AllReadyH.nil
        go_simp
        go_at_call 19; refine (lrest_any room sent pad off ld A3 q3 _ (F.below hHeld.2.2.2.2.2.2.2.2.2.2.2.2.2.2.2.below) (hHeld.2.2.2.2.2.2.2.2.2.2.2.2.2.2.2.at _ HT_rA.out) hl1).mono ?_; rintro e w' ⟨rfl, hb⟩; rw [← HRA.out]
        refine hK.out _ _ (by exact keepL15 hb hHeld) (fun hHeld2 => ?_)
        clear hK K hHeld
        have hHeld := hHeld2
        clear hHeld2
        (try simp only [Act.put, List.setIfInBounds_toArray, List.set_cons_zero, List.set_cons_succ])
        refine wpAnyH_ready (rs := [5]) (by kernel_rfl) (by simp) ?_
        refine AllReadyH.cons rfl (fun K hK => ?_) AllReadyH.nil
        go_simp
        go_at_call 30; refine (rbytes_any (.slice B3 lg.length u3) lg _ (Rk.rw (hHeld.2.2.2.2.2.2.2.2.2.2.2.2.2.2.2.at _ HT_rG.out)) hl3').mono ?_; rintro e w' ⟨rfl, hb⟩; rw [← HBG.out]
        refine hK.out _ _ (by exact keepL15 hb hHeld) (fun hHeld2 => ?_)
        clear hK K hHeld
        have hHeld := hHeld2
        clear hHeld2
        (try simp only [Act.put, List.setIfInBounds_toArray, List.set_cons_zero, List.set_cons_succ])
        refine held_take (i := 6) (d := (some 44)) (v := ?_) rfl rfl (by kernel_rfl) (by kernel_rfl) (by kernel_rfl) (fun _ _ _ h => h) (by rfl) ?_ (by assumption) ?_
        rotate_left
        · (intro w hSw; (try dsimp only at hSw); go_simp; try with_reducible rfl)
        (try simp only [Act.put, List.setIfInBounds_toArray, List.set_cons_zero, List.set_cons_succ])
        refine wpAnyH_ready (rs := [8]) (by kernel_rfl) (by simp) ?_
        refine AllReadyH.cons rfl (fun K hK => ?_) AllReadyH.nil
        go_simp
        go_at_call 19; refine (lrest_any room sent pad off l A cap _ (F.below hHeld.2.2.2.2.2.2.2.2.2.2.2.2.2.2.2.below) (hHeld.2.2.2.2.2.2.2.2.2.2.2.2.2.2.2.at _ HT_rK.out) hl2).mono ?_; rintro e w' ⟨rfl, hb⟩; rw [← HRK.out]
        refine hK.out _ _ (by exact keepL15 hb hHeld) (fun hHeld2 => ?_)
        clear hK K hHeld
        have hHeld := hHeld2
        clear hHeld2
        (try simp only [Act.put, List.setIfInBounds_toArray, List.set_cons_zero, List.set_cons_succ])
        refine held_take (i := 9) (d := (some 47)) (v := ?_) rfl rfl (by kernel_rfl) (by kernel_rfl) (by kernel_rfl) (fun _ _ _ h => h) (by rfl) ?_ (by assumption) ?_
        rotate_left
        · (intro w hSw; (try dsimp only at hSw); go_simp; try with_reducible rfl)
        (try simp only [Act.put, List.setIfInBounds_toArray, List.set_cons_zero, List.set_cons_succ])
        refine held_take (i := 10) (d := (some 48)) (v := ?_) rfl rfl (by kernel_rfl) (by kernel_rfl) (by kernel_rfl) (fun _ _ _ h => h) (by rfl) ?_ (by assumption) ?_
        rotate_left
        · (intro w hSw; (try dsimp only at hSw); go_simp; try with_reducible rfl)
        (try simp only [Act.put, List.setIfInBounds_toArray, List.set_cons_zero, List.set_cons_succ])
        refine held_take (i := 11) (d := (some 49)) (v := ?_) rfl rfl (by kernel_rfl) (by kernel_rfl) (by kernel_rfl) (fun _ _ _ h => h) (by rfl) ?_ (by assumption) ?_
        rotate_left
        · (intro w hSw; (try dsimp only at hSw); go_simp; try with_reducible rfl)
        (try simp only [Act.put, List.setIfInBounds_toArray, List.set_cons_zero, List.set_cons_succ])
        refine held_take (i := 12) (d := (some 50)) (v := ?_) rfl rfl (by kernel_rfl) (by kernel_rfl) (by kernel_rfl) (fun _ _ _ h => h) (by rfl) ?_ (by assumption) ?_
        rotate_left
        · (intro w hSw; (try dsimp only at hSw); go_simp; try with_reducible rfl)
        (try simp only [Act.put, List.setIfInBounds_toArray, List.set_cons_zero, List.set_cons_succ])
        refine held_take (i := 13) (d := (some 51)) (v := ?_) rfl rfl (by kernel_rfl) (by kernel_rfl) (by kernel_rfl) (fun _ _ _ h => h) (by rfl) ?_ (by assumption) ?_
        rotate_left
        · (intro w hSw; (try dsimp only at hSw); go_simp; try with_reducible rfl)
        (try simp only [Act.put, List.setIfInBounds_toArray, List.set_cons_zero, List.set_cons_succ])
        refine wpAnyH_ready (rs := [14]) (by kernel_rfl) (by simp) ?_
        refine AllReadyH.cons rfl (fun K hK => ?_) AllReadyH.nil
        go_simp
        go_at_call 32; refine (vcost_any (.slice A3 ld.length q3) ld _ (F.below hHeld.2.2.2.2.2.2.2.2.2.2.2.2.2.2.2.below) (Rk.rw (hHeld.2.2.2.2.2.2.2.2.2.2.2.2.2.2.2.at _ HT_rA.out)) hl1).mono ?_; rintro e w' ⟨rfl, hb⟩; rw [← HCZ.out]
        refine hK.out _ _ (by exact keepL15 hb hHeld) (fun hHeld2 => ?_)
        clear hK K hHeld
        have hHeld := hHeld2
        clear hHeld2
        (try simp only [Act.put, List.setIfInBounds_toArray, List.set_cons_zero, List.set_cons_succ])
        refine held_take (i := 15) (d := (some 53)) (v := ?_) rfl rfl (by kernel_rfl) (by kernel_rfl) (by kernel_rfl) (fun _ _ _ h => h) (by rfl) ?_ (by assumption) ?_
        rotate_left
        · (intro w hSw; (try dsimp only at hSw); go_simp; try with_reducible rfl)
        (try simp only [Act.put, List.setIfInBounds_toArray, List.set_cons_zero, List.set_cons_succ])
        refine held_take (i := 16) (d := (some 54)) (v := ?_) rfl rfl (by kernel_rfl) (by kernel_rfl) (by kernel_rfl) (fun _ _ _ h => h) (by rfl) ?_ (by assumption) ?_
        rotate_left
        · (intro w hSw; (try dsimp only at hSw); go_simp; try with_reducible rfl)
        (try simp only [Act.put, List.setIfInBounds_toArray, List.set_cons_zero, List.set_cons_succ])
        refine held_take (i := 17) (d := (some 55)) (v := ?_) rfl rfl (by kernel_rfl) (by kernel_rfl) (by kernel_rfl) (fun _ _ _ h => h) (by rfl) ?_ (by assumption) ?_
        rotate_left
        · (intro w hSw; (try dsimp only at hSw); go_simp; try with_reducible rfl)
        (try simp only [Act.put, List.setIfInBounds_toArray, List.set_cons_zero, List.set_cons_succ])
        refine held_take (i := 18) (d := (some 56)) (v := ?_) rfl rfl (by kernel_rfl) (by kernel_rfl) (by kernel_rfl) (fun _ _ _ h => h) (by rfl) ?_ (by assumption) ?_
        rotate_left
        · (intro w hSw; (try dsimp only at hSw); go_simp; try with_reducible rfl)
        (try simp only [Act.put, List.setIfInBounds_toArray, List.set_cons_zero, List.set_cons_succ])
        refine held_take (i := 19) (d := (some 57)) (v := ?_) rfl rfl (by kernel_rfl) (by kernel_rfl) (by kernel_rfl) (fun _ _ _ h => h) (by rfl) ?_ (by assumption) ?_
        rotate_left
        · (intro w hSw; (try dsimp only at hSw); go_simp; try with_reducible rfl)
        (try simp only [Act.put, List.setIfInBounds_toArray, List.set_cons_zero, List.set_cons_succ])
        refine held_take (i := 20) (d := (some 58)) (v := ?_) rfl rfl (by kernel_rfl) (by kernel_rfl) (by kernel_rfl) (fun _ _ _ h => h) (by rfl) ?_ (by assumption) ?_
        rotate_left
        · (intro w hSw; (try dsimp only at hSw); go_simp; try with_reducible rfl)
        (try simp only [Act.put, List.setIfInBounds_toArray, List.set_cons_zero, List.set_cons_succ])
        refine held_take (i := 21) (d := (some 59)) (v := ?_) rfl rfl (by kernel_rfl) (by kernel_rfl) (by kernel_rfl) (fun _ _ _ h => h) (by rfl) ?_ (by assumption) ?_
        rotate_left
        · (intro w hSw; (try dsimp only at hSw); go_simp; try with_reducible rfl)
        (try simp only [Act.put, List.setIfInBounds_toArray, List.set_cons_zero, List.set_cons_succ])
        refine held_take (i := 22) (d := (some 60)) (v := ?_) rfl rfl (by kernel_rfl) (by kernel_rfl) (by kernel_rfl) (fun _ _ _ h => h) (by rfl) ?_ (by assumption) ?_
        rotate_left
        · (intro w hSw; (try dsimp only at hSw); go_simp; try with_reducible rfl)
        (try simp only [Act.put, List.setIfInBounds_toArray, List.set_cons_zero, List.set_cons_succ])
        refine held_take (i := 23) (d := (some 61)) (v := ?_) rfl rfl (by kernel_rfl) (by kernel_rfl) (by kernel_rfl) (fun _ _ _ h => h) (by rfl) ?_ (by assumption) ?_
        rotate_left
        · (intro w hSw; (try dsimp only at hSw); go_simp; try with_reducible rfl)
        (try simp only [Act.put, List.setIfInBounds_toArray, List.set_cons_zero, List.set_cons_succ])
        refine held_take (i := 24) (d := (some 62)) (v := ?_) rfl rfl (by kernel_rfl) (by kernel_rfl) (by kernel_rfl) (fun _ _ _ h => h) (by rfl) ?_ (by assumption) ?_
        rotate_left
        · (intro w hSw; (try dsimp only at hSw); go_simp; try with_reducible rfl)
        (try simp only [Act.put, List.setIfInBounds_toArray, List.set_cons_zero, List.set_cons_succ])
        refine wpAnyH_ready (rs := [25]) (by kernel_rfl) (by simp) ?_
        refine AllReadyH.cons rfl (fun K hK => ?_) AllReadyH.nil
        go_simp
        go_at_call 16; refine (lksame_any room sent pad room sent pad off off ld ld A3 A4 q3 q4 _ (hHeld.2.2.2.2.2.2.2.2.2.2.2.2.2.2.2.at _ HT_rA.out) (hHeld.2.2.2.2.2.2.2.2.2.2.2.2.2.2.2.at _ HT_rB.out) hl1 hl1).mono ?_; rintro e w' ⟨rfl, hb⟩; rw [decide_eq_true rfl]
        refine hK.out _ _ (by exact keepL15 hb hHeld) (fun hHeld2 => ?_)
        clear hK K hHeld
        have hHeld := hHeld2
        clear hHeld2
        (try simp only [Act.put, List.setIfInBounds_toArray, List.set_cons_zero, List.set_cons_succ])
        refine held_take (i := 26) (d := (some 64)) (v := ?_) rfl rfl (by kernel_rfl) (by kernel_rfl) (by kernel_rfl) (fun _ _ _ h => h) (by rfl) ?_ (by assumption) ?_
        rotate_left
        · (intro w hSw; (try dsimp only at hSw); go_simp; try with_reducible rfl)
        (try simp only [Act.put, List.setIfInBounds_toArray, List.set_cons_zero, List.set_cons_succ])
        refine held_take (i := 27) (d := (some 65)) (v := ?_) rfl rfl (by kernel_rfl) (by kernel_rfl) (by kernel_rfl) (fun _ _ _ h => h) (by rfl) ?_ (by assumption) ?_
        rotate_left
        · (intro w hSw; (try dsimp only at hSw); go_simp; try with_reducible rfl)
        (try simp only [Act.put, List.setIfInBounds_toArray, List.set_cons_zero, List.set_cons_succ])
        refine held_take (i := 28) (d := (some 66)) (v := ?_) rfl rfl (by kernel_rfl) (by kernel_rfl) (by kernel_rfl) (fun _ _ _ h => h) (by rfl) ?_ (by assumption) ?_
        rotate_left
        · (intro w hSw; (try dsimp only at hSw); go_simp; try with_reducible rfl)
        (try simp only [Act.put, List.setIfInBounds_toArray, List.set_cons_zero, List.set_cons_succ])
        refine held_take (i := 29) (d := (some 67)) (v := ?_) rfl rfl (by kernel_rfl) (by kernel_rfl) (by kernel_rfl) (fun _ _ _ h => h) (by rfl) ?_ (by assumption) ?_
        rotate_left
        · (intro w hSw; (try dsimp only at hSw); go_simp; try with_reducible rfl)
        (try simp only [Act.put, List.setIfInBounds_toArray, List.set_cons_zero, List.set_cons_succ])
        refine held_take (i := 30) (d := (some 68)) (v := ?_) rfl rfl (by kernel_rfl) (by kernel_rfl) (by kernel_rfl) (fun _ _ _ h => h) (by rfl) ?_ (by assumption) ?_
        rotate_left
        · (intro w hSw; (try dsimp only at hSw); go_simp; try with_reducible rfl)
        (try simp only [Act.put, List.setIfInBounds_toArray, List.set_cons_zero, List.set_cons_succ])
        refine held_take (i := 31) (d := (some 69)) (v := ?_) rfl rfl (by kernel_rfl) (by kernel_rfl) (by kernel_rfl) (fun _ _ _ h => h) (by rfl) ?_ (by assumption) ?_
        rotate_left
        · (intro w hSw; (try dsimp only at hSw); go_simp; try with_reducible rfl)
        (try simp only [Act.put, List.setIfInBounds_toArray, List.set_cons_zero, List.set_cons_succ])
        refine held_skip (i := 32) (d := (some 70)) rfl rfl (by kernel_rfl) (by kernel_rfl) (by kernel_rfl) (fun _ _ _ h => h) (by kernel_rfl) (by assumption) ?_
        (try simp only [Act.put, List.setIfInBounds_toArray, List.set_cons_zero, List.set_cons_succ])
        refine held_skip (i := 33) (d := (some 71)) rfl rfl (by kernel_rfl) (by kernel_rfl) (by kernel_rfl) (fun _ _ _ h => h) (by kernel_rfl) (by assumption) ?_
        (try simp only [Act.put, List.setIfInBounds_toArray, List.set_cons_zero, List.set_cons_succ])
        refine held_skip (i := 34) (d := (some 72)) rfl rfl (by kernel_rfl) (by kernel_rfl) (by kernel_rfl) (fun _ _ _ h => h) (by kernel_rfl) (by assumption) ?_
        (try simp only [Act.put, List.setIfInBounds_toArray, List.set_cons_zero, List.set_cons_succ])
        refine held_take (i := 35) (d := (some 73)) (v := ?_) rfl rfl (by kernel_rfl) (by kernel_rfl) (by kernel_rfl) (fun _ _ _ h => h) (by rfl) ?_ (by assumption) ?_
        rotate_left
        · (intro w hSw; (try dsimp only at hSw); go_simp; try with_reducible rfl)
        (try simp only [Act.put, List.setIfInBounds_toArray, List.set_cons_zero, List.set_cons_succ])
        refine held_take (i := 36) (d := (some 74)) (v := ?_) rfl rfl (by kernel_rfl) (by kernel_rfl) (by kernel_rfl) (fun _ _ _ h => h) (by rfl) ?_ (by assumption) ?_
        rotate_left
        · (intro w hSw; (try dsimp only at hSw); go_simp; try with_reducible rfl)
        (try simp only [Act.put, List.setIfInBounds_toArray, List.set_cons_zero, List.set_cons_succ])
        refine held_take (i := 37) (d := (some 2)) (v := ?_) rfl rfl (by kernel_rfl) (by kernel_rfl) (by kernel_rfl) (fun _ _ _ h => h) (by rfl) ?_ (by assumption) ?_
        rotate_left
        · (intro w hSw; (try dsimp only at hSw); go_simp; try with_reducible rfl)
        (try simp only [Act.put, List.setIfInBounds_toArray, List.set_cons_zero, List.set_cons_succ])
        refine wpAnyH_done (by kernel_rfl) ?_ _
        go_wp2
        go_ret
        exact ⟨by simp, hHeld.2.2.2.2.2.2.2.2.2.2.2.2.2.2.2.below⟩
  have hsd := decide_eq_false hs
  obtain rfl : ra = ⟨#[]⟩ := HD7.out (by omega)
  replace V := Lib.hid (V.out.row (HR.out.below V.out.below))
  go_enter Tryd.func9, Tryd.ntmps9
  go_wp2_with fail
  refine (lkbig_any room sent pad off A l.length cap _).mono ?_
  rintro e w1 ⟨rfl, hb⟩
  rw [hB]
  replace V := Lib.hid (V.out.call hb)
  clear hb
  have gp := V.out.at 1 rfl
  obtain ⟨⟨pa, pb, pc, pd, pe⟩, -, pz⟩ := blk5 gp
  clear gp
  go_wp2_with fail
  clear pa pb pc pd pe pz
  refine (lis_any room sent pad off l A cap _ (F.below V.out.below) (V.out.at 0 rfl) hl2).mono ?_
  rintro e w2 ⟨rfl, hb⟩
  rw [hI]
  replace V := Lib.hid (V.out.call hb)
  clear hb
  have gp := V.out.at 1 rfl
  obtain ⟨⟨pa, pb, pc, pd, pe⟩, -, pz⟩ := blk5 gp
  clear gp
  go_wp2_with fail
  clear pa pb pc pd pe pz
  have hrow := V.out.at 0 rfl
  refine (ldrop_any room sent pad off l A cap _ (F.below V.out.below) hrow (by omega)).mono ?_
  rintro e w3 ⟨ho, hb⟩
  rw [← HLD.out, ← HLG.out] at ho
  obtain ⟨A3, q3, B3, u3, rfl, hk, hk2⟩ := ho
  clear hrow
  replace V := Lib.hid (V.out.call hb)
  clear hb
  replace V := Lib.hid (V.out.row (hk))
  replace V := Lib.hid (V.out.row (hk2))
  clear hk hk2
  replace V := Lib.hid (V.out.box #[.int .i64 room, .slice A3 ld.length q3, .int .i64 sent, .int .i64 pad, .bool off] 24)
  have HC := Lib.hid (cmds_row (show Rk _ (.slice B3 lg.length u3) lg from V.out.at 1 rfl).rw)
  go_wp2
  go_loopw [5] (fun i wr => ∃ k : Nat, k ≤ lg.length ∧ i = .int .i64 k ∧ Below (w3.alloc (.cells #[.int .i64 room, .slice A3 ld.length q3, .int .i64 sent, .int .i64 pad, .bool off] 24)).heap.size (w3.alloc (.cells #[.int .i64 room, .slice A3 ld.length q3, .int .i64 sent, .int .i64 pad, .bool off] 24)) wr) (fun i _ => lg.length - (intOf i).toNat)
  case atStart => exact ⟨0, by omega, rfl, Below.refl _ _⟩
  case round =>
    obtain ⟨k, hk, rfl, hw⟩ := hrel
    replace V := Lib.hid (V.out.call hw)
    by_cases hlt : k < lg.length
    · obtain ⟨A', c', e, hcc⟩ := HC.out
      cases e
      rcases hcc with h0 | ⟨gg, oo, rfl, hcc⟩
      · omega
      obtain ⟨e0, e1, e2, e3⟩ := hcc k hlt
      replace e0 := keepC hw e0
      replace e1 := keepC hw e1
      replace e2 := keepC hw e2
      replace e3 := keepC hw e3
      have g0 := World.block_lt_of_cell? wr _ e0
      have hi : isC (cK lg k) (cA lg k) (cB lg k) (cR lg k) = true := HD3.out _ (getD_in hlt)
      have HW := Lib.hid hw
      clear hcc hw
      go_wp2_with fail
      refine (vis_any (cK lg k) (cA lg k) (cB lg k) (cR lg k) _ (F.below V.out.below)).mono ?_
      rintro e w1 ⟨rfl, hb⟩
      rw [hi]
      have HW1 := Lib.hid (HW.out.trans (hb.mono HW.out.size))
      go_wp2
      go_roundw
      case rel => exact ⟨k + 1, by omega, by go_num, HW1.out⟩
      case measure => simp [intOf]; omega
    · obtain rfl : k = lg.length := by omega
      clear hlt hw
      have gp := V.out.at 0 rfl
      obtain ⟨⟨pa, pb, pc, pd, pe⟩, -, pz⟩ := blk5 gp
      clear gp
      go_wp2_with fail
      clear pa pb pc pd pe pz
      have hrow := V.out.at 2 rfl
      refine (ldrop_any room sent pad off ld A3 q3 _ (F.below V.out.below) hrow (by omega)).mono ?_
      rintro e w4 ⟨ho, hb⟩
      rw [← HDD.out, ← HGG.out] at ho
      obtain ⟨A4, q4, B4, u4, rfl, hk1, hk2⟩ := ho
      clear hrow
      replace V := Lib.hid (V.out.call hb)
      clear hb
      replace V := Lib.hid (V.out.row (hk1))
      clear hk1 hk2
      replace V := Lib.hid (V.out.box #[.int .i64 room, .slice A4 ld.length q4, .int .i64 sent, .int .i64 pad, .bool off] 24)
      have gp := V.out.at 2 rfl
      obtain ⟨⟨xa, xb, xc, xd, xe⟩, -, xz⟩ := blk5 gp
      clear gp
      have gp := V.out.at 0 rfl
      obtain ⟨⟨ya, yb, yc, yd, ye⟩, -, yz⟩ := blk5 gp
      clear gp
      have gp := V.out.at 6 rfl
      obtain ⟨⟨za, zb, zc, zd, ze⟩, -, zz⟩ := blk5 gp
      clear gp
      go_wp2
      obtain ⟨Ts, V, HT_rK, HT_rA, HT_rG, HT_rB⟩ : ∃ Ts, Hid (La w.heap.size w (w4.alloc (.cells #[.int .i64 room, .slice A4 ld.length q4, .int .i64 sent, .int .i64 pad, .bool off] 24)) Ts) ∧ Hid (Ts[5]? = some (fun w' : World => Rk w' (.slice A l.length cap) l)) ∧ Hid (Ts[4]? = some (fun w' : World => Rk w' (.slice A3 ld.length q3) ld)) ∧ Hid (Ts[3]? = some (fun w' : World => Rk w' (.slice B3 lg.length u3) lg)) ∧ Hid (Ts[1]? = some (fun w' : World => Rk w' (.slice A4 ld.length q4) ld)) :=
        ⟨_, V, Lib.hid rfl, Lib.hid rfl, Lib.hid rfl, Lib.hid rfl⟩
      refine wp_region_held_drew (S := fun w' => w'.cell? ⟨w3.heap.size, 0, none⟩ = some (.int .i64 room) ∧ w'.cell? ⟨w3.heap.size, 1, none⟩ = some (.slice A3 ld.length q3) ∧ w'.cell? ⟨w3.heap.size, 2, none⟩ = some (.int .i64 sent) ∧ w'.cell? ⟨w3.heap.size, 3, none⟩ = some (.int .i64 pad) ∧ w'.cell? ⟨w3.heap.size, 4, none⟩ = some (.bool off) ∧ w'.cell? ⟨w4.heap.size, 0, none⟩ = some (.int .i64 room) ∧ w'.cell? ⟨w4.heap.size, 1, none⟩ = some (.slice A4 ld.length q4) ∧ w'.cell? ⟨w4.heap.size, 2, none⟩ = some (.int .i64 sent) ∧ w'.cell? ⟨w4.heap.size, 3, none⟩ = some (.int .i64 pad) ∧ w'.cell? ⟨w4.heap.size, 4, none⟩ = some (.bool off) ∧ w'.cell? ⟨w.heap.size, 0, none⟩ = some (.int .i64 room) ∧ w'.cell? ⟨w.heap.size, 1, none⟩ = some (.slice A l.length cap) ∧ w'.cell? ⟨w.heap.size, 2, none⟩ = some (.int .i64 sent) ∧ w'.cell? ⟨w.heap.size, 3, none⟩ = some (.int .i64 pad) ∧ w'.cell? ⟨w.heap.size, 4, none⟩ = some (.bool off) ∧ La w.heap.size w w' Ts) (by kernel_rfl) (by exact ⟨by go_keep, by go_keep, by go_keep, by go_keep, by go_keep, by go_keep, by go_keep, by go_keep, by go_keep, by go_keep, by go_keep, by go_keep, by go_keep, by go_keep, by go_keep, La.drew V.out⟩) (fun hHeld => ?_)
      refine wpAnyH_ready (rs := [0]) (by kernel_rfl) (by simp) ?_
      refine AllReadyH.cons rfl (fun K hK => ?_) AllReadyH.nil
      go_simp
      go_at_call 15; refine (linked_any _ (F.below hHeld.2.2.2.2.2.2.2.2.2.2.2.2.2.2.2.below)).mono ?_; rintro e w' ⟨rfl, hb⟩
      refine hK.out _ _ (by exact keepL15 hb hHeld) (fun hHeld2 => ?_)
      clear hK K hHeld
      have hHeld := hHeld2
      clear hHeld2
      (try simp only [Act.put, List.setIfInBounds_toArray, List.set_cons_zero, List.set_cons_succ])
      refine held_take (i := 1) (d := (some 39)) (v := ?_) rfl rfl (by kernel_rfl) (by kernel_rfl) (by kernel_rfl) (fun _ _ _ h => h) (by rfl) ?_ (by assumption) ?_
      rotate_left
      · (intro w hSw; (try dsimp only at hSw); go_simp; try with_reducible rfl)
      (try simp only [Act.put, List.setIfInBounds_toArray, List.set_cons_zero, List.set_cons_succ])
      refine held_take (i := 2) (d := (some 40)) (v := ?_) rfl rfl (by kernel_rfl) (by kernel_rfl) (by kernel_rfl) (fun _ _ _ h => h) (by rfl) ?_ (by assumption) ?_
      rotate_left
      · (intro w hSw; (try dsimp only at hSw); go_simp; try with_reducible rfl)
      (try simp only [Act.put, List.setIfInBounds_toArray, List.set_cons_zero, List.set_cons_succ])
      refine held_take (i := 4) (d := (some 42)) (v := ?_) rfl rfl (by kernel_rfl) (by kernel_rfl) (by kernel_rfl) (fun _ _ _ h => h) (by rfl) ?_ (by assumption) ?_
      rotate_left
      · (intro w hSw; (try dsimp only at hSw); go_simp; try with_reducible rfl)
      (try simp only [Act.put, List.setIfInBounds_toArray, List.set_cons_zero, List.set_cons_succ])
      refine held_take (i := 7) (d := (some 45)) (v := ?_) rfl rfl (by kernel_rfl) (by kernel_rfl) (by kernel_rfl) (fun _ _ _ h => h) (by rfl) ?_ (by assumption) ?_
      rotate_left
      · (intro w hSw; (try dsimp only at hSw); go_simp; try with_reducible rfl)
      (try simp only [Act.put, List.setIfInBounds_toArray, List.set_cons_zero, List.set_cons_succ])
      refine wpAnyH_ready (rs := [3]) (by kernel_rfl) (by simp) ?_
      refine AllReadyH.cons rfl (fun K hK => ?_) AllReadyH.nil
      go_simp
      go_at_call 19; refine (lrest_any room sent pad off ld A3 q3 _ (F.below hHeld.2.2.2.2.2.2.2.2.2.2.2.2.2.2.2.below) (hHeld.2.2.2.2.2.2.2.2.2.2.2.2.2.2.2.at _ HT_rA.out) hl1).mono ?_; rintro e w' ⟨rfl, hb⟩; rw [← HRA.out]
      refine hK.out _ _ (by exact keepL15 hb hHeld) (fun hHeld2 => ?_)
      clear hK K hHeld
      have hHeld := hHeld2
      clear hHeld2
      (try simp only [Act.put, List.setIfInBounds_toArray, List.set_cons_zero, List.set_cons_succ])
      refine wpAnyH_ready (rs := [5]) (by kernel_rfl) (by simp) ?_
      refine AllReadyH.cons rfl (fun K hK => ?_) AllReadyH.nil
      go_simp
      go_at_call 30; refine (rbytes_any (.slice B3 lg.length u3) lg _ (Rk.rw (hHeld.2.2.2.2.2.2.2.2.2.2.2.2.2.2.2.at _ HT_rG.out)) hl3').mono ?_; rintro e w' ⟨rfl, hb⟩; rw [← HBG.out]
      refine hK.out _ _ (by exact keepL15 hb hHeld) (fun hHeld2 => ?_)
      clear hK K hHeld
      have hHeld := hHeld2
      clear hHeld2
      (try simp only [Act.put, List.setIfInBounds_toArray, List.set_cons_zero, List.set_cons_succ])
      refine held_take (i := 6) (d := (some 44)) (v := ?_) rfl rfl (by kernel_rfl) (by kernel_rfl) (by kernel_rfl) (fun _ _ _ h => h) (by rfl) ?_ (by assumption) ?_
      rotate_left
      · (intro w hSw; (try dsimp only at hSw); go_simp; try with_reducible rfl)
      (try simp only [Act.put, List.setIfInBounds_toArray, List.set_cons_zero, List.set_cons_succ])
      refine wpAnyH_ready (rs := [8]) (by kernel_rfl) (by simp) ?_
      refine AllReadyH.cons rfl (fun K hK => ?_) AllReadyH.nil
      go_simp
      go_at_call 19; refine (lrest_any room sent pad off l A cap _ (F.below hHeld.2.2.2.2.2.2.2.2.2.2.2.2.2.2.2.below) (hHeld.2.2.2.2.2.2.2.2.2.2.2.2.2.2.2.at _ HT_rK.out) hl2).mono ?_; rintro e w' ⟨rfl, hb⟩; rw [← HRK.out]
      refine hK.out _ _ (by exact keepL15 hb hHeld) (fun hHeld2 => ?_)
      clear hK K hHeld
      have hHeld := hHeld2
      clear hHeld2
      (try simp only [Act.put, List.setIfInBounds_toArray, List.set_cons_zero, List.set_cons_succ])
      refine held_take (i := 9) (d := (some 47)) (v := ?_) rfl rfl (by kernel_rfl) (by kernel_rfl) (by kernel_rfl) (fun _ _ _ h => h) (by rfl) ?_ (by assumption) ?_
      rotate_left
      · (intro w hSw; (try dsimp only at hSw); go_simp; try with_reducible rfl)
      (try simp only [Act.put, List.setIfInBounds_toArray, List.set_cons_zero, List.set_cons_succ])
      refine held_take (i := 10) (d := (some 48)) (v := ?_) rfl rfl (by kernel_rfl) (by kernel_rfl) (by kernel_rfl) (fun _ _ _ h => h) (by rfl) ?_ (by assumption) ?_
      rotate_left
      · (intro w hSw; (try dsimp only at hSw); go_simp; try with_reducible rfl)
      (try simp only [Act.put, List.setIfInBounds_toArray, List.set_cons_zero, List.set_cons_succ])
      refine held_take (i := 11) (d := (some 49)) (v := ?_) rfl rfl (by kernel_rfl) (by kernel_rfl) (by kernel_rfl) (fun _ _ _ h => h) (by rfl) ?_ (by assumption) ?_
      rotate_left
      · (intro w hSw; (try dsimp only at hSw); go_simp; try with_reducible rfl)
      (try simp only [Act.put, List.setIfInBounds_toArray, List.set_cons_zero, List.set_cons_succ])
      refine held_take (i := 12) (d := (some 50)) (v := ?_) rfl rfl (by kernel_rfl) (by kernel_rfl) (by kernel_rfl) (fun _ _ _ h => h) (by rfl) ?_ (by assumption) ?_
      rotate_left
      · (intro w hSw; (try dsimp only at hSw); go_simp; try with_reducible rfl)
      (try simp only [Act.put, List.setIfInBounds_toArray, List.set_cons_zero, List.set_cons_succ])
      refine held_take (i := 13) (d := (some 51)) (v := ?_) rfl rfl (by kernel_rfl) (by kernel_rfl) (by kernel_rfl) (fun _ _ _ h => h) (by rfl) ?_ (by assumption) ?_
      rotate_left
      · (intro w hSw; (try dsimp only at hSw); go_simp; try with_reducible rfl)
      (try simp only [Act.put, List.setIfInBounds_toArray, List.set_cons_zero, List.set_cons_succ])
      refine wpAnyH_ready (rs := [14]) (by kernel_rfl) (by simp) ?_
      refine AllReadyH.cons rfl (fun K hK => ?_) AllReadyH.nil
      go_simp
      go_at_call 32; refine (vcost_any (.slice A3 ld.length q3) ld _ (F.below hHeld.2.2.2.2.2.2.2.2.2.2.2.2.2.2.2.below) (Rk.rw (hHeld.2.2.2.2.2.2.2.2.2.2.2.2.2.2.2.at _ HT_rA.out)) hl1).mono ?_; rintro e w' ⟨rfl, hb⟩; rw [← HCZ.out]
      refine hK.out _ _ (by exact keepL15 hb hHeld) (fun hHeld2 => ?_)
      clear hK K hHeld
      have hHeld := hHeld2
      clear hHeld2
      (try simp only [Act.put, List.setIfInBounds_toArray, List.set_cons_zero, List.set_cons_succ])
      refine held_take (i := 15) (d := (some 53)) (v := ?_) rfl rfl (by kernel_rfl) (by kernel_rfl) (by kernel_rfl) (fun _ _ _ h => h) (by rfl) ?_ (by assumption) ?_
      rotate_left
      · (intro w hSw; (try dsimp only at hSw); go_simp; try with_reducible rfl)
      (try simp only [Act.put, List.setIfInBounds_toArray, List.set_cons_zero, List.set_cons_succ])
      refine held_take (i := 16) (d := (some 54)) (v := ?_) rfl rfl (by kernel_rfl) (by kernel_rfl) (by kernel_rfl) (fun _ _ _ h => h) (by rfl) ?_ (by assumption) ?_
      rotate_left
      · (intro w hSw; (try dsimp only at hSw); go_simp; try with_reducible rfl)
      (try simp only [Act.put, List.setIfInBounds_toArray, List.set_cons_zero, List.set_cons_succ])
      refine held_take (i := 17) (d := (some 55)) (v := ?_) rfl rfl (by kernel_rfl) (by kernel_rfl) (by kernel_rfl) (fun _ _ _ h => h) (by rfl) ?_ (by assumption) ?_
      rotate_left
      · (intro w hSw; (try dsimp only at hSw); go_simp; try with_reducible rfl)
      (try simp only [Act.put, List.setIfInBounds_toArray, List.set_cons_zero, List.set_cons_succ])
      refine held_take (i := 18) (d := (some 56)) (v := ?_) rfl rfl (by kernel_rfl) (by kernel_rfl) (by kernel_rfl) (fun _ _ _ h => h) (by rfl) ?_ (by assumption) ?_
      rotate_left
      · (intro w hSw; (try dsimp only at hSw); go_simp; try with_reducible rfl)
      (try simp only [Act.put, List.setIfInBounds_toArray, List.set_cons_zero, List.set_cons_succ])
      refine held_take (i := 19) (d := (some 57)) (v := ?_) rfl rfl (by kernel_rfl) (by kernel_rfl) (by kernel_rfl) (fun _ _ _ h => h) (by rfl) ?_ (by assumption) ?_
      rotate_left
      · (intro w hSw; (try dsimp only at hSw); go_simp; try with_reducible rfl)
      (try simp only [Act.put, List.setIfInBounds_toArray, List.set_cons_zero, List.set_cons_succ])
      refine held_take (i := 20) (d := (some 58)) (v := ?_) rfl rfl (by kernel_rfl) (by kernel_rfl) (by kernel_rfl) (fun _ _ _ h => h) (by rfl) ?_ (by assumption) ?_
      rotate_left
      · (intro w hSw; (try dsimp only at hSw); go_simp; try with_reducible rfl)
      (try simp only [Act.put, List.setIfInBounds_toArray, List.set_cons_zero, List.set_cons_succ])
      refine held_take (i := 21) (d := (some 59)) (v := ?_) rfl rfl (by kernel_rfl) (by kernel_rfl) (by kernel_rfl) (fun _ _ _ h => h) (by rfl) ?_ (by assumption) ?_
      rotate_left
      · (intro w hSw; (try dsimp only at hSw); go_simp; try with_reducible rfl)
      (try simp only [Act.put, List.setIfInBounds_toArray, List.set_cons_zero, List.set_cons_succ])
      refine held_take (i := 22) (d := (some 60)) (v := ?_) rfl rfl (by kernel_rfl) (by kernel_rfl) (by kernel_rfl) (fun _ _ _ h => h) (by rfl) ?_ (by assumption) ?_
      rotate_left
      · (intro w hSw; (try dsimp only at hSw); go_simp; try with_reducible rfl)
      (try simp only [Act.put, List.setIfInBounds_toArray, List.set_cons_zero, List.set_cons_succ])
      refine held_take (i := 23) (d := (some 61)) (v := ?_) rfl rfl (by kernel_rfl) (by kernel_rfl) (by kernel_rfl) (fun _ _ _ h => h) (by rfl) ?_ (by assumption) ?_
      rotate_left
      · (intro w hSw; (try dsimp only at hSw); go_simp; try with_reducible rfl)
      (try simp only [Act.put, List.setIfInBounds_toArray, List.set_cons_zero, List.set_cons_succ])
      refine held_take (i := 24) (d := (some 62)) (v := ?_) rfl rfl (by kernel_rfl) (by kernel_rfl) (by kernel_rfl) (fun _ _ _ h => h) (by rfl) ?_ (by assumption) ?_
      rotate_left
      · (intro w hSw; (try dsimp only at hSw); go_simp; try with_reducible rfl)
      (try simp only [Act.put, List.setIfInBounds_toArray, List.set_cons_zero, List.set_cons_succ])
      refine wpAnyH_ready (rs := [25]) (by kernel_rfl) (by simp) ?_
      refine AllReadyH.cons rfl (fun K hK => ?_) AllReadyH.nil
      go_simp
      go_at_call 16; refine (lksame_any room sent pad room sent pad off off ld ld A3 A4 q3 q4 _ (hHeld.2.2.2.2.2.2.2.2.2.2.2.2.2.2.2.at _ HT_rA.out) (hHeld.2.2.2.2.2.2.2.2.2.2.2.2.2.2.2.at _ HT_rB.out) hl1 hl1).mono ?_; rintro e w' ⟨rfl, hb⟩; rw [decide_eq_true rfl]
      refine hK.out _ _ (by exact keepL15 hb hHeld) (fun hHeld2 => ?_)
      clear hK K hHeld
      have hHeld := hHeld2
      clear hHeld2
      (try simp only [Act.put, List.setIfInBounds_toArray, List.set_cons_zero, List.set_cons_succ])
      refine held_take (i := 26) (d := (some 64)) (v := ?_) rfl rfl (by kernel_rfl) (by kernel_rfl) (by kernel_rfl) (fun _ _ _ h => h) (by rfl) ?_ (by assumption) ?_
      rotate_left
      · (intro w hSw; (try dsimp only at hSw); go_simp; try with_reducible rfl)
      (try simp only [Act.put, List.setIfInBounds_toArray, List.set_cons_zero, List.set_cons_succ])
      refine held_take (i := 27) (d := (some 65)) (v := ?_) rfl rfl (by kernel_rfl) (by kernel_rfl) (by kernel_rfl) (fun _ _ _ h => h) (by rfl) ?_ (by assumption) ?_
      rotate_left
      · (intro w hSw; (try dsimp only at hSw); go_simp; try with_reducible rfl)
      (try simp only [Act.put, List.setIfInBounds_toArray, List.set_cons_zero, List.set_cons_succ])
      refine held_take (i := 28) (d := (some 66)) (v := ?_) rfl rfl (by kernel_rfl) (by kernel_rfl) (by kernel_rfl) (fun _ _ _ h => h) (by rfl) ?_ (by assumption) ?_
      rotate_left
      · (intro w hSw; (try dsimp only at hSw); go_simp; try with_reducible rfl)
      (try simp only [Act.put, List.setIfInBounds_toArray, List.set_cons_zero, List.set_cons_succ])
      refine held_take (i := 29) (d := (some 67)) (v := ?_) rfl rfl (by kernel_rfl) (by kernel_rfl) (by kernel_rfl) (fun _ _ _ h => h) (by rfl) ?_ (by assumption) ?_
      rotate_left
      · (intro w hSw; (try dsimp only at hSw); go_simp; try with_reducible rfl)
      (try simp only [Act.put, List.setIfInBounds_toArray, List.set_cons_zero, List.set_cons_succ])
      refine held_take (i := 30) (d := (some 68)) (v := ?_) rfl rfl (by kernel_rfl) (by kernel_rfl) (by kernel_rfl) (fun _ _ _ h => h) (by rfl) ?_ (by assumption) ?_
      rotate_left
      · (intro w hSw; (try dsimp only at hSw); go_simp; try with_reducible rfl)
      (try simp only [Act.put, List.setIfInBounds_toArray, List.set_cons_zero, List.set_cons_succ])
      refine held_take (i := 31) (d := (some 69)) (v := ?_) rfl rfl (by kernel_rfl) (by kernel_rfl) (by kernel_rfl) (fun _ _ _ h => h) (by rfl) ?_ (by assumption) ?_
      rotate_left
      · (intro w hSw; (try dsimp only at hSw); go_simp; try with_reducible rfl)
      (try simp only [Act.put, List.setIfInBounds_toArray, List.set_cons_zero, List.set_cons_succ])
      refine held_take (i := 32) (d := (some 70)) (v := ?_) rfl rfl (by kernel_rfl) (by kernel_rfl) (by kernel_rfl) (fun _ _ _ h => h) (by rfl) ?_ (by assumption) ?_
      rotate_left
      · (intro w hSw; (try dsimp only at hSw); go_simp; try with_reducible rfl)
      (try simp only [Act.put, List.setIfInBounds_toArray, List.set_cons_zero, List.set_cons_succ])
      refine wpAnyH_ready (rs := [33]) (by kernel_rfl) (by simp) ?_
      refine AllReadyH.cons rfl (fun K hK => ?_) AllReadyH.nil
      go_simp
      go_at_call 19; refine (lrest_any room sent pad off ld A3 q3 _ (F.below hHeld.2.2.2.2.2.2.2.2.2.2.2.2.2.2.2.below) (hHeld.2.2.2.2.2.2.2.2.2.2.2.2.2.2.2.at _ HT_rA.out) hl1).mono ?_; rintro e w' ⟨rfl, hb⟩; rw [← HRA.out]
      refine hK.out _ _ (by exact keepL15 hb hHeld) (fun hHeld2 => ?_)
      clear hK K hHeld
      have hHeld := hHeld2
      clear hHeld2
      (try simp only [Act.put, List.setIfInBounds_toArray, List.set_cons_zero, List.set_cons_succ])
      refine held_take (i := 34) (d := (some 72)) (v := ?_) rfl rfl (by kernel_rfl) (by kernel_rfl) (by kernel_rfl) (fun _ _ _ h => h) (by rfl) ?_ (by assumption) ?_
      rotate_left
      · (intro w hSw; (try dsimp only at hSw); go_simp; try with_reducible rfl)
      (try simp only [Act.put, List.setIfInBounds_toArray, List.set_cons_zero, List.set_cons_succ])
      refine held_take (i := 35) (d := (some 73)) (v := ?_) rfl rfl (by kernel_rfl) (by kernel_rfl) (by kernel_rfl) (fun _ _ _ h => h) (by rfl) ?_ (by assumption) ?_
      rotate_left
      · (intro w hSw; (try dsimp only at hSw); go_simp; try with_reducible rfl)
      (try simp only [Act.put, List.setIfInBounds_toArray, List.set_cons_zero, List.set_cons_succ])
      refine held_take (i := 36) (d := (some 74)) (v := ?_) rfl rfl (by kernel_rfl) (by kernel_rfl) (by kernel_rfl) (fun _ _ _ h => h) (by rfl) ?_ (by assumption) ?_
      rotate_left
      · (intro w hSw; (try dsimp only at hSw); go_simp; try with_reducible rfl)
      (try simp only [Act.put, List.setIfInBounds_toArray, List.set_cons_zero, List.set_cons_succ])
      refine held_take (i := 37) (d := (some 2)) (v := ?_) rfl rfl (by kernel_rfl) (by kernel_rfl) (by kernel_rfl) (fun _ _ _ h => h) (by rfl) ?_ (by assumption) ?_
      rotate_left
      · (intro w hSw; (try dsimp only at hSw); go_simp; try with_reducible rfl)
      (try simp only [Act.put, List.setIfInBounds_toArray, List.set_cons_zero, List.set_cons_succ])
      refine wpAnyH_done (by kernel_rfl) ?_ _
      go_wp2
      go_ret
      exact ⟨by simp, hHeld.2.2.2.2.2.2.2.2.2.2.2.2.2.2.2.below⟩
end Go.Proofs.YtgpebdoafblacaaDoor
