/- Links: the reference's Send. -/
import Derived.Test.YtgpebdoafblacaaDoorLkO
import Derived.Test.YtgpebdoafblacaaDoorLkR
import Derived.Test.YtgpebdoafblacaaDoorLkS
import Derived.Test.YtgpebdoafblacaaDoorLkN
import Derived.BigGuardPart
import Derived.BigQuiet
import Derived.Deep.QuietTactic
import Derived.Deep.RegionHeld3
import Derived.Deep.Cut
import Derived.Deep.LoopGhost
set_option linter.unusedVariables false
namespace Go.Proofs.YtgpebdoafblacaaDoor
open Go.RowKit Go.PlainAid Gl L Vt Lk
/-- The reference's Send, on its way. -/
structure SrI (W wr : World) (n : Nat) (room s pad : Int) (off : Bool) (l : List Cmd) (A : Option Addr) (c : Nat) : Prop where
  row : Rk W (.slice A l.length c) l
  box : wr.heap[W.heap.size]? = some (.cells #[.int .i64 room, .slice A l.length c, .int .i64 s, .int .i64 pad, .bool off] 24 (0, 0))
  res : wr.heap[W.heap.size + 1]? = some (.cells #[.int .i64 0, .slice none 0 0, .int .i64 0, .int .i64 0, .bool false] 24 (0, 0))
  below : Below W.heap.size W wr
theorem SrI.call {W wr w' : World} {n : Nat} {room s pad : Int} {off : Bool} {l : List Cmd} {A : Option Addr} {c : Nat} (h : SrI W wr n room s pad off l A c) (hb : Below wr.heap.size wr w') : SrI W w' n room s pad off l A c :=
  ⟨h.row, carry hb h.box, carry hb h.res, h.below.trans (hb.mono h.below.size)⟩
set_option maxRecDepth 100000 in
set_option maxHeartbeats 8000000 in
theorem rlsend_any (room sent pad : Int) (off : Bool) (g : Int) (hgb : -9223372036854775808 ≤ g ∧ g ≤ 9223372036854775807) (l : List Cmd) (A : Option Addr) (cap : Nat) (w : World) (hr : Rk w (.slice A l.length cap) l) (hl : l.length ≤ 100000) :
    Calls Tryd.prog 22 #[.agg #[.int .i64 room, .slice A l.length cap, .int .i64 sent, .int .i64 pad, .bool off], .int .i64 g] w fun e w' => (∃ A' c', e = .returned (.tuple #[.string (sd ⟨room, l, sent, pad, off⟩ g).1, .agg #[.int .i64 room, .slice A' (sd ⟨room, l, sent, pad, off⟩ g).2.l.length c', .int .i64 (sd ⟨room, l, sent, pad, off⟩ g).2.sent, .int .i64 (sd ⟨room, l, sent, pad, off⟩ g).2.pad, .bool off]]) ∧ Rk w (.slice A' (sd ⟨room, l, sent, pad, off⟩ g).2.l.length c') (sd ⟨room, l, sent, pad, off⟩ g).2.l) ∧ Below w.heap.size w w' := by
  have V := Lib.hid (((La.start w).box #[.int .i64 room, .slice A l.length cap, .int .i64 sent, .int .i64 pad, .bool off] 24).box #[.int .i64 0, .slice none 0 0, .int .i64 0, .int .i64 0, .bool false] 24)
  have hI := Lib.hid (ris9_any room sent pad off l A cap _ (hr.below V.out.below) hl)
  have HR := Lib.hid hr
  clear hr
  by_cases hk : rt ⟨room, l, sent, pad, off⟩ ∧ off = false
  case neg =>
    have hsd : Hid (sd ⟨room, l, sent, pad, off⟩ g = (⟨#[]⟩, ⟨room, l, sent, pad, off⟩)) := Lib.hid (if_neg hk)
    have hcase : decide (rt ⟨room, l, sent, pad, off⟩) = false ∨ (decide (rt ⟨room, l, sent, pad, off⟩) = true ∧ off = true) := by
      by_cases h1 : rt ⟨room, l, sent, pad, off⟩
      · exact .inr ⟨decide_eq_true h1, by cases off with | true => rfl | false => exact absurd ⟨h1, rfl⟩ hk⟩
      · exact .inl (decide_eq_false h1)
    clear hk
    rcases hcase with h1 | ⟨h1, h2⟩
    · rw [h1] at hI
      clear h1
      go_enter Tryd.func22, Tryd.ntmps22
      go_wp2_with fail
      refine hI.out.mono ?_
      rintro e w1 ⟨rfl, hb⟩
      replace V := Lib.hid (V.out.call hb)
      clear hb hI
      have g0 := V.out.at 0 rfl
      have g1 := V.out.at 1 rfl
      rw [one_size] at g0
      obtain ⟨⟨c0, c1, c2, c3, c4⟩, ⟨f0, f1, f2, f3, f4⟩, hz⟩ := blk5 g1
      obtain ⟨⟨d0, d1, d2, d3, d4⟩, ⟨k0, k1, k2, k3, k4⟩, hz2⟩ := blk5 g0
      clear g0 g1
      have HFN := Lib.hid (hsd.out)
      go_wp2
      refine region_lastT 3 (fun w' => w'.cell? ⟨w.heap.size, 0, none⟩ = some (.int .i64 room) ∧ w'.cell? ⟨w.heap.size, 1, none⟩ = some (.slice A l.length cap) ∧ w'.cell? ⟨w.heap.size, 2, none⟩ = some (.int .i64 sent) ∧ w'.cell? ⟨w.heap.size, 3, none⟩ = some (.int .i64 pad) ∧ w'.cell? ⟨w.heap.size, 4, none⟩ = some (.bool off)) (by kernel_rfl) (by exact ⟨by go_keep, by go_keep, by go_keep, by go_keep, by go_keep⟩) (fun hHeld => ?_)
      refine lastT_take (i := 0) (d := (some 15)) (v := ?_) rfl rfl (by kernel_rfl) (by kernel_rfl) (by kernel_rfl) (by kernel_rfl) (fun _ _ _ h => h) (by rfl) ?_ (by assumption) ?_
      rotate_left
      · (intro w hSw; (try dsimp only at hSw); go_simp; try with_reducible rfl)
      (try simp only [Act.put, List.setIfInBounds_toArray, List.set_cons_zero, List.set_cons_succ])
      refine lastT_take (i := 1) (d := (some 16)) (v := ?_) rfl rfl (by kernel_rfl) (by kernel_rfl) (by kernel_rfl) (by kernel_rfl) (fun _ _ _ h => h) (by rfl) ?_ (by assumption) ?_
      rotate_left
      · (intro w hSw; (try dsimp only at hSw); go_simp; try with_reducible rfl)
      (try simp only [Act.put, List.setIfInBounds_toArray, List.set_cons_zero, List.set_cons_succ])
      refine lastT_take (i := 2) (d := (some 4)) (v := ?_) rfl rfl (by kernel_rfl) (by kernel_rfl) (by kernel_rfl) (by kernel_rfl) (fun _ _ _ h => h) (by rfl) ?_ (by assumption) ?_
      rotate_left
      · (intro w hSw; (try dsimp only at hSw); go_simp; try with_reducible rfl)
      (try simp only [Act.put, List.setIfInBounds_toArray, List.set_cons_zero, List.set_cons_succ])
      refine lastT_last (T := 3) rfl (by kernel_rfl) (by kernel_rfl) (by kernel_rfl) (fun K hK => ?_) _
      go_simp
      refine hK.out _ _ ?_
      go_wp2
      refine bodyPost_ret (v := .tuple #[.string ⟨#[]⟩, .agg #[.int .i64 room, .slice A l.length cap, .int .i64 sent, .int .i64 pad, .bool off]]) (by simp [results, Tryd.results22, go_sem, *]) rfl (and_below ?_ fun hB => ?_)
      · (repeat (first | (with_reducible exact V.out.below) | refine Below.setCell ?_ (by simp <;> omega) _ | refine Below.drew ?_))
      · exact ⟨A, cap, by (rw [HFN.out] <;> rfl), by rw [HFN.out]; exact HR.out⟩
    · rw [h1] at hI
      subst h2
      clear h1
      go_enter Tryd.func22, Tryd.ntmps22
      go_wp2_with fail
      refine hI.out.mono ?_
      rintro e w1 ⟨rfl, hb⟩
      replace V := Lib.hid (V.out.call hb)
      clear hb hI
      have g0 := V.out.at 0 rfl
      have g1 := V.out.at 1 rfl
      rw [one_size] at g0
      obtain ⟨⟨c0, c1, c2, c3, c4⟩, ⟨f0, f1, f2, f3, f4⟩, hz⟩ := blk5 g1
      obtain ⟨⟨d0, d1, d2, d3, d4⟩, ⟨k0, k1, k2, k3, k4⟩, hz2⟩ := blk5 g0
      clear g0 g1
      have HFN := Lib.hid (hsd.out)
      go_wp2
      refine region_lastT 3 (fun w' => w'.cell? ⟨w.heap.size, 0, none⟩ = some (.int .i64 room) ∧ w'.cell? ⟨w.heap.size, 1, none⟩ = some (.slice A l.length cap) ∧ w'.cell? ⟨w.heap.size, 2, none⟩ = some (.int .i64 sent) ∧ w'.cell? ⟨w.heap.size, 3, none⟩ = some (.int .i64 pad) ∧ w'.cell? ⟨w.heap.size, 4, none⟩ = some (.bool true)) (by kernel_rfl) (by exact ⟨by go_keep, by go_keep, by go_keep, by go_keep, by go_keep⟩) (fun hHeld => ?_)
      refine lastT_take (i := 0) (d := (some 15)) (v := ?_) rfl rfl (by kernel_rfl) (by kernel_rfl) (by kernel_rfl) (by kernel_rfl) (fun _ _ _ h => h) (by rfl) ?_ (by assumption) ?_
      rotate_left
      · (intro w hSw; (try dsimp only at hSw); go_simp; try with_reducible rfl)
      (try simp only [Act.put, List.setIfInBounds_toArray, List.set_cons_zero, List.set_cons_succ])
      refine lastT_take (i := 1) (d := (some 16)) (v := ?_) rfl rfl (by kernel_rfl) (by kernel_rfl) (by kernel_rfl) (by kernel_rfl) (fun _ _ _ h => h) (by rfl) ?_ (by assumption) ?_
      rotate_left
      · (intro w hSw; (try dsimp only at hSw); go_simp; try with_reducible rfl)
      (try simp only [Act.put, List.setIfInBounds_toArray, List.set_cons_zero, List.set_cons_succ])
      refine lastT_take (i := 2) (d := (some 4)) (v := ?_) rfl rfl (by kernel_rfl) (by kernel_rfl) (by kernel_rfl) (by kernel_rfl) (fun _ _ _ h => h) (by rfl) ?_ (by assumption) ?_
      rotate_left
      · (intro w hSw; (try dsimp only at hSw); go_simp; try with_reducible rfl)
      (try simp only [Act.put, List.setIfInBounds_toArray, List.set_cons_zero, List.set_cons_succ])
      refine lastT_last (T := 3) rfl (by kernel_rfl) (by kernel_rfl) (by kernel_rfl) (fun K hK => ?_) _
      go_simp
      refine hK.out _ _ ?_
      go_wp2
      refine bodyPost_ret (v := .tuple #[.string ⟨#[]⟩, .agg #[.int .i64 room, .slice A l.length cap, .int .i64 sent, .int .i64 pad, .bool true]]) (by simp [results, Tryd.results22, go_sem, *]) rfl (and_below ?_ fun hB => ?_)
      · (repeat (first | (with_reducible exact V.out.below) | refine Below.setCell ?_ (by simp <;> omega) _ | refine Below.drew ?_))
      · exact ⟨A, cap, by (rw [HFN.out] <;> rfl), by rw [HFN.out]; exact HR.out⟩
  obtain ⟨hk, rfl⟩ := hk
  rw [decide_eq_true hk] at hI
  rw [show sd ⟨room, l, sent, pad, false⟩ g = sdN g.toNat ⟨room, l, sent, pad, false⟩ from sd_yes hk rfl]
  obtain ⟨G, hG⟩ : ∃ G : Nat, G = g.toNat := ⟨_, rfl⟩
  rw [← hG]
  obtain ⟨kk, hkk⟩ : ∃ kk : Lnk, kk = ⟨room, l, sent, pad, false⟩ := ⟨_, rfl⟩
  rw [← hkk] at hk ⊢
  have HK := Lib.hid hk
  have HKK := Lib.hid hkk
  obtain ⟨M, hM⟩ : ∃ M : Nat, M = (rs kk).size := ⟨_, rfl⟩
  have HM := Lib.hid hM
  have HG := Lib.hid hG
  clear hk hkk hM hG
  go_enter Tryd.func22, Tryd.ntmps22
  go_wp2_with fail
  refine hI.out.mono ?_
  rintro e w1 ⟨rfl, hb⟩
  replace V := Lib.hid (V.out.call hb)
  clear hb hI
  have g0 := V.out.at 0 rfl
  have g1 := V.out.at 1 rfl
  rw [one_size] at g0
  have V0 : Hid (SrI w w1 0 room sent pad false l A cap) := Lib.hid ⟨HR.out, g1, g0, V.out.below⟩
  obtain ⟨⟨c0, c1, c2, c3, c4⟩, ⟨f0, f1, f2, f3, f4⟩, hz⟩ := blk5 g1
  obtain ⟨⟨d0, d1, d2, d3, d4⟩, ⟨k0, k1, k2, k3, k4⟩, hz2⟩ := blk5 g0
  clear g0 g1
  have hM48 : M ≤ 48 := by rw [HM.out]; exact rs_le kk
  have hs0 : 0 ≤ sent := by have := HK.out.2.2.2.2.1; rw [HKK.out] at this; exact this
  go_wp2
  clear c0 c1 c2 c3 c4 f0 f1 f2 f3 f4 d0 d1 d2 d3 d4 k0 k1 k2 k3 k4 hz hz2
  go_loopg [6, 1] G (fun m vs vg wr => ∃ (n : Nat) (bs : ByteArray) (s' pad' : Int) (l' : List Cmd) (A' : Option Addr) (c' : Nat), n + m = G ∧ vs = .string bs ∧ vg = .int .i64 (g - n) ∧ SrI w wr n room s' pad' false l' A' c' ∧ sdN n kk = (bs, ⟨room, l', s', pad', false⟩))
  case atStart => exact ⟨0, ⟨#[]⟩, sent, pad, l, A, cap, by omega, rfl, by simp, V0.out, by rw [HKK.out]; rfl⟩
  case round =>
    obtain ⟨n, bs, s', pad', l', A', c', hnm, rfl, rfl, hI0, hsd⟩ := hrel
    have J := Lib.hid hI0
    have HSD := Lib.hid hsd
    have HNM := Lib.hid hnm
    have hle : n ≤ G := by omega
    clear hI0 hsd hnm
    obtain ⟨⟨c0, c1, c2, c3, c4⟩, ⟨f0, f1, f2, f3, f4⟩, hz⟩ := blk5 J.out.box
    obtain ⟨⟨d0, d1, d2, d3, d4⟩, ⟨k0, k1, k2, k3, k4⟩, hz2⟩ := blk5 J.out.res
    cases l' with
    | nil =>
      have HFN := Lib.hid (sd_stop n G kk _ _ HSD.out hle (.inl rfl))
      go_wp2
      refine region_lastT 3 (fun w' => w'.cell? ⟨w.heap.size, 0, none⟩ = some (.int .i64 room) ∧ w'.cell? ⟨w.heap.size, 1, none⟩ = some (.slice A' 0 c') ∧ w'.cell? ⟨w.heap.size, 2, none⟩ = some (.int .i64 s') ∧ w'.cell? ⟨w.heap.size, 3, none⟩ = some (.int .i64 pad') ∧ w'.cell? ⟨w.heap.size, 4, none⟩ = some (.bool false)) (by kernel_rfl) (by exact ⟨by go_keep, by go_keep, by go_keep, by go_keep, by go_keep⟩) (fun hHeld => ?_)
      refine lastT_take (i := 0) (d := (some 64)) (v := ?_) rfl rfl (by kernel_rfl) (by kernel_rfl) (by kernel_rfl) (by kernel_rfl) (fun _ _ _ h => h) (by rfl) ?_ (by assumption) ?_
      rotate_left
      · (intro w hSw; (try dsimp only at hSw); go_simp; try with_reducible rfl)
      (try simp only [Act.put, List.setIfInBounds_toArray, List.set_cons_zero, List.set_cons_succ])
      refine lastT_take (i := 1) (d := (some 65)) (v := ?_) rfl rfl (by kernel_rfl) (by kernel_rfl) (by kernel_rfl) (by kernel_rfl) (fun _ _ _ h => h) (by rfl) ?_ (by assumption) ?_
      rotate_left
      · (intro w hSw; (try dsimp only at hSw); go_simp; try with_reducible rfl)
      (try simp only [Act.put, List.setIfInBounds_toArray, List.set_cons_zero, List.set_cons_succ])
      refine lastT_take (i := 2) (d := (some 4)) (v := ?_) rfl rfl (by kernel_rfl) (by kernel_rfl) (by kernel_rfl) (by kernel_rfl) (fun _ _ _ h => h) (by rfl) ?_ (by assumption) ?_
      rotate_left
      · (intro w hSw; (try dsimp only at hSw); go_simp; try with_reducible rfl)
      (try simp only [Act.put, List.setIfInBounds_toArray, List.set_cons_zero, List.set_cons_succ])
      refine lastT_last (T := 3) rfl (by kernel_rfl) (by kernel_rfl) (by kernel_rfl) (fun K hK => ?_) _
      go_simp
      refine hK.out _ _ ?_
      go_wp2
      refine bodyPost_ret (v := .tuple #[.string bs, .agg #[.int .i64 room, .slice A' 0 c', .int .i64 s', .int .i64 pad', .bool false]]) (by simp [results, Tryd.results22, go_sem, *]) rfl (and_below ?_ fun hB => ?_)
      · (repeat (first | (with_reducible exact J.out.below) | refine Below.setCell ?_ (by simp <;> omega) _ | refine Below.drew ?_))
      · exact ⟨A', c', by (rw [HFN.out] <;> rfl), by rw [HFN.out]; exact J.out.row⟩
    | cons c t =>
      by_cases hp : pad' = 0
      case neg =>
        have bp : (pad' == (0 : Int)) = false := by simp [hp]
        have HP := Lib.hid hp
        clear hp
        have HFN := Lib.hid (sd_stop n G kk _ _ HSD.out hle (.inr HP.out))
        go_wp2
        refine region_lastT 3 (fun w' => w'.cell? ⟨w.heap.size, 0, none⟩ = some (.int .i64 room) ∧ w'.cell? ⟨w.heap.size, 1, none⟩ = some (.slice A' (t.length + 1) c') ∧ w'.cell? ⟨w.heap.size, 2, none⟩ = some (.int .i64 s') ∧ w'.cell? ⟨w.heap.size, 3, none⟩ = some (.int .i64 pad') ∧ w'.cell? ⟨w.heap.size, 4, none⟩ = some (.bool false)) (by kernel_rfl) (by exact ⟨by go_keep, by go_keep, by go_keep, by go_keep, by go_keep⟩) (fun hHeld => ?_)
        refine lastT_take (i := 0) (d := (some 64)) (v := ?_) rfl rfl (by kernel_rfl) (by kernel_rfl) (by kernel_rfl) (by kernel_rfl) (fun _ _ _ h => h) (by rfl) ?_ (by assumption) ?_
        rotate_left
        · (intro w hSw; (try dsimp only at hSw); go_simp; try with_reducible rfl)
        (try simp only [Act.put, List.setIfInBounds_toArray, List.set_cons_zero, List.set_cons_succ])
        refine lastT_take (i := 1) (d := (some 65)) (v := ?_) rfl rfl (by kernel_rfl) (by kernel_rfl) (by kernel_rfl) (by kernel_rfl) (fun _ _ _ h => h) (by rfl) ?_ (by assumption) ?_
        rotate_left
        · (intro w hSw; (try dsimp only at hSw); go_simp; try with_reducible rfl)
        (try simp only [Act.put, List.setIfInBounds_toArray, List.set_cons_zero, List.set_cons_succ])
        refine lastT_take (i := 2) (d := (some 4)) (v := ?_) rfl rfl (by kernel_rfl) (by kernel_rfl) (by kernel_rfl) (by kernel_rfl) (fun _ _ _ h => h) (by rfl) ?_ (by assumption) ?_
        rotate_left
        · (intro w hSw; (try dsimp only at hSw); go_simp; try with_reducible rfl)
        (try simp only [Act.put, List.setIfInBounds_toArray, List.set_cons_zero, List.set_cons_succ])
        refine lastT_last (T := 3) rfl (by kernel_rfl) (by kernel_rfl) (by kernel_rfl) (fun K hK => ?_) _
        go_simp
        refine hK.out _ _ ?_
        go_wp2
        refine bodyPost_ret (v := .tuple #[.string bs, .agg #[.int .i64 room, .slice A' (t.length + 1) c', .int .i64 s', .int .i64 pad', .bool false]]) (by simp [results, Tryd.results22, go_sem, *]) rfl (and_below ?_ fun hB => ?_)
        · (repeat (first | (with_reducible exact J.out.below) | refine Below.setCell ?_ (by simp <;> omega) _ | refine Below.drew ?_))
        · exact ⟨A', c', by (rw [HFN.out] <;> rfl), by rw [HFN.out]; exact J.out.row⟩
      subst hp
      by_cases hgr : g - (n : Int) ≤ 0
      · have HNG : Hid (n = G) := Lib.hid (by have := HG.out; omega)
        have hgr' : ¬ (0 < g - (n : Int)) := by omega
        have HFN := Lib.hid (show sdN G kk = (bs, ⟨room, c :: t, s', 0, false⟩) from by rw [← HNG.out, HSD.out])
        go_wp2
        refine region_lastT 3 (fun w' => w'.cell? ⟨w.heap.size, 0, none⟩ = some (.int .i64 room) ∧ w'.cell? ⟨w.heap.size, 1, none⟩ = some (.slice A' (t.length + 1) c') ∧ w'.cell? ⟨w.heap.size, 2, none⟩ = some (.int .i64 s') ∧ w'.cell? ⟨w.heap.size, 3, none⟩ = some (.int .i64 0) ∧ w'.cell? ⟨w.heap.size, 4, none⟩ = some (.bool false)) (by kernel_rfl) (by exact ⟨by go_keep, by go_keep, by go_keep, by go_keep, by go_keep⟩) (fun hHeld => ?_)
        refine lastT_take (i := 0) (d := (some 64)) (v := ?_) rfl rfl (by kernel_rfl) (by kernel_rfl) (by kernel_rfl) (by kernel_rfl) (fun _ _ _ h => h) (by rfl) ?_ (by assumption) ?_
        rotate_left
        · (intro w hSw; (try dsimp only at hSw); go_simp; try with_reducible rfl)
        (try simp only [Act.put, List.setIfInBounds_toArray, List.set_cons_zero, List.set_cons_succ])
        refine lastT_take (i := 1) (d := (some 65)) (v := ?_) rfl rfl (by kernel_rfl) (by kernel_rfl) (by kernel_rfl) (by kernel_rfl) (fun _ _ _ h => h) (by rfl) ?_ (by assumption) ?_
        rotate_left
        · (intro w hSw; (try dsimp only at hSw); go_simp; try with_reducible rfl)
        (try simp only [Act.put, List.setIfInBounds_toArray, List.set_cons_zero, List.set_cons_succ])
        refine lastT_take (i := 2) (d := (some 4)) (v := ?_) rfl rfl (by kernel_rfl) (by kernel_rfl) (by kernel_rfl) (by kernel_rfl) (fun _ _ _ h => h) (by rfl) ?_ (by assumption) ?_
        rotate_left
        · (intro w hSw; (try dsimp only at hSw); go_simp; try with_reducible rfl)
        (try simp only [Act.put, List.setIfInBounds_toArray, List.set_cons_zero, List.set_cons_succ])
        refine lastT_last (T := 3) rfl (by kernel_rfl) (by kernel_rfl) (by kernel_rfl) (fun K hK => ?_) _
        go_simp
        refine hK.out _ _ ?_
        go_wp2
        refine bodyPost_ret (v := .tuple #[.string bs, .agg #[.int .i64 room, .slice A' (t.length + 1) c', .int .i64 s', .int .i64 0, .bool false]]) (by simp [results, Tryd.results22, go_sem, *]) rfl (and_below ?_ fun hB => ?_)
        · (repeat (first | (with_reducible exact J.out.below) | refine Below.setCell ?_ (by simp <;> omega) _ | refine Below.drew ?_))
        · exact ⟨A', c', by (rw [HFN.out] <;> rfl), by rw [HFN.out]; exact J.out.row⟩
      have hgr' : 0 < g - (n : Int) := by omega
      obtain ⟨hrt, -, -, hleft⟩ := sd_left kk HK.out n _ _ HSD.out
      obtain ⟨q1, q2, q3, q4, q5, q6, q7, q8⟩ := (rt_cons rfl).1 hrt
      obtain ⟨ck, ca, cb, cr⟩ := c
      have hn1 := J.out.row.cells.1
      have hcap := J.out.row.cells.2.1
      have h55 := (rt_55 hrt).1
      simp only [List.length_cons] at h55 hn1
      rw [← HM.out, costL_cons] at hleft
      have hcl := costL_bd t
      dsimp only at q5 q7 hleft
      have hcap1 : (1 : Int) ≤ (c' : Int) := by omega
      have h1r := J.out.row.first (by omega : 1 ≤ c')
      have HBY := Lib.hid (fun wz hb => rbytes_any (.slice A' 1 c') [(ck, ca, cb, cr)] wz (h1r.below (w' := wz) hb).rw (by simp))
      have HPA := Lib.hid (fun wz hb => rpads_any (.slice A' 1 c') [(ck, ca, cb, cr)] wz (h1r.below (w' := wz) hb).rw (by simp))
      have hbe : btsL [(ck, ca, cb, cr)] = btC (ck, ca, cb, cr) := by rw [show btsL [(ck, ca, cb, cr)] = btC (ck, ca, cb, cr) ++ ⟨#[]⟩ from rfl, app_nil]
      rw [hbe] at HBY
      rw [padL_sing] at HPA
      obtain ⟨T, hT⟩ : ∃ T, T = btC (ck, ca, cb, cr) := ⟨_, rfl⟩
      have hsz : T.size = szC (ck, ca, cb, cr) := by rw [hT]; rfl
      obtain ⟨z, hz3⟩ : ∃ z : Nat, z = szC (ck, ca, cb, cr) := ⟨_, rfl⟩
      rw [← hT] at HBY
      rw [← hz3] at hsz q7 hleft
      have hz8 : z ≤ 8 := by rw [hz3]; exact szC_le _
      have HT := Lib.hid hT
      have HZ := Lib.hid hz3
      have HSN := Lib.hid (sd_snoc n kk _ bs (ck, ca, cb, cr) t HSD.out rfl rfl)
      clear hT hz3 hbe h1r hn1
      have hbs : (bs.size : Int) ≤ 48 := by omega
      have hi1 := IntWalk.i64_in (s' + 1) (by omega)
      have hrow1 := J.out.row
      go_wp2_with fail
      refine (HBY.out _ J.out.below).mono ?_
      rintro e w2 ⟨rfl, hb⟩
      have J2 := Lib.hid (J.out.call hb)
      clear hb
      clear c0 c1 c2 c3 c4 f0 f1 f2 f3 f4 d0 d1 d2 d3 d4 k0 k1 k2 k3 k4 hz hz2
      obtain ⟨⟨c0, c1, c2, c3, c4⟩, ⟨f0, f1, f2, f3, f4⟩, hz⟩ := blk5 J2.out.box
      obtain ⟨⟨d0, d1, d2, d3, d4⟩, ⟨k0, k1, k2, k3, k4⟩, hz2⟩ := blk5 J2.out.res
      obtain ⟨g', o', rfl, -⟩ := hrow1.cells.2.2
      have HRW := Lib.hid hrow1
      clear hrow1
      have hTz : s' + 1 ≤ (T.size : Int) := by omega
      have hTz2 : s' + 1 ≤ (z : Int) := by omega
      have hle1 : s' ≤ s' + 1 := by omega
      have hTe : (T.extract s'.toNat (s' + 1).toNat).size = 1 := by rw [ByteArray.size_extract]; omega
      have HB1 : Hid (by1 ⟨room, (ck, ca, cb, cr) :: t, s', 0, false⟩ (ck, ca, cb, cr) = T.extract s'.toNat (s' + 1).toNat) := Lib.hid (by
        unfold by1
        rw [← HT.out]
        dsimp only
        congr 1
        omega)
      have hi2 := IntWalk.i64_in (g - (n : Int) - 1) (by omega)
      by_cases hend : s' + 1 = (z : Int)
      · have HON := Lib.hid (show one ⟨room, (ck, ca, cb, cr) :: t, s', 0, false⟩ (ck, ca, cb, cr) t = ⟨room, t, 0, pdC (ck, ca, cb, cr), false⟩ from if_pos (by rw [← HZ.out]; exact hend))
        have hb2 : (s' + 1 == (z : Int)) = true := by simp [hend]
        have HEND := Lib.hid hend
        clear hend
        go_wp2_with fail
        refine (HPA.out _ (J2.out.below.setCell (p := ⟨w.heap.size, 2, none⟩) (by simp) (.int .i64 (s' + 1)))).mono ?_
        rintro e w3 ⟨rfl, hb⟩
        obtain ⟨pd, hpd⟩ : ∃ pd, pd = pdC (ck, ca, cb, cr) := ⟨_, rfl⟩
        rw [← hpd]
        have HPD := Lib.hid hpd
        have G1 := carry hb (setCell_at (o := 2) (u := .int .i64 (s' + 1)) J2.out.box)
        have G2 := carry hb (setCell_ne (k := w.heap.size) (o := 2) (u := .int .i64 (s' + 1)) J2.out.res (by omega))
        have HB3 := Lib.hid ((J2.out.below.setCell (p := ⟨w.heap.size, 2, none⟩) (by simp) (.int .i64 (s' + 1))).trans (hb.mono (J2.out.below.setCell (p := ⟨w.heap.size, 2, none⟩) (by simp) (.int .i64 (s' + 1))).size))
        clear hb hpd
        clear c0 c1 c2 c3 c4 f0 f1 f2 f3 f4 d0 d1 d2 d3 d4 k0 k1 k2 k3 k4 hz hz2
        simp only [List.setIfInBounds_toArray, List.set_cons_zero, List.set_cons_succ] at G1
        have H1 := Lib.hid G1
        have H2 := Lib.hid G2
        obtain ⟨⟨c0, c1, c2, c3, c4⟩, ⟨f0, f1, f2, f3, f4⟩, hz⟩ := blk5 G1
        clear G1 G2
        by_cases hc1 : c' = 1
        · subst hc1
          obtain rfl : t = [] := List.eq_nil_of_length_eq_zero (by omega)
          simp only [List.length_nil, Nat.zero_add] at *
          go_wp2
          go_roundg (G - (n + 1))
          case measure => have := HNM.out; have := HG.out; omega
          case rel =>
            refine ⟨n + 1, bs ++ T.extract s'.toNat (s' + 1).toNat, 0, pd, [], some ⟨g', o', none⟩, 0, by have := HNM.out; have := HG.out; omega, by first | rfl | simp, by go_num, ⟨Rk.nil _ _ _ (by simp), ?_, ?_, ?_⟩, ?_⟩
            · simpa using setCell_at (o := 2) (u := .int .i64 0) (setCell_at (o := 1) (u := .slice (some ⟨g', o', none⟩) 0 0) (setCell_at (o := 3) (u := .int .i64 pd) H1.out))
            · repeat (first | (with_reducible exact H2.out) | refine setCell_ne ?_ (by omega))
            · repeat (first | (with_reducible exact HB3.out) | refine Below.setCell ?_ (by simp <;> omega) _)
            · rw [HSN.out, HB1.out, HON.out, HPD.out]
        · have hc2 : ¬ ((c' : Int) = 1) := by omega
          have hc3 : (1 : Int) < (c' : Int) := by omega
          go_wp2
          go_roundg (G - (n + 1))
          case measure => have := HNM.out; have := HG.out; omega
          case rel =>
            refine ⟨n + 1, bs ++ T.extract s'.toNat (s' + 1).toNat, 0, pd, t, some ⟨g', o' + 4, none⟩, c' - 1, by have := HNM.out; have := HG.out; omega, by first | rfl | simp, by go_num, ⟨HRW.out.tail _ (by omega), ?_, ?_, ?_⟩, ?_⟩
            · simpa using setCell_at (o := 2) (u := .int .i64 0) (setCell_at (o := 1) (u := .slice (some ⟨g', o' + 4, none⟩) t.length (c' - 1)) (setCell_at (o := 3) (u := .int .i64 pd) H1.out))
            · repeat (first | (with_reducible exact H2.out) | refine setCell_ne ?_ (by omega))
            · repeat (first | (with_reducible exact HB3.out) | refine Below.setCell ?_ (by simp <;> omega) _)
            · rw [HSN.out, HB1.out, HON.out, HPD.out]
      · have HON := Lib.hid (show one ⟨room, (ck, ca, cb, cr) :: t, s', 0, false⟩ (ck, ca, cb, cr) t = ⟨room, (ck, ca, cb, cr) :: t, s' + 1, 0, false⟩ from if_neg (by rw [← HZ.out]; exact hend))
        have hb2 : (s' + 1 == (z : Int)) = false := by simp [hend]
        have HEND := Lib.hid hend
        clear hend
        go_wp2
        go_roundg (G - (n + 1))
        case measure => have := HNM.out; have := HG.out; omega
        case rel =>
          refine ⟨n + 1, bs ++ T.extract s'.toNat (s' + 1).toNat, s' + 1, 0, (ck, ca, cb, cr) :: t, some ⟨g', o', none⟩, c', by have := HNM.out; have := HG.out; omega, by first | rfl | simp, by go_num, ⟨HRW.out, ?_, ?_, ?_⟩, ?_⟩
          · simpa using setCell_at (o := 2) (u := .int .i64 (s' + 1)) J2.out.box
          · repeat (first | (with_reducible exact J2.out.res) | refine setCell_ne ?_ (by omega))
          · repeat (first | (with_reducible exact J2.out.below) | refine Below.setCell ?_ (by simp <;> omega) _)
          · rw [HSN.out, HB1.out, HON.out]
end Go.Proofs.YtgpebdoafblacaaDoor
