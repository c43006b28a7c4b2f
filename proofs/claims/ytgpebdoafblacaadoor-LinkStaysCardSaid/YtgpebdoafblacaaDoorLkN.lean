/- Links: the program's Send. -/
import Derived.Test.YtgpebdoafblacaaDoorLkE
import Derived.Test.YtgpebdoafblacaaDoorAnT
import Derived.Test.YtgpebdoafblacaaDoorVtL
import Derived.BigGuardPart
import Derived.BigQuiet
import Derived.Deep.QuietTactic
import Derived.Deep.RegionHeld3
import Derived.Deep.LoopGhost
set_option linter.unusedVariables false
namespace Go.Proofs.YtgpebdoafblacaaDoor
open Go.RowKit Go.PlainAid Gl L Vt Lk
theorem Tryd.info5 : (Tryd.prog.info? 5).map (fun i => (i.zero, i.size, i.bytes)) = some (some (.int .u8 0), 1, 1) := by kernel_rfl
theorem set5_at {w : World} {b : Nat} {a0 a1 a2 a3 a4 x0 x1 x2 x3 x4 : Value} {t : TypeId} (h : w.heap[b]? = some (.cells #[a0, a1, a2, a3, a4] t (0, 0))) :
    (((((w.setCell ⟨b, 0, none⟩ x0).setCell ⟨b, 1, none⟩ x1).setCell ⟨b, 2, none⟩ x2).setCell ⟨b, 3, none⟩ x3).setCell ⟨b, 4, none⟩ x4).heap[b]? = some (.cells #[x0, x1, x2, x3, x4] t (0, 0)) := by
  simpa using setCell_at (o := 4) (u := x4) (setCell_at (o := 3) (u := x3) (setCell_at (o := 2) (u := x2) (setCell_at (o := 1) (u := x1) (setCell_at (o := 0) (u := x0) h))))
theorem by1_bt (c : Cmd) (n : Nat) : (0 : Int) ≤ bt (btC c) n ∧ bt (btC c) n ≤ 255 := ⟨bt_nonneg _ _, bt_le _ _⟩
/-- How long is a slice? -/
def sliceLen : Value → Nat
  | .slice _ n _ => n
  | _ => 0
theorem conv_own {w : World} {B n : Nat} {v : Value} {xs : List Int} (h : w.ownsRow B 5 1 v n (ints .u8 xs)) (hn : xs.length = n) : (convert 54 9 v).run Tryd.prog w = .ok (.string (strOfNums xs)) w := by
  have hr := Rw.of_owns h
  rcases Rw.form h with ⟨rfl, rfl⟩ | ⟨g, cap, rfl, hc⟩
  · have : xs = [] := List.eq_nil_of_length_eq_zero hn
    subst this
    exact run_convert_bytes_nil _ 54 5 Tryd.underlying54 Tryd.underlying5 0 0 9 Tryd.underlying9
  · refine run_convert_bytes_arg _ 54 5 Tryd.underlying54 Tryd.underlying5 g 0 n cap xs hn (fun i hi => ?_) 9 Tryd.underlying9
    have h0 := Rw.nth hr (by omega) i (.int .u8 (xs.getD i 0)) (by
      have hi' : i < xs.length := by omega
      simp [ints, List.getD, hi'])
    exact h0
structure SdI (W wr : World) (G : Nat) (vi : Value) (n : Nat) (xs : List Int) (room s pad : Int) (off : Bool) (l : List Cmd) (A : Option Addr) (c : Nat) : Prop where
  len : xs.length = n
  le : n ≤ G
  own : wr.ownsRow (W.heap.size + 1 + 1) 5 1 vi n (ints .u8 xs)
  row : Rk W (.slice A l.length c) l
  box : wr.heap[W.heap.size]? = some (.cells #[.int .i64 room, .slice A l.length c, .int .i64 s, .int .i64 pad, .bool off] 24 (0, 0))
  res : wr.heap[W.heap.size + 1]? = some (.cells #[.int .i64 0, .slice none 0 0, .int .i64 0, .int .i64 0, .bool false] 24 (0, 0))
  below : Below W.heap.size W wr
theorem SdI.call {W wr w' : World} {G : Nat} {vi : Value} {n : Nat} {xs : List Int} {room s pad : Int} {off : Bool} {l : List Cmd} {A : Option Addr} {c : Nat} (h : SdI W wr G vi n xs room s pad off l A c) (hb : Below wr.heap.size wr w') : SdI W w' G vi n xs room s pad off l A c :=
  ⟨h.len, h.le, ownsRow_below h.own hb, h.row, carry hb h.box, carry hb h.res, h.below.trans (hb.mono h.below.size)⟩
theorem SdI.len_v {W wr : World} {G : Nat} {vi : Value} {n : Nat} {xs : List Int} {room s pad : Int} {off : Bool} {l : List Cmd} {A : Option Addr} {c : Nat} (h : SdI W wr G vi n xs room s pad off l A c) : ∃ o cp, vi = .slice o n cp ∧ sliceLen vi = n := by
  rcases Rw.form h.own with ⟨rfl, rfl⟩ | ⟨g, cap, rfl, hc⟩
  · exact ⟨none, 0, rfl, rfl⟩
  · exact ⟨_, _, rfl, rfl⟩
/-- How many bytes are left, and were there. -/
theorem sd_left (k : Lnk) (h : rt k) (n : Nat) (bs : ByteArray) (k1 : Lnk) (e : sdN n k = (bs, k1)) : rt k1 ∧ k1.off = k.off ∧ k1.room = k.room ∧ ((rs k).size : Int) = bs.size + (costL k1.l - k1.sent) := by
  have h1 := sd_rt n k h
  have h2 := sd_off n k
  have h3 := sd_rs n k h
  rw [e] at h1 h2 h3
  refine ⟨h1, h2.1, h2.2, ?_⟩
  have h4 := rs_size h1
  rw [h3, size_app]
  dsimp only at h4 ⊢
  omega
theorem strOf_len (xs : List Int) : ((strOfNums xs).size : Int) = xs.length := by rw [strOf_size]
set_option maxRecDepth 100000 in
set_option maxHeartbeats 8000000 in
theorem lsend_any (room sent pad : Int) (off : Bool) (g : Int) (l : List Cmd) (A : Option Addr) (cap : Nat) (w : World) (F : Forms w 0) (hr : Rk w (.slice A l.length cap) l) (hl : l.length ≤ 100000) :
    Calls Tryd.prog 21 #[.agg #[.int .i64 room, .slice A l.length cap, .int .i64 sent, .int .i64 pad, .bool off], .int .i64 g] w fun e w' => (∃ A' c', e = .returned (.tuple #[.string (sd ⟨room, l, sent, pad, off⟩ g).1, .agg #[.int .i64 room, .slice A' (sd ⟨room, l, sent, pad, off⟩ g).2.l.length c', .int .i64 (sd ⟨room, l, sent, pad, off⟩ g).2.sent, .int .i64 (sd ⟨room, l, sent, pad, off⟩ g).2.pad, .bool off]]) ∧ Rk w (.slice A' (sd ⟨room, l, sent, pad, off⟩ g).2.l.length c') (sd ⟨room, l, sent, pad, off⟩ g).2.l) ∧ Below w.heap.size w w' := by
  have V := Lib.hid (((La.start w).box #[.int .i64 room, .slice A l.length cap, .int .i64 sent, .int .i64 pad, .bool off] 24).box #[.int .i64 0, .slice none 0 0, .int .i64 0, .int .i64 0, .bool false] 24)
  have hI := Lib.hid (lis_any room sent pad off l A cap _ (F.below V.out.below) (hr.below V.out.below) hl)
  have HR := Lib.hid hr
  have HF := Lib.hid F
  clear F hr
  by_cases hk : rt ⟨room, l, sent, pad, off⟩ ∧ off = false
  case neg =>
    have hsd : sd ⟨room, l, sent, pad, off⟩ g = (⟨#[]⟩, ⟨room, l, sent, pad, off⟩) := if_neg hk
    rw [hsd]
    have hcase : decide (rt ⟨room, l, sent, pad, off⟩) = false ∨ (decide (rt ⟨room, l, sent, pad, off⟩) = true ∧ off = true) := by
      by_cases h1 : rt ⟨room, l, sent, pad, off⟩
      · exact .inr ⟨decide_eq_true h1, by cases off with | true => rfl | false => exact absurd ⟨h1, rfl⟩ hk⟩
      · exact .inl (decide_eq_false h1)
    clear hsd hk
    rcases hcase with h1 | ⟨h1, h2⟩
    · rw [h1] at hI
      clear h1
      go_enter Tryd.func21, Tryd.ntmps21
      go_wp2
      go_step3
      go_wp2_with fail
      refine hI.out.mono ?_
      rintro e w1 ⟨rfl, hb⟩
      replace V := Lib.hid (V.out.call hb)
      clear hb hI
      have g0 := V.out.at 0 rfl
      have g1 := V.out.at 1 rfl
      rw [one_size] at g0
      obtain ⟨⟨c0, c1, c2, c3, c4⟩, ⟨f0, f1, f2, f3, f4⟩, hz⟩ := blk5 g1
      obtain ⟨⟨d0, d1, d2, d3, d4⟩, ⟨k0, k1, k2, k3, k4⟩, hz2⟩ := blk5 g0
      clear g0 g1
      go_wp2
      go_region
      all_goals go_wp2
      all_goals (try rw [Exit.noGoto_ret])
      all_goals refine bodyPost_ret (v := .tuple #[.string ⟨#[]⟩, .agg #[.int .i64 room, .slice A l.length cap, .int .i64 sent, .int .i64 pad, .bool off]]) (by simp [results, Tryd.results21, go_sem, *]) rfl (and_below ?_ fun hB => ?_)
      all_goals first
        | exact ⟨_, _, rfl, HR.out⟩
        | (repeat (first | (with_reducible exact V.out.below) | refine Below.setCell ?_ (by simp <;> omega) _ | refine Below.drew ?_))
    · rw [h1] at hI
      subst h2
      clear h1
      go_enter Tryd.func21, Tryd.ntmps21
      go_wp2
      go_step3
      go_wp2_with fail
      refine hI.out.mono ?_
      rintro e w1 ⟨rfl, hb⟩
      replace V := Lib.hid (V.out.call hb)
      clear hb hI
      have g0 := V.out.at 0 rfl
      have g1 := V.out.at 1 rfl
      rw [one_size] at g0
      obtain ⟨⟨c0, c1, c2, c3, c4⟩, ⟨f0, f1, f2, f3, f4⟩, hz⟩ := blk5 g1
      obtain ⟨⟨d0, d1, d2, d3, d4⟩, ⟨k0, k1, k2, k3, k4⟩, hz2⟩ := blk5 g0
      clear g0 g1
      go_wp2
      go_region
      all_goals go_wp2
      all_goals (try rw [Exit.noGoto_ret])
      all_goals refine bodyPost_ret (v := .tuple #[.string ⟨#[]⟩, .agg #[.int .i64 room, .slice A l.length cap, .int .i64 sent, .int .i64 pad, .bool true]]) (by simp [results, Tryd.results21, go_sem, *]) rfl (and_below ?_ fun hB => ?_)
      all_goals first
        | exact ⟨_, _, rfl, HR.out⟩
        | (repeat (first | (with_reducible exact V.out.below) | refine Below.setCell ?_ (by simp <;> omega) _ | refine Below.drew ?_))
  obtain ⟨hk, rfl⟩ := hk
  rw [decide_eq_true hk] at hI
  rw [show sd ⟨room, l, sent, pad, false⟩ g = sdN g.toNat ⟨room, l, sent, pad, false⟩ from sd_yes hk rfl]
  obtain ⟨G, hG⟩ : ∃ G : Nat, G = g.toNat := ⟨_, rfl⟩
  rw [← hG]
  obtain ⟨kk, hkk⟩ : ∃ kk : Lnk, kk = ⟨room, l, sent, pad, false⟩ := ⟨_, rfl⟩
  rw [← hkk] at hk ⊢
  have HK := Lib.hid hk
  have HKK := Lib.hid hkk
  obtain ⟨M, hM⟩ : ∃ M : Nat, M = (rs kk).size := ⟨_, rfl⟩
  have HM := Lib.hid hM
  have HG := Lib.hid hG
  clear hk hkk hM hG
  go_enter Tryd.func21, Tryd.ntmps21
  go_wp2
  go_step3
  go_wp2_with fail
  refine hI.out.mono ?_
  rintro e w1 ⟨rfl, hb⟩
  replace V := Lib.hid (V.out.call hb)
  clear hb hI
  have g0 := V.out.at 0 rfl
  have g1 := V.out.at 1 rfl
  rw [one_size] at g0
  have V0 : Hid (SdI w w1 G (.slice none 0 0) 0 [] room sent pad false l A cap) := Lib.hid ⟨rfl, Nat.zero_le _, World.ownsRow_nil _ _ _ _, HR.out, g1, g0, V.out.below⟩
  obtain ⟨⟨c0, c1, c2, c3, c4⟩, ⟨f0, f1, f2, f3, f4⟩, hz⟩ := blk5 g1
  obtain ⟨⟨d0, d1, d2, d3, d4⟩, ⟨k0, k1, k2, k3, k4⟩, hz2⟩ := blk5 g0
  clear g0 g1
  go_wp2
  go_step3
  go_wp2
  clear c0 c1 c2 c3 c4 f0 f1 f2 f3 f4 d0 d1 d2 d3 d4 k0 k1 k2 k3 k4 hz hz2
  have hM48 : M ≤ 48 := by rw [HM.out]; exact rs_le kk
  obtain ⟨i0, hi0, hiz0, hiz1, hiz2⟩ := info_parts Tryd.info5
  have HI0 := Lib.hid hi0
  have HI1 := Lib.hid hiz0
  have HI2 := Lib.hid hiz1
  have HI3 := Lib.hid hiz2
  clear hi0 hiz0 hiz1 hiz2
  have hs0 : 0 ≤ sent := by have := HK.out.2.2.2.2.1; rw [HKK.out] at this; exact this
  go_loopg [6] M (fun m vi wr => ∃ (n : Nat) (xs : List Int) (s' pad' : Int) (l' : List Cmd) (A' : Option Addr) (c' : Nat), n + m = M ∧ SdI w wr G vi n xs room s' pad' false l' A' c' ∧ sdN n kk = (strOfNums xs, ⟨room, l', s', pad', false⟩))
  case atStart => exact ⟨0, [], sent, pad, l, A, cap, by omega, V0.out, by rw [HKK.out]; rfl⟩
  case round =>
    obtain ⟨n, xs, s', pad', l', A', c', hnm, hI0, hsd⟩ := hrel
    have J := Lib.hid hI0
    have HSD := Lib.hid hsd
    obtain ⟨o, cp, rfl, -⟩ := hI0.len_v
    clear hI0 hsd
    have hle : n ≤ G := J.out.le
    obtain ⟨⟨c0, c1, c2, c3, c4⟩, ⟨f0, f1, f2, f3, f4⟩, hz⟩ := blk5 J.out.box
    obtain ⟨⟨d0, d1, d2, d3, d4⟩, ⟨k0, k1, k2, k3, k4⟩, hz2⟩ := blk5 J.out.res
    cases l' with
    | nil =>
      have HFN := Lib.hid (sd_stop n G kk _ _ HSD.out hle (.inl rfl))
      have HCV := Lib.hid (conv_own (ownsRow_below J.out.own (Below.drew (Below.refl _ _))) J.out.len)
      go_wp2
      refine region_lastT 4 (fun w' => (convert 54 9 (.slice o n cp)).run Tryd.prog w' = .ok (.string (strOfNums xs)) w' ∧ w'.cell? ⟨w.heap.size, 0, none⟩ = some (.int .i64 room) ∧ w'.cell? ⟨w.heap.size, 1, none⟩ = some (.slice A' (([] : List Cmd)).length c') ∧ w'.cell? ⟨w.heap.size, 2, none⟩ = some (.int .i64 s') ∧ w'.cell? ⟨w.heap.size, 3, none⟩ = some (.int .i64 pad') ∧ w'.cell? ⟨w.heap.size, 4, none⟩ = some (.bool false)) (by kernel_rfl) (by exact ⟨HCV.out, by go_keep, by go_keep, by go_keep, by go_keep, by go_keep⟩) (fun hHeld => ?_)
      refine lastT_take (i := 0) (d := (some 56)) (v := ?_) rfl rfl (by kernel_rfl) (by kernel_rfl) (by kernel_rfl) (by kernel_rfl) (fun _ _ _ h => h) (by rfl) ?_ (by assumption) ?_
      rotate_left
      · (intro w hSw; (try dsimp only at hSw); go_simp; try with_reducible rfl)
      (try simp only [Act.put, List.setIfInBounds_toArray, List.set_cons_zero, List.set_cons_succ])
      refine lastT_take (i := 1) (d := (some 57)) (v := ?_) rfl rfl (by kernel_rfl) (by kernel_rfl) (by kernel_rfl) (by kernel_rfl) (fun _ _ _ h => h) (by rfl) ?_ (by assumption) ?_
      rotate_left
      · (intro w hSw; (try dsimp only at hSw); go_simp; try with_reducible rfl)
      (try simp only [Act.put, List.setIfInBounds_toArray, List.set_cons_zero, List.set_cons_succ])
      refine lastT_take (i := 2) (d := (some 58)) (v := ?_) rfl rfl (by kernel_rfl) (by kernel_rfl) (by kernel_rfl) (by kernel_rfl) (fun _ _ _ h => h) (by rfl) ?_ (by assumption) ?_
      rotate_left
      · (intro w hSw; (try dsimp only at hSw); go_simp; try with_reducible rfl)
      (try simp only [Act.put, List.setIfInBounds_toArray, List.set_cons_zero, List.set_cons_succ])
      refine lastT_take (i := 3) (d := (some 4)) (v := ?_) rfl rfl (by kernel_rfl) (by kernel_rfl) (by kernel_rfl) (by kernel_rfl) (fun _ _ _ h => h) (by rfl) ?_ (by assumption) ?_
      rotate_left
      · (intro w hSw; (try dsimp only at hSw); go_simp; try with_reducible rfl)
      (try simp only [Act.put, List.setIfInBounds_toArray, List.set_cons_zero, List.set_cons_succ])
      refine lastT_last (T := 4) rfl (by kernel_rfl) (by kernel_rfl) (by kernel_rfl) (fun K hK => ?_) _
      go_simp
      refine hK.out _ _ ?_
      go_wp2
      try rw [Exit.noGoto_ret]
      refine bodyPost_ret (v := .tuple #[.string (strOfNums xs), .agg #[.int .i64 room, .slice A' (([] : List Cmd)).length c', .int .i64 s', .int .i64 pad', .bool false]]) (by simp [results, Tryd.results21, go_sem, *]) rfl (and_below ?_ fun hB => ?_)
      · (repeat (first | (with_reducible exact J.out.below) | refine Below.setCell ?_ (by simp <;> omega) _ | refine Below.drew ?_))
      · exact ⟨A', c', by rw [HFN.out], by rw [HFN.out]; exact J.out.row⟩
    | cons c t =>
      by_cases hp : pad' = 0
      case neg =>
        have bp : (pad' == (0 : Int)) = false := by simp [hp]
        have HP := Lib.hid hp
        clear hp
        have HFN := Lib.hid (sd_stop n G kk _ _ HSD.out hle (.inr HP.out))
        have HCV := Lib.hid (conv_own (ownsRow_below J.out.own (Below.drew (Below.refl _ _))) J.out.len)
        go_wp2
        refine region_lastT 4 (fun w' => (convert 54 9 (.slice o n cp)).run Tryd.prog w' = .ok (.string (strOfNums xs)) w' ∧ w'.cell? ⟨w.heap.size, 0, none⟩ = some (.int .i64 room) ∧ w'.cell? ⟨w.heap.size, 1, none⟩ = some (.slice A' (c :: t).length c') ∧ w'.cell? ⟨w.heap.size, 2, none⟩ = some (.int .i64 s') ∧ w'.cell? ⟨w.heap.size, 3, none⟩ = some (.int .i64 pad') ∧ w'.cell? ⟨w.heap.size, 4, none⟩ = some (.bool false)) (by kernel_rfl) (by exact ⟨HCV.out, by go_keep, by go_keep, by go_keep, by go_keep, by go_keep⟩) (fun hHeld => ?_)
        refine lastT_take (i := 0) (d := (some 56)) (v := ?_) rfl rfl (by kernel_rfl) (by kernel_rfl) (by kernel_rfl) (by kernel_rfl) (fun _ _ _ h => h) (by rfl) ?_ (by assumption) ?_
        rotate_left
        · (intro w hSw; (try dsimp only at hSw); go_simp; try with_reducible rfl)
        (try simp only [Act.put, List.setIfInBounds_toArray, List.set_cons_zero, List.set_cons_succ])
        refine lastT_take (i := 1) (d := (some 57)) (v := ?_) rfl rfl (by kernel_rfl) (by kernel_rfl) (by kernel_rfl) (by kernel_rfl) (fun _ _ _ h => h) (by rfl) ?_ (by assumption) ?_
        rotate_left
        · (intro w hSw; (try dsimp only at hSw); go_simp; try with_reducible rfl)
        (try simp only [Act.put, List.setIfInBounds_toArray, List.set_cons_zero, List.set_cons_succ])
        refine lastT_take (i := 2) (d := (some 58)) (v := ?_) rfl rfl (by kernel_rfl) (by kernel_rfl) (by kernel_rfl) (by kernel_rfl) (fun _ _ _ h => h) (by rfl) ?_ (by assumption) ?_
        rotate_left
        · (intro w hSw; (try dsimp only at hSw); go_simp; try with_reducible rfl)
        (try simp only [Act.put, List.setIfInBounds_toArray, List.set_cons_zero, List.set_cons_succ])
        refine lastT_take (i := 3) (d := (some 4)) (v := ?_) rfl rfl (by kernel_rfl) (by kernel_rfl) (by kernel_rfl) (by kernel_rfl) (fun _ _ _ h => h) (by rfl) ?_ (by assumption) ?_
        rotate_left
        · (intro w hSw; (try dsimp only at hSw); go_simp; try with_reducible rfl)
        (try simp only [Act.put, List.setIfInBounds_toArray, List.set_cons_zero, List.set_cons_succ])
        refine lastT_last (T := 4) rfl (by kernel_rfl) (by kernel_rfl) (by kernel_rfl) (fun K hK => ?_) _
        go_simp
        refine hK.out _ _ ?_
        go_wp2
        try rw [Exit.noGoto_ret]
        refine bodyPost_ret (v := .tuple #[.string (strOfNums xs), .agg #[.int .i64 room, .slice A' (c :: t).length c', .int .i64 s', .int .i64 pad', .bool false]]) (by simp [results, Tryd.results21, go_sem, *]) rfl (and_below ?_ fun hB => ?_)
        · (repeat (first | (with_reducible exact J.out.below) | refine Below.setCell ?_ (by simp <;> omega) _ | refine Below.drew ?_))
        · exact ⟨A', c', by rw [HFN.out], by rw [HFN.out]; exact J.out.row⟩
      subst hp
      obtain ⟨hrt, -, -, hleft⟩ := sd_left kk HK.out n _ _ HSD.out
      obtain ⟨q1, q2, q3, q4, q5, q6, q7, q8⟩ := (rt_cons rfl).1 hrt
      obtain ⟨ck, ca, cb, cr⟩ := c
      obtain ⟨hn1, hcap, g', o', rfl, e0, e1, e2, e3⟩ := J.out.row.cells
      have h55 := (rt_55 hrt).1
      simp only [List.length_cons] at h55 hn1
      rw [strOf_size, J.out.len, ← HM.out, costL_cons] at hleft
      dsimp only at q5 q7 hleft
      replace e0 := keepC J.out.below e0
      replace e1 := keepC J.out.below e1
      replace e2 := keepC J.out.below e2
      replace e3 := keepC J.out.below e3
      have hg' := World.block_lt_of_cell? wr _ e0
      have HPUT := Lib.hid (fun wz hb => vput_any ck ca cb cr wz (HF.out.below (w' := wz) hb))
      have hbts := bts_size ck ca cb cr
      go_wp2_with fail
      refine (HPUT.out _ J.out.below).mono ?_
      rintro e w2 ⟨rfl, hb⟩
      unfold pv
      have hsz : (bts ck ca cb cr).size = szC (ck, ca, cb, cr) := rfl
      have hbc : btC (ck, ca, cb, cr) = bts ck ca cb cr := rfl
      obtain ⟨T, hT⟩ : ∃ T, T = bts ck ca cb cr := ⟨_, rfl⟩
      obtain ⟨z, hz3⟩ : ∃ z : Nat, z = szC (ck, ca, cb, cr) := ⟨_, rfl⟩
      rw [← hT] at hsz hbts hbc ⊢
      rw [← hz3] at hsz q7 hleft
      have HT := Lib.hid hbc
      have HZ := Lib.hid hz3
      have J2 := Lib.hid (J.out.call hb)
      clear hb hT hz3 hbc e0 e1 e2 e3 hg' HPUT
      clear c0 c1 c2 c3 c4 f0 f1 f2 f3 f4 d0 d1 d2 d3 d4 k0 k1 k2 k3 k4 hz hz2
      go_wp2
      go_loopg [6] ((z : Int) - s').toNat (fun m2 vi wx => ∃ (n2 : Nat) (xs : List Int) (s : Int), s + m2 = z ∧ SdI w wx G vi n2 xs room s 0 false ((ck, ca, cb, cr) :: t) (some ⟨g', o', none⟩) c' ∧ s' ≤ s ∧ (n2 : Int) = n + (s - s') ∧ sdN n2 kk = (strOfNums xs, fin ⟨room, (ck, ca, cb, cr) :: t, s, 0, false⟩ (ck, ca, cb, cr) t))
      case atStart => exact ⟨n, xs, s', by omega, J2.out, Int.le_refl _, by omega, by rw [fin_no (by rw [← HZ.out]; dsimp only; omega)]; exact HSD.out⟩
      case round =>
        obtain ⟨n2, xs, s, hsm, hI2, hss, hn2, hsd2⟩ := hrel
        have J3 := Lib.hid hI2
        have HS2 := Lib.hid hsd2
        obtain ⟨o2, cp2, rfl, -⟩ := hI2.len_v
        have HN2 := Lib.hid hn2
        have HSM := Lib.hid hsm
        have hnM : (n2 : Int) ≤ M := by omega
        have hszr : s ≤ (z : Int) := by omega
        have hs0' : (0 : Int) ≤ s := by omega
        clear hI2 hsd2 hn2 hsm
        have hle2 : n2 ≤ G := J3.out.le
        obtain ⟨⟨c0, c1, c2, c3, c4⟩, ⟨f0, f1, f2, f3, f4⟩, hz⟩ := blk5 J3.out.box
        obtain ⟨⟨d0, d1, d2, d3, d4⟩, ⟨k0, k1, k2, k3, k4⟩, hz2⟩ := blk5 J3.out.res
        by_cases hsz2 : s < (z : Int)
        · by_cases hgr : g ≤ (n2 : Int)
          · have HE2 : Hid (fin ⟨room, (ck, ca, cb, cr) :: t, s, 0, false⟩ (ck, ca, cb, cr) t = ⟨room, (ck, ca, cb, cr) :: t, s, 0, false⟩) := Lib.hid (fin_no (by rw [← HZ.out]; dsimp only; omega))
            have HNG : Hid (n2 = G) := Lib.hid (by have := HG.out; omega)
            have HFN := Lib.hid (show sdN G kk = (strOfNums xs, ⟨room, (ck, ca, cb, cr) :: t, s, 0, false⟩) from by rw [← HNG.out, HS2.out, HE2.out])
            have HCV := Lib.hid (conv_own (ownsRow_below J3.out.own (Below.drew (Below.refl _ _))) J3.out.len)
            go_wp2
            refine region_lastT 4 (fun w' => (convert 54 9 (.slice o2 n2 cp2)).run Tryd.prog w' = .ok (.string (strOfNums xs)) w' ∧ w'.cell? ⟨w.heap.size, 0, none⟩ = some (.int .i64 room) ∧ w'.cell? ⟨w.heap.size, 1, none⟩ = some (.slice (some ⟨g', o', none⟩) ((ck, ca, cb, cr) :: t).length c') ∧ w'.cell? ⟨w.heap.size, 2, none⟩ = some (.int .i64 s) ∧ w'.cell? ⟨w.heap.size, 3, none⟩ = some (.int .i64 0) ∧ w'.cell? ⟨w.heap.size, 4, none⟩ = some (.bool false)) (by kernel_rfl) (by exact ⟨HCV.out, by go_keep, by go_keep, by go_keep, by go_keep, by go_keep⟩) (fun hHeld => ?_)
            refine lastT_take (i := 0) (d := (some 56)) (v := ?_) rfl rfl (by kernel_rfl) (by kernel_rfl) (by kernel_rfl) (by kernel_rfl) (fun _ _ _ h => h) (by rfl) ?_ (by assumption) ?_
            rotate_left
            · (intro w hSw; (try dsimp only at hSw); go_simp; try with_reducible rfl)
            (try simp only [Act.put, List.setIfInBounds_toArray, List.set_cons_zero, List.set_cons_succ])
            refine lastT_take (i := 1) (d := (some 57)) (v := ?_) rfl rfl (by kernel_rfl) (by kernel_rfl) (by kernel_rfl) (by kernel_rfl) (fun _ _ _ h => h) (by rfl) ?_ (by assumption) ?_
            rotate_left
            · (intro w hSw; (try dsimp only at hSw); go_simp; try with_reducible rfl)
            (try simp only [Act.put, List.setIfInBounds_toArray, List.set_cons_zero, List.set_cons_succ])
            refine lastT_take (i := 2) (d := (some 58)) (v := ?_) rfl rfl (by kernel_rfl) (by kernel_rfl) (by kernel_rfl) (by kernel_rfl) (fun _ _ _ h => h) (by rfl) ?_ (by assumption) ?_
            rotate_left
            · (intro w hSw; (try dsimp only at hSw); go_simp; try with_reducible rfl)
            (try simp only [Act.put, List.setIfInBounds_toArray, List.set_cons_zero, List.set_cons_succ])
            refine lastT_take (i := 3) (d := (some 4)) (v := ?_) rfl rfl (by kernel_rfl) (by kernel_rfl) (by kernel_rfl) (by kernel_rfl) (fun _ _ _ h => h) (by rfl) ?_ (by assumption) ?_
            rotate_left
            · (intro w hSw; (try dsimp only at hSw); go_simp; try with_reducible rfl)
            (try simp only [Act.put, List.setIfInBounds_toArray, List.set_cons_zero, List.set_cons_succ])
            refine lastT_last (T := 4) rfl (by kernel_rfl) (by kernel_rfl) (by kernel_rfl) (fun K hK => ?_) _
            go_simp
            refine hK.out _ _ ?_
            go_wp2
            try rw [Exit.noGoto_ret]
            refine bodyPost_ret (v := .tuple #[.string (strOfNums xs), .agg #[.int .i64 room, .slice (some ⟨g', o', none⟩) ((ck, ca, cb, cr) :: t).length c', .int .i64 s, .int .i64 0, .bool false]]) (by simp [results, Tryd.results21, go_sem, *]) rfl (and_below ?_ fun hB => ?_)
            · (repeat (first | (with_reducible exact J3.out.below) | refine Below.setCell ?_ (by simp <;> omega) _ | refine Below.drew ?_))
            · exact ⟨(some ⟨g', o', none⟩), c', by rw [HFN.out], by rw [HFN.out]; exact J3.out.row⟩
          · have hb1 := by1_bt (ck, ca, cb, cr) s.toNat
            rw [HT.out] at hb1
            have hsT : s < (T.size : Int) := by omega
            have hTs : s.toNat < T.size := by omega
            obtain ⟨ub, hub⟩ : ∃ ub : Int, ((T[s.toNat]'hTs).toNat : Int) = ub := ⟨_, rfl⟩
            have HUB : Hid (ub = bt T s.toNat) := Lib.hid (by rw [← hub]; exact get_bt _ _ hTs)
            have hub0 : 0 ≤ ub ∧ ub ≤ 255 := by have := HUB.out; omega
            have hown := ownsRow_below J3.out.own ((Below.refl wr.heap.size wr).alloc (Nat.le_refl _) (.cells #[.int .u8 ub] 5))
            have HOWN := Lib.hid hown
            have HLIT := Lib.hid (Rw.lit wr #[.int .u8 ub] 5 1 1 1 (by simp))
            clear hown
            have hi64 := IntWalk.i64_in (s + 1) (by omega)
            go_wp2_with (at_builtin; refine wpList_append_rw rfl (.tmp 43) (.tmp 48) 54 rfl (w.heap.size + 1 + 1) 5 i0 _ 1 1 Tryd.underlying54 HI0.out HI1.out HI2.out HI3.out rfl (by decide) _ _ _ rfl HOWN.out _ 1 [.int .u8 ub] rfl HLIT.out (by simp [Value.oneCell']) (by unfold maxLen; omega) (by omega) (by simp; omega) ?_)
            intro v' w3 hown' hgrow hne
            have hbW : Below (w.heap.size + 1 + 1) wr w3 := Below.of_grown ((Below.refl (w.heap.size + 1 + 1) wr).alloc (by omega) _) HOWN.out hgrow (by simp; omega) (Nat.le_refl _)
            have G1 := (hbW.block w.heap.size (by omega)).trans J3.out.box
            have G2 := (hbW.block (w.heap.size + 1) (by omega)).trans J3.out.res
            have HB3 := Lib.hid (J3.out.below.trans (hbW.mono (by omega)))
            have HO3 := Lib.hid hown'
            have H1 := Lib.hid G1
            have H2 := Lib.hid G2
            clear hown' hgrow hne hbW
            clear c0 c1 c2 c3 c4 f0 f1 f2 f3 f4 d0 d1 d2 d3 d4 k0 k1 k2 k3 k4 hz hz2
            obtain ⟨⟨c0, c1, c2, c3, c4⟩, ⟨f0, f1, f2, f3, f4⟩, hz⟩ := blk5 G1
            clear G1 G2
            have HSD3 := Lib.hid (sd_fin n2 kk ⟨room, (ck, ca, cb, cr) :: t, s, 0, false⟩ (strOfNums xs) (ck, ca, cb, cr) t HS2.out rfl rfl (by rw [← HZ.out]; exact hsz2))
            have HBY := Lib.hid (by1_str ⟨room, (ck, ca, cb, cr) :: t, s, 0, false⟩ (ck, ca, cb, cr) xs (by rw [← HZ.out]; dsimp only; omega))
            have hlt : (n2 : Int) < g := by omega
            clear hgr
            go_wp2
            go_roundg ((z : Int) - (s + 1)).toNat
            case measure => have := HSM.out; omega
            case rel =>
              refine ⟨n2 + 1, xs ++ [ub], s + 1, by omega, ⟨by simp [J3.out.len], by have := HG.out; omega, ?_, J3.out.row, ?_, setCell_ne H2.out (by omega), HB3.out.setCell (by simp) _⟩, by omega, by have := HN2.out; omega, ?_⟩
              · rw [← ints_snoc]
                exact ownsRow_setCell_below HO3.out (by simp <;> omega) _
              · simpa using setCell_at (o := 2) (u := .int .i64 (s + 1)) H1.out
              · rw [HSD3.out, ← HBY.out, HT.out]
                rw [HUB.out]
        · have hsz3 : s = (z : Int) := by omega
          have h55' : t.length + 1 ≤ 100000 := by omega
          have HBF := Lib.hid (behind_any room s 0 false ck ca cb cr t (some ⟨g', o', none⟩) c' wr (HF.out.below J3.out.below) (J3.out.row.below J3.out.below) h55')
          have HFY := Lib.hid (fin_yes (k := ⟨room, (ck, ca, cb, cr) :: t, s, 0, false⟩) (c := (ck, ca, cb, cr)) (t := t) (by rw [← HZ.out]; exact hsz3))
          have HS3 := Lib.hid hsz3
          clear hsz3
          go_wp2_with fail
          refine HBF.out.mono ?_
          rintro e w3 ⟨⟨o3, rfl, hr3⟩, hb⟩
          have HR3 := Lib.hid (hr3 w J3.out.row)
          have J4 := Lib.hid (J3.out.call hb)
          clear hb hr3
          clear c0 c1 c2 c3 c4 f0 f1 f2 f3 f4 d0 d1 d2 d3 d4 k0 k1 k2 k3 k4 hz hz2
          obtain ⟨⟨c0, c1, c2, c3, c4⟩, ⟨f0, f1, f2, f3, f4⟩, hz⟩ := blk5 J4.out.box
          obtain ⟨pd, hpd⟩ : ∃ pd, pd = pdC (ck, ca, cb, cr) := ⟨_, rfl⟩
          rw [← hpd]
          have HPD := Lib.hid hpd
          clear hpd
          go_wp2
          go_roundg (M - n2)
          case measure => have := HN2.out; have := HS3.out; omega
          case rel =>
            refine ⟨n2, xs, 0, pd, t, o3, t.length, by omega, ⟨J4.out.len, J4.out.le, ?_, HR3.out, set5_at J4.out.box, ?_, ?_⟩, ?_⟩
            · repeat (first | (with_reducible exact J4.out.own) | refine ownsRow_setCell_below ?_ (by simp <;> omega) _)
            · repeat (first | (with_reducible exact J4.out.res) | refine setCell_ne ?_ (by omega))
            · repeat (first | (with_reducible exact J4.out.below) | refine Below.setCell ?_ (by simp <;> omega) _)
            · rw [HS2.out, HFY.out, HPD.out]
end Go.Proofs.YtgpebdoafblacaaDoor
