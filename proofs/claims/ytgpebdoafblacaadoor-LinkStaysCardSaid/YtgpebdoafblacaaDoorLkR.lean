/- Links: the reference's Is, Tick, Hold. -/
import Derived.Test.YtgpebdoafblacaaDoorLkA
import Derived.Test.YtgpebdoafblacaaDoorVtJ
import Derived.Test.YtgpebdoafblacaaDoorVtL
import Derived.BigGuardPart
import Derived.BigQuiet
import Derived.Deep.QuietTactic
import Derived.Deep.RegionHeld3
set_option linter.unusedVariables false
namespace Go.Proofs.YtgpebdoafblacaaDoor
open Go.RowKit Gl L Vt Lk
theorem flatC_take (l : List Cmd) (n : Nat) : flatC (l.take n) = (flatC l).take (n * 4) := by
  induction l generalizing n with
  | nil => simp [flatC]
  | cons c t ih =>
    cases n with
    | zero => simp [flatC]
    | succ n =>
      obtain ⟨a, b, d, e⟩ := c
      have := ih n
      show flatC ((a, b, d, e) :: t.take n) = _
      rw [show (n + 1) * 4 = n * 4 + 1 + 1 + 1 + 1 by omega]
      show .int .i64 a :: .int .i64 b :: .int .i64 d :: .int .i32 e :: flatC (t.take n) = .int .i64 a :: .int .i64 b :: .int .i64 d :: .int .i32 e :: (flatC t).take (n * 4)
      rw [this]
set_option maxRecDepth 100000 in
set_option maxHeartbeats 8000000 in
theorem ris9_any (room sent pad : Int) (off : Bool) (l : List Cmd) (A : Option Addr) (cap : Nat) (w : World) (hr : Rk w (.slice A l.length cap) l) (hl : l.length ≤ 100000) :
    Calls Tryd.prog 18 #[.agg #[.int .i64 room, .slice A l.length cap, .int .i64 sent, .int .i64 pad, .bool off]] w fun e w' => e = .returned (.bool (decide (rt ⟨room, l, sent, pad, off⟩))) ∧ Below w.heap.size w w' := by
  by_cases hf : (8 ≤ room ∧ room ≤ 48 ∧ 0 ≤ pad ∧ pad ≤ 2) ∧ 0 ≤ sent
  case neg =>
    have hn : decide (rt ⟨room, l, sent, pad, off⟩) = false := decide_eq_false fun h => hf ⟨((rt_iff _).1 h).1, h.2.2.2.2.1⟩
    rw [hn]
    clear hn hr
    by_cases h1 : room < 8
    · go_enter Tryd.func18, Tryd.ntmps18
      go_wp2
      go_ret
      exact ⟨rfl, (Below.refl _ _).alloc (Nat.le_refl _) _⟩
    by_cases h2 : 48 < room
    · go_enter Tryd.func18, Tryd.ntmps18
      go_wp2
      go_ret
      exact ⟨rfl, (Below.refl _ _).alloc (Nat.le_refl _) _⟩
    by_cases h3 : pad < 0
    · go_enter Tryd.func18, Tryd.ntmps18
      go_wp2
      go_ret
      exact ⟨rfl, (Below.refl _ _).alloc (Nat.le_refl _) _⟩
    by_cases h4 : 2 < pad
    · go_enter Tryd.func18, Tryd.ntmps18
      go_wp2
      go_ret
      exact ⟨rfl, (Below.refl _ _).alloc (Nat.le_refl _) _⟩
    have h5 : sent < 0 := by omega
    go_enter Tryd.func18, Tryd.ntmps18
    go_wp2
    go_ret
    exact ⟨rfl, (Below.refl _ _).alloc (Nat.le_refl _) _⟩
  obtain ⟨⟨h1, h2, h3, h4⟩, h5⟩ := id hf
  have h1' : ¬ room < 8 := by omega
  have h2' : ¬ 48 < room := by omega
  have h3' : ¬ pad < 0 := by omega
  have h4' : ¬ 2 < pad := by omega
  have h5' : ¬ sent < 0 := by omega
  have HR := Lib.hid hr
  have HI := Lib.hid (rt_iff ⟨room, l, sent, pad, off⟩)
  have HH := Lib.hid hf
  clear hr h1 h2 h3 h4 hf
  cases hl0 : l with
  | nil =>
    subst hl0
    by_cases h0 : sent = 0
    · have hv := Lib.hid (decide_eq_true ((rt_nil (k := ⟨room, [], sent, pad, off⟩) rfl).2 ⟨HH.out.1.1, HH.out.1.2.1, HH.out.1.2.2.1, HH.out.1.2.2.2, h0⟩))
      subst h0
      go_enter Tryd.func18, Tryd.ntmps18
      go_wp2
      go_ret
      exact ⟨ret_bool hv.out.symm, (Below.refl _ _).alloc (Nat.le_refl _) _⟩
    · have hv := Lib.hid (decide_eq_false fun h => h0 ((rt_nil (k := ⟨room, [], sent, pad, off⟩) rfl).1 h).2.2.2.2)
      have b1 : (sent == (0 : Int)) = false := by simp [h0]
      go_enter Tryd.func18, Tryd.ntmps18
      go_wp2
      go_ret
      refine ⟨ret_bool ?_, (Below.refl _ _).alloc (Nat.le_refl _) _⟩
      exact hv.out.symm
  | cons c t =>
    have hne : ((l.length : Int) == 0) = false := by rw [hl0]; simp <;> omega
    rw [← hl0]
    have hlc := Lib.hid hl0
    have h1l : 1 ≤ l.length := by rw [hl0]; simp
    have hC := Lib.hid (cmds_row HR.out.rw)
    have hcap : l.length ≤ cap := by obtain ⟨A', c', e, h, _⟩ := HR.out; cases e; exact h
    have hcap1 : (1 : Int) ≤ (cap : Int) := by omega
    clear hl0
    have hb0 := Lib.hid ((Below.refl w.heap.size w).alloc (Nat.le_refl _) (.cells #[.int .i64 room, .slice A l.length cap, .int .i64 sent, .int .i64 pad, .bool off] 24))
    have hg0 := Lib.hid (heap_alloc_new w (.cells #[.int .i64 room, .slice A l.length cap, .int .i64 sent, .int .i64 pad, .bool off] 24))
    have hz0 : (w.alloc (.cells #[.int .i64 room, .slice A l.length cap, .int .i64 sent, .int .i64 pad, .bool off] 24)).heap.size = w.heap.size + 1 := by simp
    go_enter Tryd.func18, Tryd.ntmps18
    go_wp2
    generalize hw0 : w.alloc (.cells #[.int .i64 room, .slice A l.length cap, .int .i64 sent, .int .i64 pad, .bool off] 24) = w0 at *
    clear hw0
    go_loopw [3] (fun i wr => ∃ k : Nat, k ≤ l.length ∧ i = .int .i64 k ∧ (∀ c ∈ l.take k, isR c = true) ∧ Below w0.heap.size w0 wr) (fun i _ => l.length - (intOf i).toNat)
    case atStart => exact ⟨0, by omega, rfl, fun c hc => by simp at hc, Below.refl _ _⟩
    case round =>
      obtain ⟨k, hk, rfl, ha, hw⟩ := hrel
      have HA := Lib.hid ha
      have HW := Lib.hid hw
      have HB := Lib.hid (hb0.out.trans (hw.mono hb0.out.size))
      have hg := carry hw hg0.out
      clear ha hw
      obtain ⟨⟨c0, c1, c2, c3, c4⟩, -, hz⟩ := blk5 hg
      clear hg
      by_cases hlt : k < l.length
      · obtain ⟨A', cap', e, hcc⟩ := hC.out
        cases e
        rcases hcc with h0 | ⟨g, o, rfl, hcc⟩
        · omega
        obtain ⟨e0, e1, e2, e3⟩ := hcc k hlt
        replace e0 := keepC HB.out e0
        replace e1 := keepC HB.out e1
        replace e2 := keepC HB.out e2
        replace e3 := keepC HB.out e3
        have g0 := World.block_lt_of_cell? wr _ e0
        clear hcc
        have hT := Lib.hid (fun wz => ris5_any (cK l k) (cA l k) (cB l k) (cR l k) wz)
        by_cases hi : isC (cK l k) (cA l k) (cB l k) (cR l k) = true
        · go_wp2_with fail
          refine (hT.out _).mono ?_
          rintro e w1 ⟨rfl, hw1⟩
          rw [hi]
          have HW1 := Lib.hid (HW.out.trans (hw1.mono HW.out.size))
          go_wp2
          go_roundw
          case rel => exact ⟨k + 1, by omega, by go_num, all_next hlt HA.out hi, HW1.out⟩
          case measure => simp [intOf]; omega
        · have hi : isC (cK l k) (cA l k) (cB l k) (cR l k) = false := by simpa using hi
          have hn : decide (rt ⟨room, l, sent, pad, off⟩) = false := decide_eq_false fun h => by
            have := (HI.out.1 h).2.1 _ (getD_in hlt)
            rw [show isR (l.getD k d0) = false from hi] at this
            cases this
          go_wp2_with fail
          refine (hT.out _).mono ?_
          rintro e w1 ⟨rfl, hw1⟩
          rw [hi]
          have HW1 := Lib.hid (HB.out.trans (hw1.mono HB.out.size))
          go_wp2
          go_ret
          exact ⟨ret_bool hn.symm, HW1.out⟩
      · obtain rfl : k = l.length := by omega
        rw [List.take_length] at HA
        clear hlt
        obtain ⟨ct, hct⟩ : ∃ ct : Nat → Int, ∀ n, n ≤ l.length → (0 ≤ ct n ∧ ct n ≤ 800000) ∧ ct n = (costL (l.take n) : Int) := ⟨fun n => costL (l.take n), fun n hn => ⟨by
          have := costL_bd (l.take n)
          rw [List.length_take] at this
          dsimp only
          omega, rfl⟩⟩
        have HZ := Lib.hid (fun (n : Nat) (hn : n ≤ l.length) wz hb => show Calls Tryd.prog 35 #[.slice A n cap] wz fun e w' => e = .returned (.int .i64 (ct n)) ∧ Below wz.heap.size wz w' from by
          have h1 := (HR.out.below (w' := wz) hb).rw.pre (m := n) hn
          have h2 := rcost_any (.slice A n cap) (l.take n) wz (by rw [List.length_take, Nat.min_eq_left hn]; rw [flatC_take]; exact h1) (by rw [List.length_take]; omega)
          rw [(hct n hn).2]; exact h2)
        obtain ⟨hc1, hc1e⟩ := hct 1 h1l
        obtain ⟨hc2, hc2e⟩ := hct l.length (Nat.le_refl _)
        rw [List.take_length] at hc2e
        have e1 : ct 1 = (szC c : Int) := by rw [hc1e, hlc.out]; rfl
        have HE := Lib.hid hc2e
        have HE1 := Lib.hid e1
        clear hct hc1e hc2e e1
        have hsn : snt l sent ↔ sent < ct 1 := by
          rw [hlc.out, HE1.out]
          show (0 ≤ sent ∧ sent < (szC c : Int)) ↔ _
          exact ⟨fun h => h.2, fun h => ⟨by omega, h⟩⟩
        have HSN := Lib.hid hsn
        clear hsn
        by_cases hs : sent < ct 1
        · have hz1 := IntWalk.i64_in (ct l.length - sent) (by omega)
          have hv : decide (rt ⟨room, l, sent, pad, off⟩) = decide (ct l.length - sent ≤ room) := by
            have := HI.out
            by_cases hc : ct l.length - sent ≤ room
            · rw [decide_eq_true hc, decide_eq_true (this.2 ⟨HH.out.1, HA.out, HSN.out.2 hs, by show (costL l : Int) - sent ≤ room; rw [← HE.out]; exact hc⟩)]
            · rw [decide_eq_false hc, decide_eq_false fun h => hc (by have : (costL l : Int) - sent ≤ room := (this.1 h).2.2.2; rw [← HE.out] at this; exact this)]
          have hv2 := Lib.hid hv
          have hs1 := decide_eq_true hs
          clear hv
          go_wp2
          go_region_held3 (fun w' => w'.cell? ⟨w.heap.size, 0, none⟩ = some (.int .i64 room) ∧ w'.cell? ⟨w.heap.size, 1, none⟩ = some (.slice A l.length cap) ∧ w'.cell? ⟨w.heap.size, 2, none⟩ = some (.int .i64 sent) ∧ Below w.heap.size w w')
            (first | exact keep3 (by assumption) (by assumption) | (go_keep; done) | exact ⟨by go_keep, by go_keep, by go_keep, Below.drew HB.out⟩)
            (first | (go_at_call 35; refine (HZ.out _ (by first | exact Nat.le_refl _ | exact h1l) _ (And.right (And.right (And.right (by assumption))))).mono ?_; rintro e w' ⟨rfl, hb⟩))
          all_goals go_wp2
          all_goals go_ret
          all_goals exact ⟨ret_bool hv2.out.symm, And.right (And.right (And.right (by assumption)))⟩
        · have hv2 : Hid (decide (rt ⟨room, l, sent, pad, off⟩) = false) := Lib.hid (decide_eq_false fun h => hs (HSN.out.1 (HI.out.1 h).2.2.1))
          have hs1 := decide_eq_false hs
          go_wp2
          refine wp_region_held_drew (S := fun w' => w'.cell? ⟨w.heap.size, 0, none⟩ = some (.int .i64 room) ∧ w'.cell? ⟨w.heap.size, 1, none⟩ = some (.slice A l.length cap) ∧ w'.cell? ⟨w.heap.size, 2, none⟩ = some (.int .i64 sent) ∧ Below w.heap.size w w') (by kernel_rfl) (by exact ⟨by go_keep, by go_keep, by go_keep, Below.drew HB.out⟩) (fun hHeld => ?_)
          refine held_take (i := 0) (d := (some 48)) (v := ?_) rfl rfl (by kernel_rfl) (by kernel_rfl) (by kernel_rfl) (fun _ _ _ h => h) (by rfl) ?_ (by assumption) ?_
          rotate_left
          · (intro w hSw; (try dsimp only at hSw); go_simp; try with_reducible rfl)
          (try simp only [Act.put, List.setIfInBounds_toArray, List.set_cons_zero, List.set_cons_succ])
          refine held_take (i := 1) (d := (some 49)) (v := ?_) rfl rfl (by kernel_rfl) (by kernel_rfl) (by kernel_rfl) (fun _ _ _ h => h) (by rfl) ?_ (by assumption) ?_
          rotate_left
          · (intro w hSw; (try dsimp only at hSw); go_simp; try with_reducible rfl)
          (try simp only [Act.put, List.setIfInBounds_toArray, List.set_cons_zero, List.set_cons_succ])
          refine held_take (i := 2) (d := (some 50)) (v := ?_) rfl rfl (by kernel_rfl) (by kernel_rfl) (by kernel_rfl) (fun _ _ _ h => h) (by rfl) ?_ (by assumption) ?_
          rotate_left
          · (intro w hSw; (try dsimp only at hSw); go_simp; try with_reducible rfl)
          (try simp only [Act.put, List.setIfInBounds_toArray, List.set_cons_zero, List.set_cons_succ])
          refine held_take (i := 3) (d := (some 51)) (v := ?_) rfl rfl (by kernel_rfl) (by kernel_rfl) (by kernel_rfl) (fun _ _ _ h => h) (by rfl) ?_ (by assumption) ?_
          rotate_left
          · (intro w hSw; (try dsimp only at hSw); go_simp; try with_reducible rfl)
          (try simp only [Act.put, List.setIfInBounds_toArray, List.set_cons_zero, List.set_cons_succ])
          refine held_take (i := 4) (d := (some 52)) (v := ?_) rfl rfl (by kernel_rfl) (by kernel_rfl) (by kernel_rfl) (fun _ _ _ h => h) (by rfl) ?_ (by assumption) ?_
          rotate_left
          · (intro w hSw; (try dsimp only at hSw); go_simp; try with_reducible rfl)
          (try simp only [Act.put, List.setIfInBounds_toArray, List.set_cons_zero, List.set_cons_succ])
          refine wpAnyH_ready (rs := [5]) (by kernel_rfl) (by simp) ?_
          refine AllReadyH.cons rfl (fun K hK => ?_) AllReadyH.nil
          go_simp
          go_at_call 35; refine (HZ.out 1 h1l _ (Below.drew HB.out)).mono ?_; rintro e w' ⟨rfl, hb⟩
          refine hK.out _ _ (by exact keep3 hb hHeld) (fun hHeld2 => ?_)
          clear hK K hHeld
          have hHeld := hHeld2
          clear hHeld2
          (try simp only [Act.put, List.setIfInBounds_toArray, List.set_cons_zero, List.set_cons_succ])
          refine held_take (i := 6) (d := (some 54)) (v := ?_) rfl rfl (by kernel_rfl) (by kernel_rfl) (by kernel_rfl) (fun _ _ _ h => h) (by rfl) ?_ (by assumption) ?_
          rotate_left
          · (intro w hSw; (try dsimp only at hSw); go_simp; try with_reducible rfl)
          (try simp only [Act.put, List.setIfInBounds_toArray, List.set_cons_zero, List.set_cons_succ])
          refine held_take (i := 7) (d := (some 55)) (v := ?_) rfl rfl (by kernel_rfl) (by kernel_rfl) (by kernel_rfl) (fun _ _ _ h => h) (by rfl) ?_ (by assumption) ?_
          rotate_left
          · (intro w hSw; (try dsimp only at hSw); go_simp; try with_reducible rfl)
          (try simp only [Act.put, List.setIfInBounds_toArray, List.set_cons_zero, List.set_cons_succ])
          refine held_skip (i := 8) (d := (some 56)) rfl rfl (by kernel_rfl) (by kernel_rfl) (by kernel_rfl) (fun _ _ _ h => h) (by kernel_rfl) (by assumption) ?_
          (try simp only [Act.put, List.setIfInBounds_toArray, List.set_cons_zero, List.set_cons_succ])
          refine held_skip (i := 9) (d := (some 57)) rfl rfl (by kernel_rfl) (by kernel_rfl) (by kernel_rfl) (fun _ _ _ h => h) (by kernel_rfl) (by assumption) ?_
          (try simp only [Act.put, List.setIfInBounds_toArray, List.set_cons_zero, List.set_cons_succ])
          refine held_skip (i := 10) (d := (some 58)) rfl rfl (by kernel_rfl) (by kernel_rfl) (by kernel_rfl) (fun _ _ _ h => h) (by kernel_rfl) (by assumption) ?_
          (try simp only [Act.put, List.setIfInBounds_toArray, List.set_cons_zero, List.set_cons_succ])
          refine held_skip (i := 11) (d := (some 59)) rfl rfl (by kernel_rfl) (by kernel_rfl) (by kernel_rfl) (fun _ _ _ h => h) (by kernel_rfl) (by assumption) ?_
          (try simp only [Act.put, List.setIfInBounds_toArray, List.set_cons_zero, List.set_cons_succ])
          refine held_skip (i := 12) (d := (some 60)) rfl rfl (by kernel_rfl) (by kernel_rfl) (by kernel_rfl) (fun _ _ _ h => h) (by kernel_rfl) (by assumption) ?_
          (try simp only [Act.put, List.setIfInBounds_toArray, List.set_cons_zero, List.set_cons_succ])
          refine held_skip (i := 13) (d := (some 61)) rfl rfl (by kernel_rfl) (by kernel_rfl) (by kernel_rfl) (fun _ _ _ h => h) (by kernel_rfl) (by assumption) ?_
          (try simp only [Act.put, List.setIfInBounds_toArray, List.set_cons_zero, List.set_cons_succ])
          refine held_skip (i := 14) (d := (some 62)) rfl rfl (by kernel_rfl) (by kernel_rfl) (by kernel_rfl) (fun _ _ _ h => h) (by kernel_rfl) (by assumption) ?_
          (try simp only [Act.put, List.setIfInBounds_toArray, List.set_cons_zero, List.set_cons_succ])
          refine held_skip (i := 15) (d := (some 63)) rfl rfl (by kernel_rfl) (by kernel_rfl) (by kernel_rfl) (fun _ _ _ h => h) (by kernel_rfl) (by assumption) ?_
          (try simp only [Act.put, List.setIfInBounds_toArray, List.set_cons_zero, List.set_cons_succ])
          refine held_skip (i := 16) (d := (some 64)) rfl rfl (by kernel_rfl) (by kernel_rfl) (by kernel_rfl) (fun _ _ _ h => h) (by kernel_rfl) (by assumption) ?_
          (try simp only [Act.put, List.setIfInBounds_toArray, List.set_cons_zero, List.set_cons_succ])
          refine held_take (i := 17) (d := (some 65)) (v := ?_) rfl rfl (by kernel_rfl) (by kernel_rfl) (by kernel_rfl) (fun _ _ _ h => h) (by rfl) ?_ (by assumption) ?_
          rotate_left
          · (intro w hSw; (try dsimp only at hSw); go_simp; try with_reducible rfl)
          (try simp only [Act.put, List.setIfInBounds_toArray, List.set_cons_zero, List.set_cons_succ])
          refine held_take (i := 18) (d := (some 2)) (v := ?_) rfl rfl (by kernel_rfl) (by kernel_rfl) (by kernel_rfl) (fun _ _ _ h => h) (by rfl) ?_ (by assumption) ?_
          rotate_left
          · (intro w hSw; (try dsimp only at hSw); go_simp; try with_reducible rfl)
          (try simp only [Act.put, List.setIfInBounds_toArray, List.set_cons_zero, List.set_cons_succ])
          refine wpAnyH_done (by kernel_rfl) ?_ _
          go_wp2
          go_ret
          exact ⟨by rw [hv2.out]; rfl, hHeld.2.2.2⟩
set_option maxHeartbeats 4000000 in
theorem rltick_any (room sent pad : Int) (off : Bool) (l : List Cmd) (A : Option Addr) (cap : Nat) (w : World) (hr : Rk w (.slice A l.length cap) l) (hl : l.length ≤ 100000) :
    Calls Tryd.prog 27 #[.agg #[.int .i64 room, .slice A l.length cap, .int .i64 sent, .int .i64 pad, .bool off]] w fun e w' => e = .returned (.agg #[.int .i64 room, .slice A l.length cap, .int .i64 sent, .int .i64 (tk ⟨room, l, sent, pad, off⟩).pad, .bool off]) ∧ Below w.heap.size w w' := by
  have V := Lib.hid (((La.start w).box #[.int .i64 room, .slice A l.length cap, .int .i64 sent, .int .i64 pad, .bool off] 24).box #[.int .i64 0, .slice none 0 0, .int .i64 0, .int .i64 0, .bool false] 24)
  have hI := Lib.hid (ris9_any room sent pad off l A cap _ (hr.below V.out.below) hl)
  clear hr
  by_cases hk : rt ⟨room, l, sent, pad, off⟩
  · rw [decide_eq_true hk] at hI
    have hp : 0 ≤ pad ∧ pad ≤ 2 := ⟨hk.2.2.1, hk.2.2.2.1⟩
    by_cases h0 : 0 < pad
    · rw [show (tk ⟨room, l, sent, pad, off⟩).pad = pad - 1 by unfold tk; rw [if_pos ⟨hk, h0⟩]]
      clear hk
      go_enter Tryd.func27, Tryd.ntmps27
      go_wp2_with fail
      refine hI.out.mono ?_
      rintro e w1 ⟨rfl, hb⟩
      replace V := Lib.hid (V.out.call hb)
      clear hb hI
      have g0 := V.out.at 0 rfl
      have g1 := V.out.at 1 rfl
      rw [one_size] at g0
      obtain ⟨⟨c0, c1, c2, c3, c4⟩, ⟨f0, f1, f2, f3, f4⟩, hz⟩ := blk5 g1
      obtain ⟨⟨d0, d1, d2, d3, d4⟩, ⟨k0, k1, k2, k3, k4⟩, hz2⟩ := blk5 g0
      clear g0 g1
      go_wp2
      refine bodyPost_ret (v := .agg #[.int .i64 room, .slice A l.length cap, .int .i64 sent, .int .i64 (pad - 1), .bool off]) (by simp [results, Tryd.results27, go_sem, *]) rfl ⟨rfl, ?_⟩
      repeat (first | (with_reducible exact V.out.below) | refine Below.setCell ?_ (by simp) _)
    · rw [show (tk ⟨room, l, sent, pad, off⟩).pad = pad by unfold tk; rw [if_neg fun h => h0 h.2]]
      clear hk
      go_enter Tryd.func27, Tryd.ntmps27
      go_wp2_with fail
      refine hI.out.mono ?_
      rintro e w1 ⟨rfl, hb⟩
      replace V := Lib.hid (V.out.call hb)
      clear hb hI
      have g0 := V.out.at 0 rfl
      have g1 := V.out.at 1 rfl
      rw [one_size] at g0
      obtain ⟨⟨c0, c1, c2, c3, c4⟩, ⟨f0, f1, f2, f3, f4⟩, hz⟩ := blk5 g1
      obtain ⟨⟨d0, d1, d2, d3, d4⟩, ⟨k0, k1, k2, k3, k4⟩, hz2⟩ := blk5 g0
      clear g0 g1
      go_wp2
      refine bodyPost_ret (v := .agg #[.int .i64 room, .slice A l.length cap, .int .i64 sent, .int .i64 pad, .bool off]) (by simp [results, Tryd.results27, go_sem, *]) rfl ⟨rfl, ?_⟩
      repeat (first | (with_reducible exact V.out.below) | refine Below.setCell ?_ (by simp) _)
  · rw [show (tk ⟨room, l, sent, pad, off⟩).pad = pad by unfold tk; rw [if_neg fun h => hk h.1]]
    rw [decide_eq_false hk] at hI
    clear hk
    go_enter Tryd.func27, Tryd.ntmps27
    go_wp2_with fail
    refine hI.out.mono ?_
    rintro e w1 ⟨rfl, hb⟩
    replace V := Lib.hid (V.out.call hb)
    clear hb hI
    have g0 := V.out.at 0 rfl
    have g1 := V.out.at 1 rfl
    rw [one_size] at g0
    obtain ⟨⟨c0, c1, c2, c3, c4⟩, ⟨f0, f1, f2, f3, f4⟩, hz⟩ := blk5 g1
    obtain ⟨⟨d0, d1, d2, d3, d4⟩, ⟨k0, k1, k2, k3, k4⟩, hz2⟩ := blk5 g0
    clear g0 g1
    go_wp2
    refine bodyPost_ret (v := .agg #[.int .i64 room, .slice A l.length cap, .int .i64 sent, .int .i64 pad, .bool off]) (by simp [results, Tryd.results27, go_sem, *]) rfl ⟨rfl, ?_⟩
    repeat (first | (with_reducible exact V.out.below) | refine Below.setCell ?_ (by simp) _)
set_option maxHeartbeats 4000000 in
theorem rlhold_any (room sent pad : Int) (off : Bool) (q : Bool) (l : List Cmd) (A : Option Addr) (cap : Nat) (w : World) (hr : Rk w (.slice A l.length cap) l) (hl : l.length ≤ 100000) :
    Calls Tryd.prog 29 #[.agg #[.int .i64 room, .slice A l.length cap, .int .i64 sent, .int .i64 pad, .bool off], .bool q] w fun e w' => e = .returned (.agg #[.int .i64 room, .slice A l.length cap, .int .i64 sent, .int .i64 pad, .bool (hd ⟨room, l, sent, pad, off⟩ q).off]) ∧ Below w.heap.size w w' := by
  have V := Lib.hid (((La.start w).box #[.int .i64 room, .slice A l.length cap, .int .i64 sent, .int .i64 pad, .bool off] 24).box #[.int .i64 0, .slice none 0 0, .int .i64 0, .int .i64 0, .bool false] 24)
  have hI := Lib.hid (ris9_any room sent pad off l A cap _ (hr.below V.out.below) hl)
  clear hr
  by_cases hk : rt ⟨room, l, sent, pad, off⟩
  · rw [decide_eq_true hk] at hI
    rw [show (hd ⟨room, l, sent, pad, off⟩ q).off = q by unfold hd; rw [if_pos hk]]
    clear hk
    go_enter Tryd.func29, Tryd.ntmps29
    go_wp2_with fail
    refine hI.out.mono ?_
    rintro e w1 ⟨rfl, hb⟩
    replace V := Lib.hid (V.out.call hb)
    clear hb hI
    have g0 := V.out.at 0 rfl
    have g1 := V.out.at 1 rfl
    rw [one_size] at g0
    obtain ⟨⟨c0, c1, c2, c3, c4⟩, ⟨f0, f1, f2, f3, f4⟩, hz⟩ := blk5 g1
    obtain ⟨⟨d0, d1, d2, d3, d4⟩, ⟨k0, k1, k2, k3, k4⟩, hz2⟩ := blk5 g0
    clear g0 g1
    go_wp2
    refine bodyPost_ret (v := .agg #[.int .i64 room, .slice A l.length cap, .int .i64 sent, .int .i64 pad, .bool q]) (by simp [results, Tryd.results29, go_sem, *]) rfl ⟨rfl, ?_⟩
    repeat (first | (with_reducible exact V.out.below) | refine Below.setCell ?_ (by simp) _)
  · rw [show (hd ⟨room, l, sent, pad, off⟩ q).off = off by unfold hd; rw [if_neg hk]]
    rw [decide_eq_false hk] at hI
    clear hk
    go_enter Tryd.func29, Tryd.ntmps29
    go_wp2_with fail
    refine hI.out.mono ?_
    rintro e w1 ⟨rfl, hb⟩
    replace V := Lib.hid (V.out.call hb)
    clear hb hI
    have g0 := V.out.at 0 rfl
    have g1 := V.out.at 1 rfl
    rw [one_size] at g0
    obtain ⟨⟨c0, c1, c2, c3, c4⟩, ⟨f0, f1, f2, f3, f4⟩, hz⟩ := blk5 g1
    obtain ⟨⟨d0, d1, d2, d3, d4⟩, ⟨k0, k1, k2, k3, k4⟩, hz2⟩ := blk5 g0
    clear g0 g1
    go_wp2
    refine bodyPost_ret (v := .agg #[.int .i64 room, .slice A l.length cap, .int .i64 sent, .int .i64 pad, .bool off]) (by simp [results, Tryd.results29, go_sem, *]) rfl ⟨rfl, ?_⟩
    repeat (first | (with_reducible exact V.out.below) | refine Below.setCell ?_ (by simp) _)
end Go.Proofs.YtgpebdoafblacaaDoor
