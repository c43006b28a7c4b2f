/- Links: the reference's Drop, Rest, own, Offer. -/
import Derived.Test.YtgpebdoafblacaaDoorLkO
import Derived.Test.YtgpebdoafblacaaDoorLkR
import Derived.Test.YtgpebdoafblacaaDoorSeF
import Derived.BigGuardPart
import Derived.BigQuiet
import Derived.Deep.QuietTactic
import Derived.Deep.RegionHeld3
set_option linter.unusedVariables false
namespace Go.Proofs.YtgpebdoafblacaaDoor
open Go.RowKit Gl L Vt Lk
set_option maxHeartbeats 4000000 in
theorem rldrop_any (room sent pad : Int) (off : Bool) (l : List Cmd) (A : Option Addr) (cap : Nat) (w : World) (hr : Rk w (.slice A l.length cap) l) (hl : l.length ≤ 100000) :
    Calls Tryd.prog 24 #[.agg #[.int .i64 room, .slice A l.length cap, .int .i64 sent, .int .i64 pad, .bool off]] w fun e w' => (∃ A1 c1 A2 c2, e = .returned (.tuple #[.agg #[.int .i64 room, .slice A1 (dp ⟨room, l, sent, pad, off⟩).l.length c1, .int .i64 sent, .int .i64 pad, .bool off], .slice A2 (gn ⟨room, l, sent, pad, off⟩).length c2]) ∧ Rk w' (.slice A1 (dp ⟨room, l, sent, pad, off⟩).l.length c1) (dp ⟨room, l, sent, pad, off⟩).l ∧ Rk w' (.slice A2 (gn ⟨room, l, sent, pad, off⟩).length c2) (gn ⟨room, l, sent, pad, off⟩)) ∧ Below w.heap.size w w' := by
  have V := Lib.hid (((La.start w).box #[.int .i64 room, .slice A l.length cap, .int .i64 sent, .int .i64 pad, .bool off] 24).box #[.int .i64 0, .slice none 0 0, .int .i64 0, .int .i64 0, .bool false] 24)
  have hI := Lib.hid (ris9_any room sent pad off l A cap _ (hr.below V.out.below) hl)
  have HR := Lib.hid hr
  have hcap : l.length ≤ cap := by obtain ⟨A', c', e, h, _⟩ := hr; cases e; exact h
  have hcap1 : (l.length : Int) ≤ (cap : Int) := by omega
  clear hr
  by_cases hk : rt ⟨room, l, sent, pad, off⟩
  · rw [decide_eq_true hk] at hI
    obtain ⟨e1, e2⟩ := dp_yes hk
    by_cases hs : 0 < sent
    · have en : dpN ⟨room, l, sent, pad, off⟩ = 1 := if_pos hs
      cases l with
      | nil => have := ((rt_nil rfl).1 hk).2.2.2.2; dsimp only at this; omega
      | cons c t =>
        have hd1 : (dp ⟨room, c :: t, sent, pad, off⟩).l = [c] := by rw [e1, en]; rfl
        have hg1 : gn ⟨room, c :: t, sent, pad, off⟩ = t := by rw [e2, en]; rfl
        rw [hd1, hg1]
        simp only [List.length_cons] at *
        clear e1 e2 en hk hd1 hg1
        obtain ⟨k', a', b', r'⟩ := c
        obtain ⟨-, -, g, o, rfl, -⟩ := HR.out.cells
        have h1s : (1 : Int) ≤ sent := by omega
        have hmin : min sent 1 = 1 := by omega
        have hc1 : (1 : Int) ≤ (cap : Int) := by omega
        by_cases hc0 : cap = 1
        · subst hc0
          obtain rfl : t = [] := List.eq_nil_of_length_eq_zero (by omega)
          simp only [List.length_nil] at *
          go_enter Tryd.func24, Tryd.ntmps24
          go_wp2_with fail
          refine hI.out.mono ?_
          rintro e w1 ⟨rfl, hb⟩
          replace V := Lib.hid (V.out.call hb)
          clear hb hI
          have g0 := V.out.at 0 rfl
          have g1 := V.out.at 1 rfl
          rw [one_size] at g0
          obtain ⟨⟨c0, c1, c2, c3, c4⟩, ⟨f0, f1, f2, f3, f4⟩, hz⟩ := blk5 g1
          obtain ⟨⟨d0, d1, d2, d3, d4⟩, ⟨k0, k1, k2, k3, k4⟩, hz2⟩ := blk5 g0
          clear g0 g1
          go_wp2
          refine bodyPost_ret (v := .tuple #[.agg #[.int .i64 room, .slice (some ⟨g, o, none⟩) 1 1, .int .i64 sent, .int .i64 pad, .bool off], .slice (some ⟨g, o, none⟩) 0 0]) (by simp [results, Tryd.results24, go_sem, *]) rfl (and_below ?_ fun hB => ?_)
          · repeat (first | (with_reducible exact V.out.below) | refine Below.setCell ?_ (by simp) _)
          · exact ⟨_, _, _, _, rfl, (HR.out.first (Nat.le_refl _)).below hB, Rk.nil _ _ _ (by simp)⟩
        · have hc2 : ¬ ((cap : Int) = 1) := by omega
          have hc3 : (1 : Int) < (cap : Int) := by omega
          go_enter Tryd.func24, Tryd.ntmps24
          go_wp2_with fail
          refine hI.out.mono ?_
          rintro e w1 ⟨rfl, hb⟩
          replace V := Lib.hid (V.out.call hb)
          clear hb hI
          have g0 := V.out.at 0 rfl
          have g1 := V.out.at 1 rfl
          rw [one_size] at g0
          obtain ⟨⟨c0, c1, c2, c3, c4⟩, ⟨f0, f1, f2, f3, f4⟩, hz⟩ := blk5 g1
          obtain ⟨⟨d0, d1, d2, d3, d4⟩, ⟨k0, k1, k2, k3, k4⟩, hz2⟩ := blk5 g0
          clear g0 g1
          go_wp2
          refine bodyPost_ret (v := .tuple #[.agg #[.int .i64 room, .slice (some ⟨g, o, none⟩) 1 cap, .int .i64 sent, .int .i64 pad, .bool off], .slice (some ⟨g, o + 4, none⟩) t.length (cap - 1)]) (by simp [results, Tryd.results24, go_sem, *]) rfl (and_below ?_ fun hB => ?_)
          · repeat (first | (with_reducible exact V.out.below) | refine Below.setCell ?_ (by simp) _)
          · exact ⟨_, _, _, _, rfl, (HR.out.first (by omega)).below hB, (HR.out.tail _ (by omega)).below hB⟩
    · have en : dpN ⟨room, l, sent, pad, off⟩ = 0 := if_neg hs
      have hs0 : sent = 0 := by have := hk.2.2.2.2.1; dsimp only at this; omega
      have hd1 : (dp ⟨room, l, sent, pad, off⟩).l = [] := by rw [e1, en]; rfl
      have hg1 : gn ⟨room, l, sent, pad, off⟩ = l := by rw [e2, en]; rfl
      rw [hd1, hg1]
      subst hs0
      have hmin : min (0 : Int) 1 = 0 := by omega
      have HN : Hid (A = none → cap = 0) := Lib.hid (by
        rintro rfl
        obtain ⟨_, A', c', e, h⟩ := HR.out.rw
        cases e
        rcases h with ⟨_, h⟩ | ⟨_, _, h, _⟩
        · exact h rfl
        · cases h)
      have hl0 : (0 : Int) ≤ (l.length : Int) := by omega
      have hcz : (0 : Int) ≤ (cap : Int) := by omega
      clear e1 e2 en hk hd1 hg1
      go_enter Tryd.func24, Tryd.ntmps24
      go_wp2_with fail
      refine hI.out.mono ?_
      rintro e w1 ⟨rfl, hb⟩
      replace V := Lib.hid (V.out.call hb)
      clear hb hI
      have g0 := V.out.at 0 rfl
      have g1 := V.out.at 1 rfl
      rw [one_size] at g0
      obtain ⟨⟨c0, c1, c2, c3, c4⟩, ⟨f0, f1, f2, f3, f4⟩, hz⟩ := blk5 g1
      obtain ⟨⟨d0, d1, d2, d3, d4⟩, ⟨k0, k1, k2, k3, k4⟩, hz2⟩ := blk5 g0
      clear g0 g1
      go_wp2
      refine bodyPost_ret (v := .tuple #[.agg #[.int .i64 room, .slice A 0 cap, .int .i64 0, .int .i64 pad, .bool off], .slice A l.length cap]) (by simp [results, Tryd.results24, go_sem, *]) rfl (and_below ?_ fun hB => ?_)
      · repeat (first | (with_reducible exact V.out.below) | refine Below.setCell ?_ (by simp) _)
      · exact ⟨_, _, _, _, rfl, Rk.nil _ _ _ HN.out, HR.out.below hB⟩
  · have hd1 : dp ⟨room, l, sent, pad, off⟩ = ⟨room, l, sent, pad, off⟩ := if_neg hk
    have hg1 : gn ⟨room, l, sent, pad, off⟩ = [] := if_neg hk
    rw [hd1, hg1]
    rw [decide_eq_false hk] at hI
    clear hk hd1 hg1
    go_enter Tryd.func24, Tryd.ntmps24
    go_wp2_with fail
    refine hI.out.mono ?_
    rintro e w1 ⟨rfl, hb⟩
    replace V := Lib.hid (V.out.call hb)
    clear hb hI
    have g0 := V.out.at 0 rfl
    have g1 := V.out.at 1 rfl
    rw [one_size] at g0
    obtain ⟨⟨c0, c1, c2, c3, c4⟩, ⟨f0, f1, f2, f3, f4⟩, hz⟩ := blk5 g1
    obtain ⟨⟨d0, d1, d2, d3, d4⟩, ⟨k0, k1, k2, k3, k4⟩, hz2⟩ := blk5 g0
    clear g0 g1
    go_wp2
    refine bodyPost_ret (v := .tuple #[.agg #[.int .i64 room, .slice A l.length cap, .int .i64 sent, .int .i64 pad, .bool off], .slice none 0 0]) (by simp [results, Tryd.results24, go_sem, *]) rfl (and_below ?_ fun hB => ?_)
    · repeat (first | (with_reducible exact V.out.below) | refine Below.setCell ?_ (by simp) _)
    · exact ⟨_, _, _, _, rfl, HR.out.below hB, Rk.nil _ _ _ (by simp)⟩
set_option maxHeartbeats 4000000 in
theorem rbytes_any (v : Value) (l : List Cmd) (w : World) (hr : Rw w v 4 l.length (flatC l)) (hl : l.length ≤ 100000) : Calls Tryd.prog 30 #[v] w fun e w' => e = .returned (.string (btsL l)) ∧ Below w.heap.size w w' := by
  obtain ⟨A, cap, rfl, hc⟩ := cmds_row hr
  have hC := Lib.hid hc
  clear hc hr
  go_enter Tryd.func30, Tryd.ntmps30
  go_wp2
  go_loopw [4, 3] (fun i s wr => ∃ k : Nat, k ≤ l.length ∧ i = .int .i64 k ∧ s = .string (btsL (l.take k)) ∧ Below w.heap.size w wr) (fun i _ _ => l.length - (intOf i).toNat)
  case atStart => exact ⟨0, by omega, rfl, rfl, Below.refl _ _⟩
  case round =>
    obtain ⟨k, hk, rfl, rfl, hw⟩ := hrel
    have HW := Lib.hid hw
    clear hw
    by_cases hlt : k < l.length
    · rcases hC.out with h0 | ⟨g, off, rfl, hcc⟩
      · omega
      obtain ⟨e0, e1, e2, e3⟩ := hcc k hlt
      replace e0 := keepC HW.out e0
      replace e1 := keepC HW.out e1
      replace e2 := keepC HW.out e2
      replace e3 := keepC HW.out e3
      have hN := Lib.hid (btsL_next l k hlt)
      have hT := Lib.hid (fun wz => rput5_any (cK l k) (cA l k) (cB l k) (cR l k) wz)
      have hq1 := bts_size (cK l k) (cA l k) (cB l k) (cR l k)
      have hq2 : (btsL (l.take k)).size ≤ 8 * l.length := by
        have := costL_bd (l.take k)
        rw [btsL_size]
        rw [List.length_take] at this
        omega
      clear hcc hC
      go_wp2_with fail
      refine (hT.out _).mono ?_
      rintro e w1 ⟨rfl, hw1⟩
      unfold pv
      have HW1 := Lib.hid (HW.out.trans (hw1.mono HW.out.size))
      go_wp2
      go_roundw
      case rel => exact ⟨k + 1, by omega, by go_num, by rw [hN.out], HW1.out⟩
      case measure => simp [intOf]; omega
    · obtain rfl : k = l.length := by omega
      rw [List.take_length]
      clear hlt
      go_wp2
      go_ret
      exact ⟨rfl, HW.out⟩
set_option maxRecDepth 100000 in
set_option maxHeartbeats 8000000 in
theorem rrest_any (room sent pad : Int) (off : Bool) (l : List Cmd) (A : Option Addr) (cap : Nat) (w : World) (hr : Rk w (.slice A l.length cap) l) (hl : l.length ≤ 100000) :
    Calls Tryd.prog 20 #[.agg #[.int .i64 room, .slice A l.length cap, .int .i64 sent, .int .i64 pad, .bool off]] w fun e w' => e = .returned (.string (rs ⟨room, l, sent, pad, off⟩)) ∧ Below w.heap.size w w' := by
  have V := Lib.hid ((La.start w).box #[.int .i64 room, .slice A l.length cap, .int .i64 sent, .int .i64 pad, .bool off] 24)
  have hI := Lib.hid (ris9_any room sent pad off l A cap _ (hr.below V.out.below) hl)
  by_cases hk : rt ⟨room, l, sent, pad, off⟩
  case neg =>
    rw [rs_no hk]
    rw [decide_eq_false hk] at hI
    clear hr
    go_enter Tryd.func20, Tryd.ntmps20
    go_wp2_with fail
    refine hI.out.mono ?_
    rintro e w1 ⟨rfl, hb⟩
    replace V := Lib.hid (V.out.call hb)
    go_wp2
    go_ret
    exact ⟨rfl, V.out.below⟩
  rw [rs_yes hk]
  rw [decide_eq_true hk] at hI
  obtain ⟨-, -, hs7⟩ := rt_sent hk
  obtain ⟨h55, hc55⟩ := rt_55 hk
  have hs0 : 0 ≤ sent := hk.2.2.2.2.1
  dsimp only at hs7
  have HZ := Lib.hid (btsL_size l)
  have HB := Lib.hid (fun wz hb => rbytes_any (.slice A l.length cap) l wz (hr.below hb).rw hl)
  clear hr hk
  go_enter Tryd.func20, Tryd.ntmps20
  go_wp2_with fail
  refine hI.out.mono ?_
  rintro e w1 ⟨rfl, hb⟩
  replace V := Lib.hid (V.out.call hb)
  clear hb hI
  have g1 := V.out.at 0 rfl
  obtain ⟨⟨c0, c1, c2, c3, c4⟩, -, hz⟩ := blk5 g1
  clear g1
  have hz1 : (btsL l).size = costL l := HZ.out
  generalize hbs : btsL l = bs at *
  have HBS := Lib.hid hbs
  clear HZ hbs
  go_wp2
  go_region_held3 (fun w' => w'.cell? ⟨w.heap.size, 1, none⟩ = some (.slice A l.length cap) ∧ w'.cell? ⟨w.heap.size, 2, none⟩ = some (.int .i64 sent) ∧ Below w.heap.size w w')
    (first | exact keep2 (by assumption) (by assumption) | (go_keep; done) | exact ⟨by go_keep, by go_keep, Below.drew V.out.below⟩)
    (first | (go_at_call 30; refine (HB.out _ (And.right (And.right (by assumption)))).mono ?_; rintro e w' ⟨rfl, hb⟩))
  all_goals go_wp2
  all_goals go_ret
  all_goals exact ⟨ret_str (by unfold suf; rw [HBS.out, hz1]), And.right (And.right (by assumption))⟩
set_option maxHeartbeats 2000000 in
theorem own9_any (room sent pad : Int) (off : Bool) (l : List Cmd) (A : Option Addr) (cap : Nat) (w : World) (hr : Rk w (.slice A l.length cap) l) (hl : l.length ≤ 100000) :
    Calls Tryd.prog 36 #[.agg #[.int .i64 room, .slice A l.length cap, .int .i64 sent, .int .i64 pad, .bool off]] w fun e w' => (∃ g cap', e = .returned (.agg #[.int .i64 room, .slice (some ⟨g, 0, none⟩) l.length cap', .int .i64 sent, .int .i64 pad, .bool off]) ∧ l.length ≤ cap' ∧ w'.ownsRow w.heap.size 26 4 (.slice (some ⟨g, 0, none⟩) l.length cap') l.length (flatC l)) ∧ Below w.heap.size w w' := by
  have hb0 : Below w.heap.size w ((w.alloc (.cells #[.int .i64 room, .slice A l.length cap, .int .i64 sent, .int .i64 pad, .bool off] 24)).alloc (.cells #[.int .i64 0, .slice none 0 0, .int .i64 0, .int .i64 0, .bool false] 24)) := ((Below.refl _ _).alloc (Nat.le_refl _) _).alloc (by simp) _
  obtain ⟨i0, hi, hz0, hz1, hz2⟩ := info_parts Tryd.info26
  have hown0 : (((w.alloc (.cells #[.int .i64 room, .slice A l.length cap, .int .i64 sent, .int .i64 pad, .bool off] 24)).alloc (.cells #[.int .i64 0, .slice none 0 0, .int .i64 0, .int .i64 0, .bool false] 24)).alloc (.cells #[] 26)).ownsRow (w.heap.size + 1 + 1) 26 4 (.slice (some ⟨w.heap.size + 1 + 1, 0, none⟩) 0 0) 0 [] := by
    have := World.ownsRow_made (base := w.heap.size + 1 + 1) (e := 26) (size := 4) ((w.alloc (.cells #[.int .i64 room, .slice A l.length cap, .int .i64 sent, .int .i64 pad, .bool off] 24)).alloc (.cells #[.int .i64 0, .slice none 0 0, .int .i64 0, .int .i64 0, .bool false] 24)) #[] 0 (by simp) (by decide) (by simp)
    simpa using this
  have hb1 := hb0.alloc hb0.size (.cells #[] 26)
  have hrw1 := hr.rw.below hb1
  go_enter Tryd.func36, Tryd.ntmps36
  go_wp2_with (at_builtin; refine wpList_append_rw rfl (.tmp 5) (.tmp 7) 22 rfl _ 26 i0 _ 4 32 Tryd.underlying22 hi hz0 hz1 hz2 rfl (by decide) _ _ _ rfl hown0 _ _ _ rfl hrw1 (flatC_one _) ?c2 ?c3 ?c4 ?_)
  case c2 => unfold maxLen; omega
  case c3 => omega
  case c4 => simp
  intro v' w2 hown' hgr hne'
  have hbW : Below (w.heap.size + 1 + 1) ((w.alloc (.cells #[.int .i64 room, .slice A l.length cap, .int .i64 sent, .int .i64 pad, .bool off] 24)).alloc (.cells #[.int .i64 0, .slice none 0 0, .int .i64 0, .int .i64 0, .bool false] 24)) w2 := Below.of_grown ((Below.refl _ _).alloc (by simp) (.cells #[] 26)) hown0 hgr (by simp) (Nat.le_refl _)
  have HB := Lib.hid (hb0.trans (hbW.mono (by omega)))
  have g1 := carry (hbW.mono (by simp)) (carryA (.cells #[.int .i64 0, .slice none 0 0, .int .i64 0, .int .i64 0, .bool false] 24) (heap_alloc_new w (.cells #[.int .i64 room, .slice A l.length cap, .int .i64 sent, .int .i64 pad, .bool off] 24)))
  have g0 := carry (hbW.mono (by simp)) (heap_alloc_new1 w (.cells #[.int .i64 room, .slice A l.length cap, .int .i64 sent, .int .i64 pad, .bool off] 24) (.cells #[.int .i64 0, .slice none 0 0, .int .i64 0, .int .i64 0, .bool false] 24))
  obtain ⟨⟨c0, c1, c2, c3, c4⟩, ⟨f0, f1, f2, f3, f4⟩, hz⟩ := blk5 g1
  obtain ⟨⟨d0, d1, d2, d3, d4⟩, ⟨k0, k1, k2, k3, k4⟩, hz2⟩ := blk5 g0
  clear g0 g1
  obtain ⟨g, cap', rfl, hcap⟩ := Rw.form_ne hown' hne'
  have HO := Lib.hid hown'
  clear hown' hown0 hgr hne' hrw1 hbW hb0 hb1 hr
  go_wp2
  refine bodyPost_ret (v := .agg #[.int .i64 room, .slice (some ⟨g, 0, none⟩) l.length cap', .int .i64 sent, .int .i64 pad, .bool off]) (by simp [results, Tryd.results36, go_sem, *]) rfl (and_below ?_ fun hB => ?_)
  · repeat (first | (with_reducible exact HB.out) | refine Below.setCell ?_ (by simp) _)
  · refine ⟨_, _, rfl, hcap, ?_⟩
    refine ownsRow_mono ?_ (show w.heap.size ≤ w.heap.size + 1 + 1 by omega)
    repeat (first | (with_reducible exact HO.out) | refine ownsRow_setCell_below ?_ (by simp <;> omega) _)
end Go.Proofs.YtgpebdoafblacaaDoor
