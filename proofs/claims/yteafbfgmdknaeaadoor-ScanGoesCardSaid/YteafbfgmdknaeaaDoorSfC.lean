/- The walk of ScanGoes. Condition: the two tables of the library and that of the kinds with one form laid. -/
import Derived.Test.YteafbfgmdknaeaaDoorSfB
import Derived.Test.YteafbfgmdknaeaaDoorMgC
set_option linter.unusedVariables false
namespace Go.Proofs.YteafbfgmdknaeaaDoor
open Go.RowKit Go.PlainAid Gl L Vt
namespace Vt
/-- The right ones among the first commands. -/
def rts (l : List Cmd) (k : Nat) : List Cmd := (l.take k).filter fun c => isR c
theorem rts_all (l : List Cmd) (k : Nat) : ∀ c ∈ rts l k, isR c = true := fun c h => by
  unfold rts at h
  exact (List.mem_filter.1 h).2
theorem rts_len (l : List Cmd) (k : Nat) : (rts l k).length ≤ k := by
  unfold rts
  have := List.length_filter_le (fun c => isR c) (l.take k)
  rw [List.length_take] at this; omega
theorem rts_yes (l : List Cmd) (k : Nat) (h : k < l.length) (hc : isC (cK l k) (cA l k) (cB l k) (cR l k) = true) : rts l (k + 1) = rts l k ++ [(cK l k, cA l k, cB l k, cR l k)] := by
  unfold rts
  have hc' : isR (l.getD k d0) = true := hc
  rw [take_next l k h, List.filter_append, List.filter_cons_of_pos hc', List.filter_nil]
  rfl
theorem rts_no (l : List Cmd) (k : Nat) (h : k < l.length) (hc : isC (cK l k) (cA l k) (cB l k) (cR l k) = false) : rts l (k + 1) = rts l k := by
  unfold rts
  have hc' : ¬ isR (l.getD k d0) = true := by rw [show isR (l.getD k d0) = false from hc]; decide
  rw [take_next l k h, List.filter_append, List.filter_cons_of_neg hc', List.filter_nil, List.append_nil]
theorem btsL_snoc (l : List Cmd) (k a b r : Int) : btsL (l ++ [(k, a, b, r)]) = btsL l ++ bts k a b r := by rw [btsL_append]; congr 1; exact app_nil _
theorem flat_pre (l m : List Cmd) : (flatC (l ++ m)).take (l.length * 4) = flatC l := by rw [flatC_append, List.take_left' (flatC_len l)]
theorem flat_suf (l m : List Cmd) : (flatC (l ++ m)).drop (l.length * 4) = flatC m := by rw [flatC_append, List.drop_left' (flatC_len l)]
end Vt
set_option maxHeartbeats 16000000 in
theorem goes_core (v : Value) (l : List Cmd) (s : ByteArray) (W : World) (hr : Rw W v 4 l.length (flatC l)) (hl : l.length ≤ 200) (hs : s.size ≤ 1000) (h0 : Lst W W) : Calls Tryd.prog 6 #[v, .string s] W fun e w' => e = .returned (.bool true) ∧ Below W.heap.size W w' := by
  obtain ⟨i0, hi, hz0, hz1, hz2⟩ := info_parts Tryd.info23
  obtain ⟨A, cap, rfl, hc⟩ := cmds_row hr
  have d1 : decide ((200 : Int) < (l.length : Int)) = false := decide_eq_false (by omega)
  have d2 : decide ((1000 : Int) < (s.size : Int)) = false := decide_eq_false (by omega)
  have hC := Lib.hid hc
  have H0 := Lib.hid (h0.alloc (.cells #[] 23))
  have HL0 := Lib.hid (fun w' hb => h0.below (w2 := w') hb)
  have hown0 := World.ownsRow_made (e := 23) (size := 4) W #[] 0 (Nat.le_refl _) (by decide) (by simp)
  clear hc hr h0
  go_enter Tryd.func6, Tryd.ntmps6
  go_wp2
  go_loopw [5, 6, 7] (fun t u i wr => ∃ k : Nat, k ≤ l.length ∧ i = .int .i64 k ∧ t = .string (btsL (rts l k)) ∧ wr.ownsRow W.heap.size 23 4 u (rts l k).length (flatC (rts l k)) ∧ u ≠ .slice none 0 0 ∧ Lst W wr) (fun _ _ i _ => l.length - (intOf i).toNat)
  case atStart => exact ⟨0, Nat.zero_le _, rfl, rfl, hown0, by simp, H0.out⟩
  case round =>
    obtain ⟨k, hk, rfl, rfl, hown, hne, hL⟩ := hrel
    have HNE := Lib.hid hne
    have LR := Lib.hid hL
    have hlen := rts_len l k
    have hbz : (btsL (rts l k)).size ≤ 1600 := by
      have := costL_bd (rts l k)
      rw [btsL_size]; omega
    clear hne hL
    by_cases hlt : k < l.length
    · rcases hC.out with h0 | ⟨g, off, rfl, hcc⟩
      · omega
      obtain ⟨e0, e1, e2, e3⟩ := hcc k hlt
      have g0 := World.block_lt_of_cell? W _ e0
      have HP := Lib.hid (fun wz Fz => vput_any (cK l k) (cA l k) (cB l k) (cR l k) wz Fz)
      have hS := bts_size (cK l k) (cA l k) (cB l k) (cR l k)
      rw [← old_cell LR.out.2 _ _ g0] at e0 e1 e2 e3
      have hgr := Nat.lt_of_lt_of_le g0 LR.out.2.size
      clear hcc
      cases hq : isC (cK l k) (cA l k) (cB l k) (cR l k)
      · have hN := Lib.hid (rts_no l k hlt hq)
        rw [pv_no hq] at HP
        clear hq hS
        go_wp2_with fail
        refine (HP.out _ LR.out.1.2).mono ?_
        rintro e w1 ⟨rfl, hw1⟩
        have L1 := Lib.hid (LR.out.below hw1)
        have hown1 := ownsRow_below hown hw1
        clear hw1 hown
        go_wp2
        go_roundw
        case rel => exact ⟨k + 1, by omega, by go_num, by rw [hN.out], by rw [hN.out]; exact hown1, HNE.out, L1.out⟩
        case measure => simp [intOf]; omega
      · have hN := Lib.hid (rts_yes l k hlt hq)
        rw [pv_yes hq] at HP
        have hB := Lib.hid (btsL_snoc (rts l k) (cK l k) (cA l k) (cB l k) (cR l k))
        clear hq
        generalize cK l k = x0 at *
        generalize cA l k = x1 at *
        generalize cB l k = x2 at *
        generalize cR l k = x3 at *
        generalize bts x0 x1 x2 x3 = Sx at *
        generalize btsL (rts l k) = tk at *
        go_wp2_with fail
        refine (HP.out _ LR.out.1.2).mono ?_
        rintro e w1 ⟨rfl, hw1⟩
        have L1 := Lib.hid (LR.out.below hw1)
        have f0 := (old_cell hw1 _ _ hgr).trans e0
        have f1 := (old_cell hw1 _ _ hgr).trans e1
        have f2 := (old_cell hw1 _ _ hgr).trans e2
        have f3 := (old_cell hw1 _ _ hgr).trans e3
        have hr1 := row_lit4 w1 #[.int .i64 x0, .int .i64 x1, .int .i64 x2, .int .i32 x3] 23 [(x0, x1, x2, x3)] rfl 1
        have hb1 : Below w1.heap.size w1 (w1.alloc (.cells #[.int .i64 x0, .int .i64 x1, .int .i64 x2, .int .i32 x3] 23)) := (Below.refl _ _).alloc (Nat.le_refl _) _
        have hown1 := ownsRow_below (ownsRow_below hown hw1) hb1
        have L2 := L1.out.below hb1
        clear hw1 hown e0 e1 e2 e3
        go_wp2_with (at_builtin; refine wpList_append_rw rfl (.tmp 44) (.tmp 49) 29 rfl W.heap.size 23 i0 _ 4 32 Tryd.underlying29 hi hz0 hz1 hz2 rfl (by decide) _ _ _ rfl hown1 _ _ _ rfl hr1 (flatC_one _) ?c2 ?c3 ?c4 ?_)
        case c2 => unfold maxLen; (try simp); omega
        case c3 => (try simp); omega
        case c4 => exact L2.2.size
        intro v' w2 hown' hgrw hne'
        have hb2 := Below.of_grown L2.2 hown1 hgrw L2.2.size (Nat.le_refl _)
        have hown2 : w2.ownsRow W.heap.size 23 4 v' (rts l (k + 1)).length (flatC (rts l (k + 1))) := by
          rw [hN.out, flatC_append, List.length_append]; exact hown'
        have HNE' := Lib.hid (hne' HNE.out)
        have L3 := Lib.hid (HL0.out _ hb2)
        clear hown1 hown' hr1 hb1 hne' L2 f0 f1 f2 f3 hb2 hgrw
        go_wp2
        go_roundw
        case rel => exact ⟨k + 1, by omega, by go_num, by rw [hN.out, hB.out], hown2, HNE'.out, L3.out⟩
        case measure => simp [intOf]; omega
    · obtain rfl : k = l.length := by omega
      have hall := rts_all l l.length
      generalize rts l l.length = R at *
      obtain ⟨gr, capr, rfl, hcapr⟩ := Rw.form_ne hown HNE.out
      have hrR := Lib.hid (Rw.of_owns hown)
      have hA1 := Lib.hid (fun wz Tz => sall_any (btsL R ++ s) wz Tz (by rw [size_app]; omega))
      have hA2 := Lib.hid (fun wz Tz => sall_any s wz Tz (by omega))
      have hcs := all_some s.size s (Nat.le_refl _)
      generalize hG : btsL R = tR at *
      have HG := Lib.hid hG
      clear hown hlt hG hC
      rcases hcs with ⟨m, x, hA⟩ | hB
      · have hm : m.length ≤ 1000 := by
          have := btsL_one m hA.1
          have := congrArg ByteArray.size hA.2.1
          rw [size_app] at this; omega
        have hAA : AllR (tR ++ s) (R ++ m) x := by rw [← HG.out]; exact hA.ahead hall
        have HAA := Lib.hid hAA
        have HAm := Lib.hid hA
        clear hAA hA hall
        go_wp2_with fail
        refine (hA1.out _ LR.out.1.1).mono ?_
        intro e w1 h
        obtain ⟨v1, rfl, hr1, hw1, hv1⟩ := h.ok2 HAA.out
        have L1 := Lib.hid (LR.out.below hw1)
        have hrR1 := Lib.hid (hrR.out.below hw1)
        have hR1 := Lib.hid hr1
        have hV1 := Lib.hid hv1
        clear h hr1 hw1 hv1
        go_wp2_with fail
        refine (hA2.out _ L1.out.1.1).mono ?_
        intro e w2 h
        obtain ⟨v2, rfl, hr2, hw2, hv2⟩ := h.ok2 HAm.out
        obtain ⟨B2, cap2, rfl⟩ : ∃ B c, v2 = .slice B m.length c := by obtain ⟨_, B, c, e, _⟩ := hr2; exact ⟨B, c, e⟩
        have L2 := Lib.hid (L1.out.below hw2)
        have hrR2 := Lib.hid (hrR1.out.below hw2)
        have hR1' := Lib.hid (hR1.out.below hw2)
        have hR2 := Lib.hid hr2
        clear h hr2 hw2 hv2 hrR1 hR1
        have hx := Lib.hid (show (x.toList == x.toList) = true by simp)
        have hN : (R ++ m).length = R.length + m.length := List.length_append
        have hn1 : (((R ++ m).length : Int) == (R.length : Int) + (m.length : Int)) = true := by rw [hN]; simp
        rcases hV1.out with ⟨rfl, h0⟩ | ⟨g1, cap1, rfl, hcap1⟩
        · have hR0 : R = [] := List.eq_nil_of_length_eq_zero (by omega)
          have hm0 : m = [] := List.eq_nil_of_length_eq_zero (by omega)
          subst hR0 hm0
          clear hn1 hN
          have hn1 : ((([] ++ [] : List Cmd).length : Int) == (([] : List Cmd).length : Int) + (([] : List Cmd).length : Int)) = true := rfl
          go_wp2_with fail
          refine (ex6_any _ L2.out.1.1).mono ?_
          rintro e w3 ⟨rfl, hw3⟩
          have L3 := Lib.hid (L2.out.below hw3)
          have hR23 := Lib.hid (hR2.out.below hw3)
          have hrR3 := Lib.hid (hrR2.out.below hw3)
          clear hw3
          have HS1 := Lib.hid (rsame_yes (.slice none 0 0) (.slice (some ⟨gr, 0, none⟩) ([] : List Cmd).length capr) [] w3 ⟨rfl, _, _, rfl, .inl ⟨rfl, fun _ => rfl⟩⟩ hrR3.out (by decide))
          go_wp2_with fail
          refine HS1.out.mono ?_
          rintro e w4 ⟨rfl, hw4⟩
          have L4 := Lib.hid (L3.out.below hw4)
          have HS2 := Lib.hid (rsame_yes (.slice none 0 0) (.slice B2 ([] : List Cmd).length cap2) [] w4 ⟨rfl, _, _, rfl, .inl ⟨rfl, fun _ => rfl⟩⟩ (hR23.out.below hw4) (by decide))
          clear hw4
          go_wp2_with fail
          refine HS2.out.mono ?_
          rintro e w5 ⟨rfl, hw5⟩
          have L5 := Lib.hid (L4.out.below hw5)
          clear hw5
          go_wp2
          go_ret
          exact ⟨rfl, L5.out.2⟩
        · have hpre := hR1'.out.pre (m := R.length) (by omega)
          have hsuf := fun c => hR1'.out.suf (m := R.length) (by omega) c
          rw [flat_pre] at hpre
          rw [flat_suf] at hsuf
          rw [hN] at hsuf hcap1
          rw [Nat.add_sub_cancel_left] at hsuf
          simp only [Nat.zero_add] at hsuf
          have HPRE := Lib.hid hpre
          have HSUF := Lib.hid hsuf
          clear hpre hsuf hR1'
          generalize hNN : (R ++ m).length = N at *
          have HNN := Lib.hid hNN
          have HN2 := Lib.hid hN
          clear hNN hN
          go_wp2_with fail
          refine (ex6_any _ L2.out.1.1).mono ?_
          rintro e w3 ⟨rfl, hw3⟩
          have L3 := Lib.hid (L2.out.below hw3)
          have HS1 := Lib.hid (rsame_yes _ _ R w3 (HPRE.out.below hw3) (hrR2.out.below hw3) (by omega))
          have HSUF3 := Lib.hid (fun c => (HSUF.out c).below hw3)
          have hR23 := Lib.hid (hR2.out.below hw3)
          clear hw3
          go_wp2_with fail
          refine HS1.out.mono ?_
          rintro e w4 ⟨rfl, hw4⟩
          have L4 := Lib.hid (L3.out.below hw4)
          have HSUF4 := Lib.hid (fun c => (HSUF3.out c).below hw4)
          have hR24 := Lib.hid (hR23.out.below hw4)
          clear hw4 HPRE HSUF HSUF3 hR23 hrR2 HS1
          have hNm : N - R.length = m.length := by have := HN2.out; omega
          have HNm := Lib.hid hNm
          have hNle : R.length ≤ N := by have := HN2.out; omega
          by_cases hcc : cap1 = R.length
          · have hm0 : m.length = 0 := by omega
            have HM0 := Lib.hid (List.eq_nil_of_length_eq_zero hm0)
            have HS2 := Lib.hid (fun A c (ha : A = none → c = 0) => rsame_yes (.slice A (N - R.length) c) (.slice B2 m.length cap2) m w4 (by rw [HNm.out, HM0.out]; exact ⟨rfl, _, _, rfl, .inl ⟨rfl, ha⟩⟩) hR24.out (by omega))
            clear hm0 hNm
            go_wp2_with fail
            refine (HS2.out _ _ (fun h => by cases h)).mono ?_
            rintro e w5 ⟨rfl, hw5⟩
            have L5 := Lib.hid (L4.out.below hw5)
            clear hw5
            go_wp2
            go_ret
            exact ⟨rfl, L5.out.2⟩
          · have HS2 := Lib.hid (fun c => rsame_yes (.slice (some ⟨g1, R.length * 4, none⟩) (N - R.length) c) (.slice B2 m.length cap2) m w4 (by rw [HNm.out]; exact HSUF4.out c) hR24.out (by omega))
            clear hNm
            go_wp2_with fail
            refine (HS2.out _).mono ?_
            rintro e w5 ⟨rfl, hw5⟩
            have L5 := Lib.hid (L4.out.below hw5)
            clear hw5
            go_wp2
            go_ret
            exact ⟨rfl, L5.out.2⟩
      · have hBB : AllBad (tR ++ s) := by rw [← HG.out]; exact hB.ahead hall
        have HBB := Lib.hid hBB
        have HBm := Lib.hid hB
        clear hBB hB hall
        go_wp2_with fail
        refine (hA1.out _ LR.out.1.1).mono ?_
        intro e w1 h
        obtain ⟨rfl, hw1⟩ := h.bad HBB.out
        have L1 := Lib.hid (LR.out.below hw1)
        clear h hw1
        go_wp2_with fail
        refine (hA2.out _ L1.out.1.1).mono ?_
        intro e w2 h
        obtain ⟨rfl, hw2⟩ := h.bad HBm.out
        have L2 := Lib.hid (L1.out.below hw2)
        clear h hw2
        go_wp2_with fail
        refine (ex6_any _ L2.out.1.1).mono ?_
        rintro e w3 ⟨rfl, hw3⟩
        have L3 := Lib.hid (L2.out.below hw3)
        clear hw3
        go_wp2
        go_ret
        exact ⟨rfl, L3.out.2⟩
theorem scanGoes_law (v : Value) (l : List Cmd) (s : ByteArray) (W : World) (hr : Rw W v 4 l.length (flatC l)) (T : Tabs W 1 2) (F : Forms W 0) : Calls Tryd.prog 6 #[v, .string s] W fun e w' => e = .returned (.bool true) ∧ Below W.heap.size W w' := by
  have h0 : Lst W W := ⟨⟨T, F⟩, Below.refl _ _⟩
  by_cases hl : l.length ≤ 200
  · by_cases hs : s.size ≤ 1000
    · exact goes_core v l s W hr hl hs h0
    · obtain ⟨A, cap, rfl, hc⟩ := cmds_row hr
      have d1 : decide ((200 : Int) < (l.length : Int)) = false := decide_eq_false (by omega)
      have d2 : decide ((1000 : Int) < (s.size : Int)) = true := decide_eq_true (by omega)
      clear hc hr h0 hs T F
      go_enter Tryd.func6, Tryd.ntmps6
      go_wp2
      go_ret
      exact ⟨rfl, Below.refl _ _⟩
  · obtain ⟨A, cap, rfl, hc⟩ := cmds_row hr
    have d1 : decide ((200 : Int) < (l.length : Int)) = true := decide_eq_true (by omega)
    clear hc hr h0 hl T F
    go_enter Tryd.func6, Tryd.ntmps6
    go_wp2
    go_ret
    exact ⟨rfl, Below.refl _ _⟩
end Go.Proofs.YteafbfgmdknaeaaDoor
