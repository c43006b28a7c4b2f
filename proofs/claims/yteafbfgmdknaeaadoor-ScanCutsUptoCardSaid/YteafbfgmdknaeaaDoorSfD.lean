/- The walk of ScanCuts, where what came in is of at most a million bytes. Condition: the two tables of the library and that of the kinds with one form laid. -/
import Derived.Test.YteafbfgmdknaeaaDoorSfC
import Derived.Test.YteafbfgmdknaeaaDoorVtV
import Derived.BigGuardPart
set_option linter.unusedVariables false
namespace Go.Proofs.YteafbfgmdknaeaaDoor
open Go.RowKit Go.PlainAid Gl L Vt
/-- Where nothing is asked but the example. -/
def Skip (s : ByteArray) (at' : Int) : Prop := decide ((1000 : Int) < (s.size : Int)) = true ∨ decide ((1000 : Int) < (s.size : Int)) = false ∧ (decide (at' < 0) = true ∨ decide (at' < 0) = false ∧ decide ((s.size : Int) < at') = true)
set_option maxHeartbeats 8000000 in
theorem cuts_skip (s : ByteArray) (at' : Int) (W : World) (hs : s.size ≤ 2000000) (h : Skip s at') (h0 : Lst W W) : Calls Tryd.prog 7 #[.string s, .int .i64 at'] W fun e w' => e = .returned (.bool true) ∧ Below W.heap.size W w' := by
  have hA := Lib.hid (sall_any s W h0.1.1 hs)
  have H0 := Lib.hid h0
  have hcs := all_some s.size s (Nat.le_refl _)
  have hz : (s.size : Int) ≤ 2000000 := by omega
  clear h0
  rcases hcs with ⟨l, x, hl⟩ | hB
  · have HL := Lib.hid hl
    clear hl
    rcases h with h | ⟨hd, h | ⟨ha0, h⟩⟩
    all_goals
      go_enter Tryd.func7, Tryd.ntmps7
      go_wp2_with fail
      refine hA.out.mono ?_
      intro e w1 hh
      obtain ⟨v1, rfl, -, hw1, -⟩ := hh.ok2 HL.out
      have L1 := Lib.hid (H0.out.below hw1)
      clear hh hw1
      go_wp2_with fail
      refine (ex6_any _ L1.out.1.1).mono ?_
      rintro e w2 ⟨rfl, hw2⟩
      have L2 := Lib.hid (L1.out.below hw2)
      clear hw2
      go_wp2
      go_ret
      exact ⟨rfl, L2.out.2⟩
  · have HL := Lib.hid hB
    clear hB
    rcases h with h | ⟨hd, h | ⟨ha0, h⟩⟩
    all_goals
      go_enter Tryd.func7, Tryd.ntmps7
      go_wp2_with fail
      refine hA.out.mono ?_
      intro e w1 hh
      obtain ⟨rfl, hw1⟩ := hh.bad HL.out
      have L1 := Lib.hid (H0.out.below hw1)
      clear hh hw1
      go_wp2_with fail
      refine (ex6_any _ L1.out.1.1).mono ?_
      rintro e w2 ⟨rfl, hw2⟩
      have L2 := Lib.hid (L1.out.below hw2)
      clear hw2
      go_wp2
      go_ret
      exact ⟨rfl, L2.out.2⟩
set_option maxHeartbeats 8000000 in
theorem cuts_bad (s : ByteArray) (n : Nat) (W : World) (hs : s.size ≤ 1000) (hn : n ≤ s.size) (hB : AllBad s) (h0 : Lst W W) : Calls Tryd.prog 7 #[.string s, .int .i64 n] W fun e w' => e = .returned (.bool true) ∧ Below W.heap.size W w' := by
  have d1 : decide ((1000 : Int) < (s.size : Int)) = false := decide_eq_false (by omega)
  have hA := Lib.hid (sall_any s W h0.1.1 (by omega))
  have H0 := Lib.hid h0
  have HL := Lib.hid hB
  clear h0 hB
  go_enter Tryd.func7, Tryd.ntmps7
  go_wp2_with fail
  refine hA.out.mono ?_
  intro e w1 hh
  obtain ⟨rfl, hw1⟩ := hh.bad HL.out
  have L1 := Lib.hid (H0.out.below hw1)
  clear hh hw1
  go_wp2_with fail
  refine (ex6_any _ L1.out.1.1).mono ?_
  rintro e w2 ⟨rfl, hw2⟩
  have L2 := Lib.hid (L1.out.below hw2)
  clear hw2
  go_wp2
  go_ret
  exact ⟨rfl, L2.out.2⟩
set_option maxHeartbeats 40000000 in
theorem cuts_core (s : ByteArray) (n : Nat) (W : World) (hs : s.size ≤ 1000) (hn : n ≤ s.size) (a b : List Cmd) (left x : ByteArray) (hAll : AllR s (a ++ b) x) (hA1 : AllR (pre s n) a left) (hA2 : AllR (left ++ suf s n) b x) (h0 : Lst W W) : Calls Tryd.prog 7 #[.string s, .int .i64 n] W fun e w' => e = .returned (.bool true) ∧ Below W.heap.size W w' := by
  have d1 : decide ((1000 : Int) < (s.size : Int)) = false := decide_eq_false (by omega)
  have hl8 := stop_size hA1.2.2
  have hnext := stop_next hA1.2.2
  have hab : (a ++ b).length ≤ 1000 := by
    have := btsL_one (a ++ b) hAll.1
    have := congrArg ByteArray.size hAll.2.1
    rw [size_app] at this; omega
  have hcost : costL (a ++ b) + x.size = s.size := by
    have := congrArg ByteArray.size hAll.2.1
    rw [size_app, btsL_size] at this; omega
  have hsz2 : (suf s n).size ≤ 1000 := by rw [suf_size]; omega
  have hlz : left.size + (suf s n).size ≤ 2000 := by omega
  have c0 := Lib.hid (sall_any s W h0.1.1 (by omega))
  have c1 := Lib.hid (fun wz Tz => sall_any (pre s n) wz Tz (by rw [pre_size s n hn]; omega))
  have c2 := Lib.hid (fun wz Tz => sall_any (left ++ suf s n) wz Tz (by rw [size_app]; omega))
  have c3 := Lib.hid (fun wz Tz => snext_any left wz Tz (by unfold maxLen; omega))
  have K0 := Lib.hid hAll
  have K1 := Lib.hid hA1
  have K2 := Lib.hid hA2
  have H0 := Lib.hid h0
  clear hAll hA1 hA2 h0
  have hN : (a ++ b).length = a.length + b.length := List.length_append
  have HN := Lib.hid hN
  have n1 : ((a.length : Int) + (b.length : Int) == ((a ++ b).length : Int)) = true := by rw [hN]; simp
  have n2 : ((a.length : Int) + (b.length : Int) != ((a ++ b).length : Int)) = false := by rw [bne, n1]; rfl
  have n3 : ((costL (a ++ b) : Int) + (x.size : Int) == (s.size : Int)) = true := by simp; omega
  have n4 : (costL (a ++ b) : Int) ≤ 1000 := by omega
  have n5 : x.size ≤ 1000 := by omega
  have n6 : a.length + b.length ≤ 1000 := by omega
  clear hcost hN
  go_enter Tryd.func7, Tryd.ntmps7
  go_wp2_with fail
  refine c0.out.mono ?_
  intro e w1 hh
  obtain ⟨v0, rfl, hr0, hw1, hv0⟩ := hh.ok2 K0.out
  have L1 := Lib.hid (H0.out.below hw1)
  have R0 := Lib.hid hr0
  have V0 := Lib.hid hv0
  clear hh hw1 hr0 hv0
  go_wp2_with fail
  refine (c1.out _ L1.out.1.1).mono ?_
  intro e w2 hh
  obtain ⟨v1, rfl, hr1, hw2, -⟩ := hh.ok2 K1.out
  obtain ⟨A1, cap1, rfl⟩ : ∃ B c, v1 = .slice B a.length c := by obtain ⟨_, B, c, e, _⟩ := hr1; exact ⟨B, c, e⟩
  have L2 := Lib.hid (L1.out.below hw2)
  have R02 := Lib.hid (R0.out.below hw2)
  have R1 := Lib.hid hr1
  clear hh hw2 hr1 R0
  go_wp2_with fail
  refine (c2.out _ L2.out.1.1).mono ?_
  intro e w3 hh
  obtain ⟨v2, rfl, hr2, hw3, -⟩ := hh.ok2 K2.out
  obtain ⟨A2, cap2, rfl⟩ : ∃ B c, v2 = .slice B b.length c := by obtain ⟨_, B, c, e, _⟩ := hr2; exact ⟨B, c, e⟩
  have L3 := Lib.hid (L2.out.below hw3)
  have R03 := Lib.hid (R02.out.below hw3)
  have R13 := Lib.hid (R1.out.below hw3)
  have R2 := Lib.hid hr2
  clear hh hw3 hr2 R02 R1
  rcases V0.out with ⟨rfl, h0⟩ | ⟨g, cap, rfl, hcap⟩
  · have ha0 : a = [] := List.eq_nil_of_length_eq_zero (by have := HN.out; omega)
    have hb0 : b = [] := List.eq_nil_of_length_eq_zero (by have := HN.out; omega)
    subst ha0 hb0
    clear n1 n2
    have n1 : ((([] : List Cmd).length : Int) + (([] : List Cmd).length : Int) == (([] ++ [] : List Cmd).length : Int)) = true := rfl
    have n2 : ((([] : List Cmd).length : Int) + (([] : List Cmd).length : Int) != (([] ++ [] : List Cmd).length : Int)) = false := rfl
    have nilR : ∀ wz, Rw wz (.slice none 0 0) 4 ([] : List Cmd).length (flatC []) := fun wz => ⟨rfl, _, _, rfl, .inl ⟨rfl, fun _ => rfl⟩⟩
    have HCO := Lib.hid (fun wz Fz => vcost_any (.slice none 0 0) [] wz Fz (nilR wz) (by decide))
    have NR := Lib.hid nilR
    have n3' : ((costL ([] : List Cmd) : Int) + (x.size : Int) == (s.size : Int)) = true := n3
    have n4' : (costL ([] : List Cmd) : Int) ≤ 1000 := n4
    clear nilR V0 n3 n4
    generalize costL ([] : List Cmd) = C at *
    rcases hnext with ⟨h0, hx⟩ | ⟨h0, hx⟩
    all_goals
      rw [nx_one hx] at c3
      clear hx h0
      go_wp2_with fail
      refine (c3.out _ L3.out.1.1).mono ?_
      rintro e w4 ⟨rfl, hw4⟩
      unfold vN vC d0
      have L4 := Lib.hid (L3.out.below hw4)
      have R14 := Lib.hid (R13.out.below hw4)
      have R24 := Lib.hid (R2.out.below hw4)
      clear hw4
      go_wp2_with fail
      refine (ex6_any _ ((L4.out.alloc _).1.1)).mono ?_
      rintro e w5 ⟨rfl, hw5⟩
      have B5 := Lib.hid (bl1 hw5)
      have L5 := Lib.hid (L4.out.below B5.out)
      clear hw5
      go_wp2_with fail
      refine (HCO.out _ L5.out.1.2).mono ?_
      rintro e w6 ⟨rfl, hw6⟩
      have B6 := Lib.hid (B5.out.trans (hw6.mono B5.out.size))
      have L6 := Lib.hid (L4.out.below B6.out)
      have Q1 := Lib.hid (rsame_yes (.slice none 0 0) (.slice A1 ([] : List Cmd).length cap1) [] w6 (NR.out w6) (R14.out.below B6.out) (by decide))
      clear hw6
      go_wp2_with fail
      refine Q1.out.mono ?_
      rintro e w7 ⟨rfl, hw7⟩
      have B7 := Lib.hid (B6.out.trans (hw7.mono B6.out.size))
      have L7 := Lib.hid (L4.out.below B7.out)
      have Q2 := Lib.hid (rsame_yes (.slice none 0 0) (.slice A2 ([] : List Cmd).length cap2) [] w7 (NR.out w7) (R24.out.below B7.out) (by decide))
      clear hw7
      go_wp2_with fail
      refine Q2.out.mono ?_
      rintro e w8 ⟨rfl, hw8⟩
      have L8 := Lib.hid (L7.out.below hw8)
      clear hw8
      go_wp2
      go_ret
      exact ⟨rfl, L8.out.2⟩
  · have hpre := R03.out.pre (m := a.length) (by have := HN.out; omega)
    have hsuf := fun c => R03.out.suf (m := a.length) (by have := HN.out; omega) c
    rw [flat_pre] at hpre
    rw [flat_suf] at hsuf
    simp only [Nat.zero_add] at hsuf
    have hNm : (a ++ b).length - a.length = b.length := by have := HN.out; omega
    have hNle : a.length ≤ (a ++ b).length := by have := HN.out; omega
    have HNm := Lib.hid hNm
    rw [hNm] at hsuf
    have HPRE := Lib.hid hpre
    have HSUF := Lib.hid hsuf
    have HCO := Lib.hid (fun wz Fz hz => vcost_any (.slice (some ⟨g, 0, none⟩) (a ++ b).length cap) (a ++ b) wz Fz hz (by omega))
    clear hpre hsuf hNm V0
    generalize (a ++ b).length = N at *
    generalize costL (a ++ b) = C at *
    rcases hnext with ⟨h0, hx⟩ | ⟨h0, hx⟩
    all_goals
      rw [nx_one hx] at c3
      clear hx h0
      go_wp2_with fail
      refine (c3.out _ L3.out.1.1).mono ?_
      rintro e w4 ⟨rfl, hw4⟩
      unfold vN vC d0
      have L4 := Lib.hid (L3.out.below hw4)
      have R04 := Lib.hid (R03.out.below hw4)
      have R14 := Lib.hid (R13.out.below hw4)
      have R24 := Lib.hid (R2.out.below hw4)
      have P4 := Lib.hid (HPRE.out.below hw4)
      have S4 := Lib.hid (fun c => (HSUF.out c).below hw4)
      clear hw4
      go_wp2_with fail
      refine (ex6_any _ ((L4.out.alloc _).1.1)).mono ?_
      rintro e w5 ⟨rfl, hw5⟩
      have B5 := Lib.hid (bl1 hw5)
      have L5 := Lib.hid (L4.out.below B5.out)
      clear hw5
      go_wp2_with fail
      refine (HCO.out _ L5.out.1.2 (R04.out.below B5.out)).mono ?_
      rintro e w6 ⟨rfl, hw6⟩
      have B6 := Lib.hid (B5.out.trans (hw6.mono B5.out.size))
      have L6 := Lib.hid (L4.out.below B6.out)
      have Q1 := Lib.hid (rsame_yes _ _ a w6 (P4.out.below B6.out) (R14.out.below B6.out) (by omega))
      clear hw6
      go_wp2_with fail
      refine Q1.out.mono ?_
      rintro e w7 ⟨rfl, hw7⟩
      have B7 := Lib.hid (B6.out.trans (hw7.mono B6.out.size))
      have L7 := Lib.hid (L4.out.below B7.out)
      clear hw7
      by_cases hcc : cap = a.length
      · have hb0 : b.length = 0 := by have := HNm.out; omega
        have HB0 := Lib.hid (List.eq_nil_of_length_eq_zero hb0)
        have Q2 := Lib.hid (fun A c (ha : A = none → c = 0) => rsame_yes (.slice A (N - a.length) c) (.slice A2 b.length cap2) b w7 (by rw [HNm.out, HB0.out]; exact ⟨rfl, _, _, rfl, .inl ⟨rfl, ha⟩⟩) (R24.out.below B7.out) (by omega))
        clear hb0
        go_wp2_with fail
        refine (Q2.out _ _ (fun h => by cases h)).mono ?_
        rintro e w8 ⟨rfl, hw8⟩
        have L8 := Lib.hid (L7.out.below hw8)
        clear hw8
        go_wp2
        go_ret
        exact ⟨rfl, L8.out.2⟩
      · have Q2 := Lib.hid (fun c => rsame_yes (.slice (some ⟨g, a.length * 4, none⟩) (N - a.length) c) (.slice A2 b.length cap2) b w7 (by rw [HNm.out]; exact (S4.out c).below B7.out) (R24.out.below B7.out) (by omega))
        go_wp2_with fail
        refine (Q2.out _).mono ?_
        rintro e w8 ⟨rfl, hw8⟩
        have L8 := Lib.hid (L7.out.below hw8)
        clear hw8
        go_wp2
        go_ret
        exact ⟨rfl, L8.out.2⟩
theorem scanCuts_law (s : ByteArray) (at' : Int) (W : World) (hs : s.size ≤ 2000000) (T : Tabs W 1 2) (F : Forms W 0) : Calls Tryd.prog 7 #[.string s, .int .i64 at'] W fun e w' => e = .returned (.bool true) ∧ Below W.heap.size W w' := by
  have h0 : Lst W W := ⟨⟨T, F⟩, Below.refl _ _⟩
  by_cases h1 : s.size ≤ 1000
  · have d1 : decide ((1000 : Int) < (s.size : Int)) = false := decide_eq_false (by omega)
    by_cases ha : at' < 0
    · exact cuts_skip s at' W hs (.inr ⟨d1, .inl (decide_eq_true ha)⟩) h0
    by_cases hb : (s.size : Int) < at'
    · exact cuts_skip s at' W hs (.inr ⟨d1, .inr ⟨decide_eq_false ha, decide_eq_true hb⟩⟩) h0
    obtain ⟨n, rfl⟩ : ∃ n : Nat, at' = n := ⟨at'.toNat, by omega⟩
    rcases all_some s.size s (Nat.le_refl _) with ⟨l, x, hA⟩ | hB
    · have hA' := hA
      rw [pre_app s n (by omega)] at hA'
      obtain ⟨a, b, left, rfl, hA1, hA2⟩ := AllR.cut l x _ _ hA'
      exact cuts_core s n W h1 (by omega) a b left x hA hA1 hA2 h0
    · exact cuts_bad s n W h1 (by omega) hB h0
  · exact cuts_skip s at' W hs (.inl (decide_eq_true (by omega))) h0
end Go.Proofs.YteafbfgmdknaeaaDoor
