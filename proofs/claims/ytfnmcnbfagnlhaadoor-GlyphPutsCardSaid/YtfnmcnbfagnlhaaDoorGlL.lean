/- The walks of the six statements on glyph: each returns true, and turns nothing that was there. -/
import Derived.Test.YtfnmcnbfagnlhaaDoorGlE
set_option linter.unusedVariables false
namespace Go.Proofs.YtfnmcnbfagnlhaaDoor
open Go.RowKit Go.PlainAid Gl L

set_option maxHeartbeats 1000000 in
theorem puts_law (r : Int) (w : World) (T : Tabs w 0 1) :
   Calls Tryd.prog 3 #[.int .i32 r] w fun e w' => e = .returned (.bool true) ∧ Below w.heap.size w w' := by
  go_enter Tryd.func3, Tryd.ntmps3
  go_wp2_with fail
  refine (put_any _ _).mono ?_
  rintro e w1 ⟨rfl, rfl⟩
  go_wp2_with fail
  refine (rput_any _ _).mono ?_
  rintro e w1 ⟨rfl, h1⟩
  go_wp2_with fail
  refine (glyphs_any _ (T.below h1)).mono ?_
  rintro e w2 ⟨rfl, h2⟩
  have hw := h1.trans (h2.mono h1.size)
  go_wp2_with fail
  refine (is_any _ _).mono ?_
  rintro e w3 ⟨rfl, rfl⟩
  go_wp2_with fail
  refine (ris_any _ _).mono ?_
  rintro e w3 ⟨rfl, rfl⟩
  go_wp2
  go_ret
  exact ⟨by simp, hw⟩
set_option maxHeartbeats 1000000 in
theorem next_law (s : ByteArray) (w : World) (hs : s.size ≤ maxLen) (T : Tabs w 0 1) :
   Calls Tryd.prog 4 #[.string s] w fun e w' => e = .returned (.bool true) ∧ Below w.heap.size w w' := by
  have hm := hs
  unfold maxLen at hm
  by_cases hl : 1000 < s.size
  · go_enter Tryd.func4, Tryd.ntmps4
    go_wp2
    go_ret
    exact ⟨rfl, Below.refl _ _⟩
  · go_enter Tryd.func4, Tryd.ntmps4
    go_wp2_with fail
    refine (next_any _ _ hs T).mono ?_
    rintro e w1 ⟨rfl, h1⟩
    go_wp2_with fail
    refine (rnext_any _ _ (by omega)).mono ?_
    rintro e w2 ⟨rfl, h2⟩
    have h12 := h1.trans (h2.mono h1.size)
    go_wp2_with fail
    refine (glyphs_any _ (T.below h12)).mono ?_
    rintro e w3 ⟨rfl, h3⟩
    have hw := h12.trans (h3.mono h12.size)
    go_wp2
    go_ret
    exact ⟨rfl, hw⟩
set_option maxHeartbeats 1000000 in
theorem lists_law (s : ByteArray) (v : Value) (xs : List Int) (w : World) (hs : s.size ≤ maxLen) (hv : IsRow w v .i32 xs) (hx : xs.length ≤ maxLen) (T : Tabs w 0 1) :
   Calls Tryd.prog 5 #[.string s, v] w fun e w' => e = .returned (.bool true) ∧ Below w.heap.size w w' := by
  have hm := hs
  have hxm := hx
  unfold maxLen at hm hxm
  have hv' := hv
  obtain ⟨A, cap, rfl, _⟩ := hv'
  by_cases hl : 1000 < s.size
  · go_enter Tryd.func5, Tryd.ntmps5
    go_wp2
    go_ret
    exact ⟨rfl, Below.refl _ _⟩
  by_cases hl2 : 1000 < xs.length
  · go_enter Tryd.func5, Tryd.ntmps5
    go_wp2
    go_ret
    exact ⟨rfl, Below.refl _ _⟩
  have hsz := decL_len s
  go_enter Tryd.func5, Tryd.ntmps5
  go_wp2_with fail
  refine (glyphs_any _ T).mono ?_
  rintro e w1 ⟨rfl, h1⟩
  go_wp2_with fail
  refine (decode_any _ _ (by omega)).mono ?_
  rintro e w2 ⟨v2, rfl, hown2, h2⟩
  have hr2 := IsRow.of_owns hown2
  have h12 := h1.trans (h2.mono h1.size)
  clear hown2
  go_wp2_with fail
  refine (rdecode_any _ _ (by omega)).mono ?_
  rintro e w3 ⟨v3, rfl, hown3, h3⟩
  have hr3 := IsRow.of_owns hown3
  have h13 := h12.trans (h3.mono h12.size)
  clear hown3
  go_wp2_with fail
  refine (same_any _ _ (decL s) (decL s) _ (hr2.below h3) hr3 (by omega) (by omega)).mono ?_
  rintro e w4 ⟨rfl, h4⟩
  have h14 := h13.trans (h4.mono h13.size)
  rw [decide_eq_true rfl]
  go_wp2_with fail
  refine (encode_any _ xs _ (hv.below h14)).mono ?_
  rintro e w5 ⟨rfl, rfl⟩
  go_wp2_with fail
  refine (rencode_any _ xs _ (hv.below h14) (by omega)).mono ?_
  rintro e w6 ⟨rfl, h6⟩
  have h16 := h14.trans (h6.mono h14.size)
  go_wp2
  go_ret
  exact ⟨by simp, h16⟩

set_option maxRecDepth 100000 in
set_option maxHeartbeats 2000000 in
theorem back_law (r : Int) (s : ByteArray) (w : World) (hs : s.size ≤ maxLen) (T : Tabs w 0 1) :
   Calls Tryd.prog 6 #[.int .i32 r, .string s] w fun e w' => e = .returned (.bool true) ∧ Below w.heap.size w w' := by
  have hm := hs
  unfold maxLen at hm
  by_cases hl : 1000 < s.size
  · go_enter Tryd.func6, Tryd.ntmps6
    go_wp2
    go_ret
    exact ⟨rfl, Below.refl _ _⟩
  cases hv : vld r
  · have hE : putS r = ⟨#[]⟩ ∧ putE r = 1 := by unfold putS putE; rw [hv]; exact ⟨rfl, rfl⟩
    have HE := Lib.hid hE
    have HV := Lib.hid hv
    clear hE hv
    go_enter Tryd.func6, Tryd.ntmps6
    go_wp2_with fail
    refine (put_any _ _).mono ?_
    rintro e w1 ⟨rfl, rfl⟩
    rw [HE.out.1, HE.out.2]
    go_wp2_with fail
    refine (glyphs_any _ T).mono ?_
    rintro e w1 ⟨rfl, h1⟩
    go_wp2_with fail
    refine (is_any _ _).mono ?_
    rintro e w2 ⟨rfl, rfl⟩
    rw [HV.out]
    go_wp2_with fail
    go_ret
    exact ⟨rfl, h1⟩
  · have hE : putE r = 0 := by unfold putE; rw [hv]; rfl
    have HE := Lib.hid hE
    have HV := Lib.hid hv
    obtain ⟨z1, z4⟩ := put_size r hv
    have hN := Lib.hid (next_put r hv s)
    clear hE hv
    go_enter Tryd.func6, Tryd.ntmps6
    go_wp2_with fail
    refine (put_any _ _).mono ?_
    rintro e w1 ⟨rfl, rfl⟩
    rw [HE.out]
    go_wp2_with fail
    refine (next_any _ _ (by unfold maxLen; rw [ByteArray.size_append]; omega) T).mono ?_
    rintro e w1 ⟨rfl, h1⟩
    rw [hN.out.1, hN.out.2.1, hN.out.2.2]
    go_wp2_with fail
    go_loopw [10] (fun i wr => ∃ k : Nat, 1 ≤ k ∧ k ≤ (putS r).size ∧ i = .int .i64 k ∧ Below w.heap.size w wr) (fun i _ => (putS r).size - (intOf i).toNat)
    case atStart => exact ⟨1, by omega, by omega, rfl, h1⟩
    case round =>
      obtain ⟨k, k1, k2, rfl, hw⟩ := hrel
      by_cases hlt : k < (putS r).size
      · have hM := Lib.hid (put_more r HV.out k k1 hlt)
        have hpz := Lib.hid (pre_size (putS r) k (by omega))
        have hNx := Lib.hid (fun wz (Tz : Tabs wz 0 1) => next_any (pre (putS r) k) wz (by rw [pre_size _ _ (by omega)]; unfold maxLen; omega) Tz)
        go_wp2_with fail
        refine (hNx.out _ (T.below hw)).mono ?_
        rintro e w2 ⟨rfl, h2⟩
        rw [hM.out]
        have hw2 := hw.trans (h2.mono hw.size)
        go_wp2_with fail
        go_roundw
        case rel => exact ⟨k + 1, by omega, by omega, by go_num, hw2⟩
        case measure => simp [intOf]; omega
      · go_wp2_with fail
        refine (glyphs_any _ (T.below hw)).mono ?_
        rintro e w2 ⟨rfl, h2⟩
        have hw2 := hw.trans (h2.mono hw.size)
        go_wp2_with fail
        refine (is_any _ _).mono ?_
        rintro e w3 ⟨rfl, rfl⟩
        rw [HV.out]
        go_wp2_with fail
        go_ret
        exact ⟨rfl, hw2⟩
set_option maxRecDepth 100000 in
set_option maxHeartbeats 2000000 in
theorem more_law (s : ByteArray) (b : Int) (w : World) (hs : s.size ≤ 140737488351232) (hb : 0 ≤ b ∧ b ≤ 255) (T : Tabs w 0 1) :
   Calls Tryd.prog 8 #[.string s, .int .u8 b] w fun e w' => e = .returned (.bool true) ∧ Below w.heap.size w w' := by
  have hm : s.size ≤ maxLen := by unfold maxLen; omega
  by_cases h0 : s.size = 0
  · obtain rfl := of_size_zero s h0
    clear h0 hm hs
    have hE := Lib.hid ex_n3
    go_enter Tryd.func8, Tryd.ntmps8
    go_wp2_with fail
    refine (next_any _ _ (by decide) T).mono ?_
    rintro e w1 ⟨rfl, h1⟩
    rw [hE.out.1, hE.out.2.1, hE.out.2.2]
    go_wp2_with fail
    refine (glyphs_any _ (T.below h1)).mono ?_
    rintro e w2 ⟨rfl, h2⟩
    have hw2 := h1.trans (h2.mono h1.size)
    go_wp2_with fail
    go_ret
    exact ⟨rfl, hw2⟩
  cases hM : moreB s
  · obtain ⟨_, _, n3⟩ := next_ok s (by omega) hM
    have HN := Lib.hid n3
    have hne := ne_empty s (by omega)
    clear hM n3
    go_enter Tryd.func8, Tryd.ntmps8
    go_wp2_with fail
    refine (next_any _ _ hm T).mono ?_
    rintro e w1 ⟨rfl, h1⟩
    rw [HN.out]
    go_wp2_with fail
    refine (glyphs_any _ (T.below h1)).mono ?_
    rintro e w2 ⟨rfl, h2⟩
    have hw2 := h1.trans (h2.mono h1.size)
    go_wp2_with fail
    go_ret
    exact ⟨rfl, hw2⟩
  · obtain ⟨z1, z3, _⟩ := more_parts s hM
    obtain ⟨n1, n2, n3⟩ := next_more s z1 hM
    have HN := Lib.hid (And.intro n1 (And.intro n2 n3))
    have HB := Lib.hid (more_bad s hM)
    have hone := more_one s hM (UInt8.ofNat b.toNat)
    rw [show (⟨#[UInt8.ofNat b.toNat]⟩ : ByteArray) = strOfNums [b] from rfl] at hone
    have HO := Lib.hid hone
    clear hone
    have k1 := conv1 (P := Tryd.prog) 37 5 9 Tryd.underlying37 Tryd.underlying5 Tryd.underlying9
    have hsz : (strOfNums [b]).size ≤ 1 := by rw [strOfNums_size]; simp
    have hnx := fun wz (Tz : Tabs wz 0 1) => next_any (s ++ strOfNums [b]) wz (by unfold maxLen; rw [ByteArray.size_append]; omega) Tz
    have HX := Lib.hid hnx
    clear hM n1 n2 n3 hnx
    go_enter Tryd.func8, Tryd.ntmps8
    go_wp2_with fail
    refine (next_any _ _ hm T).mono ?_
    rintro e w1 ⟨rfl, h1⟩
    rw [HN.out.1, HN.out.2.1, HN.out.2.2]
    go_wp2_with fail
    refine (decode_any _ _ (by omega)).mono ?_
    rintro e w2 ⟨v, rfl, hown, h2⟩
    have hr := IsRow.of_owns hown
    rw [HB.out] at hr
    have hw2 := h1.trans (h2.mono h1.size)
    clear hown h1 h2 HB
    obtain ⟨A, cap, rfl, hr⟩ := hr
    rw [List.length_replicate] at hr ⊢
    rcases hr with hr | ⟨b1, off, rfl, hc⟩
    · have hrl := congrArg List.length hr
      rw [List.length_replicate, List.length_nil] at hrl
      omega
    have hc' : ∀ j, j < s.size → w2.cell? ⟨b1, off + j, none⟩ = some (.int .i32 65533) := fun j hj => by
      have := hc j hj
      rw [this, List.getD_eq_getElem?_getD, List.getElem?_replicate, if_pos hj]; rfl
    clear hc
    go_wp2_with fail
    go_loopw [9] (fun i wr => ∃ k : Nat, k ≤ s.size ∧ i = .int .i64 k ∧ Below w2.heap.size w2 wr) (fun i _ => s.size - (intOf i).toNat)
    case atStart => exact ⟨0, by omega, rfl, Below.refl _ _⟩
    case round =>
      obtain ⟨k, hk, rfl, hw⟩ := hrel
      by_cases hlt : k < s.size
      · have hcell : wr.cell? ⟨b1, off + k, none⟩ = some (.int .i32 65533) := by
          rw [hw.cell (World.block_lt_of_cell? w2 _ (hc' k hlt))]; exact hc' k hlt
        clear hc'
        go_wp2_with fail
        go_roundw
        case rel => exact ⟨k + 1, by omega, by go_num, hw⟩
        case measure => simp [intOf]; omega
      · clear hc'
        go_wp2_with fail
        refine (HX.out _ (((T.below hw2).below hw).below ((Below.refl _ _).alloc (Nat.le_refl _) _))).mono ?_
        rintro e w3 ⟨rfl, h3⟩
        have hwr := hw2.trans (hw.mono hw2.size)
        have hw3 := (hwr.alloc hwr.size _).trans (h3.mono (Nat.le_trans hwr.size (by simp)))
        clear h3 hwr hw
        rcases HO.out with e3 | ⟨e3, e2, e1⟩ | ⟨e3, e2, e1⟩
        · rw [e3]
          have HE := Lib.hid e3
          clear e3 HO
          go_wp2_with fail
          refine (glyphs_any _ (T.below hw3)).mono ?_
          rintro e w4 ⟨rfl, h4⟩
          have hw4 := hw3.trans (h4.mono hw3.size)
          go_wp2_with fail
          go_ret
          exact ⟨rfl, hw4⟩
        · rw [e3, e2]
          have HE := Lib.hid (And.intro e3 (And.intro e2 e1))
          clear e3 e2 e1 HO
          go_wp2_with fail
          refine (glyphs_any _ (T.below hw3)).mono ?_
          rintro e w4 ⟨rfl, h4⟩
          have hw4 := hw3.trans (h4.mono hw3.size)
          go_wp2_with fail
          refine (is_any _ _).mono ?_
          rintro e w5 ⟨rfl, rfl⟩
          rw [HE.out.2.2]
          go_wp2_with fail
          go_ret
          exact ⟨rfl, hw4⟩
        · rw [e3, e2, e1]
          have HE := Lib.hid (And.intro e3 (And.intro e2 e1))
          clear e3 e2 e1 HO
          go_wp2_with fail
          refine (glyphs_any _ (T.below hw3)).mono ?_
          rintro e w4 ⟨rfl, h4⟩
          have hw4 := hw3.trans (h4.mono hw3.size)
          go_wp2_with fail
          go_ret
          exact ⟨rfl, hw4⟩
theorem is_same (r : Int) (w : World) : Calls Tryd.prog 12 #[.int .i32 r] w fun e w' => e = .returned (.bool (vld r)) ∧ w' = w :=
  (is_any r w).mono fun _ _ h => ⟨h.1, h.2.symm⟩
set_option maxRecDepth 100000 in
set_option maxHeartbeats 4000000 in
theorem goes_law (v : Value) (xs : List Int) (s : ByteArray) (w : World) (hs : s.size ≤ maxLen) (hv : IsRow w v .i32 xs) (hx : xs.length ≤ maxLen) (T : Tabs w 0 1) :
   Calls Tryd.prog 7 #[v, .string s] w fun e w' => e = .returned (.bool true) ∧ Below w.heap.size w w' := by
  have hm := hs
  have hxm := hx
  unfold maxLen at hm hxm
  have hv' := hv
  obtain ⟨A, cap, rfl, hA⟩ := hv'
  by_cases hl : 1000 < s.size
  · go_enter Tryd.func7, Tryd.ntmps7
    go_wp2
    go_ret
    exact ⟨rfl, Below.refl _ _⟩
  by_cases hl2 : 1000 < xs.length
  · go_enter Tryd.func7, Tryd.ntmps7
    go_wp2
    go_ret
    exact ⟨rfl, Below.refl _ _⟩
  have hq1 : decide (1000 < (s.size : Int)) = false := by simp; omega
  have hq2 : decide (1000 < (xs.length : Int)) = false := by simp; omega
  have hsz := decL_len s
  have hrs : (runesBytes xs).size ≤ 4000 := by have := runesBytes_size_le xs; omega
  have hd := dec_enc xs s
  have HD := Lib.hid hd
  have hdl : (decL (runesBytes xs ++ s)).length = xs.length + (decL s).length := by rw [hd]; simp
  have HL := Lib.hid hdl
  have hvd := Lib.hid (vld_decL (runesBytes xs ++ s))
  have HX := Lib.hid (fun wz => decode_any (runesBytes xs ++ s) wz (by rw [ByteArray.size_append]; omega))
  have hmx : ∀ k, k < xs.length → (decL (runesBytes xs ++ s)).getD k 0 = fixI (xs.getD k 0) := fun k hk => by
    rw [hd, List.getD_eq_getElem?_getD, List.getElem?_append_left (by simpa using hk), List.getElem?_map, List.getD_eq_getElem?_getD, List.getElem?_eq_getElem hk]; rfl
  have hmy : ∀ k, xs.length ≤ k → (decL (runesBytes xs ++ s)).getD k 0 = (decL s).getD (k - xs.length) 0 := fun k hk => by
    rw [hd, List.getD_eq_getElem?_getD, List.getElem?_append_right (by simpa using hk), List.length_map, ← List.getD_eq_getElem?_getD]
  have HMX := Lib.hid hmx
  have HMY := Lib.hid hmy
  clear hd hdl hmx hmy
  go_enter Tryd.func7, Tryd.ntmps7
  go_wp2_with fail
  refine (encode_any _ xs _ hv).mono ?_
  rintro e w1 ⟨rfl, rfl⟩
  go_wp2_with fail
  refine (HX.out _).mono ?_
  rintro e w2 ⟨va, rfl, hown2, h2⟩
  have hr2 := IsRow.of_owns hown2
  clear hown2
  go_wp2_with fail
  refine (decode_any _ _ (by omega)).mono ?_
  rintro e w3 ⟨vb, rfl, hown3, h3⟩
  have hr3 := IsRow.of_owns hown3
  have h13 := h2.trans (h3.mono h2.size)
  have hr2' := hr2.below h3
  have hv3 := hv.below h13
  clear hown3 hr2 hv hA
  generalize hga : decL (runesBytes xs ++ s) = ds at hr2' HL hvd HMX HMY HD
  generalize hgb : decL s = bs at hr3 HL HMY hsz HD
  have HGA := Lib.hid hga
  have HGB := Lib.hid hgb
  clear hga hgb
  obtain ⟨B, capa, rfl, hB⟩ := hr2'
  obtain ⟨C, capb, rfl, hC⟩ := hr3
  have hal : ds.length ≤ 2000 := by have := HL.out; omega
  have hnq : ((ds.length : Int) != (xs.length : Int) + bs.length) = false := by have := HL.out; rw [this]; simp
  have hq3 : decide (s.size < bs.length) = false := by simp; omega
  obtain ⟨A', cap', eA, hA⟩ := hv3
  cases eA
  go_wp2_with fail
  go_loopw [7] (fun i wr => ∃ k : Nat, k ≤ ds.length ∧ i = .int .i64 k ∧ Below w3.heap.size w3 wr) (fun i _ => ds.length - (intOf i).toNat)
  case atStart => exact ⟨0, by omega, rfl, Below.refl _ _⟩
  case round =>
    obtain ⟨k, hk, rfl, hw⟩ := hrel
    have HQ := Lib.hid hnq
    have h1w := h13.trans (hw.mono h13.size)
    clear hnq
    by_cases hlt : k < ds.length
    · have hxv : vld (ds.getD k 0) = true := hvd.out _ (by rw [List.getD_eq_getElem?_getD, List.getElem?_eq_getElem hlt]; exact List.getElem_mem hlt)
      have HXV := Lib.hid hxv
      clear hxv
      rcases hB with rfl | ⟨b1, o1, rfl, hB⟩
      · simp at hlt
      have hc1 : wr.cell? ⟨b1, o1 + k, none⟩ = some (.int .i32 (ds.getD k 0)) := by
        rw [hw.cell (World.block_lt_of_cell? w3 _ (hB k hlt))]; exact hB k hlt
      clear hB
      by_cases hkx : k < xs.length
      · have hg1 : decide (xs.length ≤ k) = false := by simp; omega
        have hg2 : decide ((xs.length : Int) ≤ (k : Int)) = false := by simp; omega
        rcases hA with rfl | ⟨b2, o2, rfl, hA⟩
        · simp at hkx
        have hc2 : wr.cell? ⟨b2, o2 + k, none⟩ = some (.int .i32 (xs.getD k 0)) := by
          rw [hw.cell (World.block_lt_of_cell? w3 _ (hA k hkx))]; exact hA k hkx
        clear hA hC
        have hfx := HMX.out k hkx
        generalize hga' : ds.getD k 0 = x at hc1 HXV hfx
        generalize hgb' : xs.getD k 0 = y at hc2 hfx
        have HGA' := Lib.hid hga'
        have HGB' := Lib.hid hgb'
        clear hga' hgb'
        cases hvy : vld y
        · obtain rfl : x = 65533 := by rw [hfx]; unfold fixI; rw [hvy]; rfl
          have hne : ((65533 : Int) != y) = true := by
            rw [bne_iff_ne]; rintro rfl; rw [HXV.out] at hvy; cases hvy
          have HY := Lib.hid hvy
          have hcall : ∀ wz : World, Calls Tryd.prog 12 #[.int .i32 y] wz fun e w' => e = .returned (.bool false) ∧ w' = wz := fun wz => by
            have := is_same y wz
            rw [hvy] at this
            exact this
          have HC := Lib.hid hcall
          clear hvy hfx hcall
          have hi := Lib.hid hlt
          go_wp2_with fail
          refine (is_any _ _).mono ?_
          rintro e w5 ⟨rfl, rfl⟩
          rw [HXV.out]
          go_wp2_with fail
          go_quiet ((go_at_call 12; exact Calls.quiet_of_same (HC.out _)))
          go_wp2_with fail
          go_quiet (fail)
          go_wp2_with fail
          go_roundw
          case rel => exact ⟨k + 1, by omega, by go_num, below_drewN hw _⟩
          case measure => simp [intOf]; omega
        · obtain rfl : x = y := by rw [hfx]; unfold fixI; rw [hvy]; rfl
          clear hfx hvy
          go_wp2_with fail
          refine (is_any _ _).mono ?_
          rintro e w5 ⟨rfl, rfl⟩
          rw [HXV.out]
          go_wp2_with fail
          go_quiet (fail)
          go_wp2_with fail
          go_quiet (fail)
          go_wp2_with fail
          go_roundw
          case rel => exact ⟨k + 1, by omega, by go_num, below_drewN hw _⟩
          case measure => simp [intOf]; omega
      · have hg1 : decide (k < xs.length) = false := by simp; omega
        have hg2 : decide ((k : Int) < (xs.length : Int)) = false := by simp; omega
        have hg3 : decide (xs.length ≤ k) = true := by simp; omega
        have hky : k - xs.length < bs.length := by have := HL.out; omega
        rcases hC with rfl | ⟨b2, o2, rfl, hC⟩
        · simp at hky
        have hc2 : wr.cell? ⟨b2, o2 + (k - xs.length), none⟩ = some (.int .i32 (bs.getD (k - xs.length) 0)) := by
          rw [hw.cell (World.block_lt_of_cell? w3 _ (hC _ hky))]; exact hC _ hky
        clear hA hC
        have hfx := HMY.out k (by omega)
        rw [← hfx] at hc2
        generalize hga' : ds.getD k 0 = x at hc1 HXV hc2
        clear hfx hga'
        go_wp2_with fail
        refine (is_any _ _).mono ?_
        rintro e w5 ⟨rfl, rfl⟩
        rw [HXV.out]
        have s1 : IntKind.i64.wrap ((k : Int) - xs.length) = (k : Int) - xs.length := IntWalk.i64_in _ (by omega)
        have s2 : 0 ≤ (k : Int) - xs.length := by omega
        have s3 : ((k : Int) - xs.length).toNat = k - xs.length := by omega
        have s4 : (k : Int) - xs.length < bs.length := by omega
        go_wp2_with fail
        go_quiet (fail)
        go_wp2_with fail
        go_quiet (fail)
        clear s1 s2 s3 s4
        go_wp2_with fail
        go_roundw
        case rel => exact ⟨k + 1, by omega, by go_num, below_drewN hw _⟩
        case measure => simp [intOf]; omega
    · clear hA hB hC
      go_wp2_with fail
      refine (glyphs_any _ (T.below h1w)).mono ?_
      rintro e w4 ⟨rfl, h4⟩
      go_wp2_with fail
      go_ret
      exact ⟨rfl, h1w.trans (h4.mono h1w.size)⟩
end Go.Proofs.YtfnmcnbfagnlhaaDoor
