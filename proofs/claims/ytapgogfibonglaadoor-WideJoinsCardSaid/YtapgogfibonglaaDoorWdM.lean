/- The walks of WideRows and WideJoins: each returns true, and turns nothing that was there. -/
import Derived.Test.YtapgogfibonglaaDoorWdF
import Derived.Test.YtapgogfibonglaaDoorWdQ
set_option linter.unusedVariables false
namespace Go.Proofs.YtapgogfibonglaaDoor
open Go.RowKit Gl L Wd
set_option maxHeartbeats 1000000 in
theorem rows_law (v : Value) (xs : List Int) (w : World) (hv : IsRow w v .i32 xs) (hx : xs.length ≤ maxLen) (S : Spans w 0) : Calls Tryd.prog 5 #[v] w fun e w' => e = .returned (.bool true) ∧ Below w.heap.size w w' := by
  have hxm := hx
  unfold maxLen at hxm
  have hv' := hv
  obtain ⟨A, cap, rfl, _⟩ := hv'
  by_cases hl : 1000 < xs.length
  · have d1 : decide ((1000 : Int) < (xs.length : Int)) = true := by simp; omega
    go_enter Tryd.func5, Tryd.ntmps5
    go_wp2
    go_ret
    exact ⟨rfl, Below.refl _ _⟩
  have hrl := (row_len xs).2
  go_enter Tryd.func5, Tryd.ntmps5
  go_wp2_with fail
  refine (widths_any _ S).mono ?_
  rintro e w1 ⟨rfl, hw1⟩
  go_wp2_with fail
  refine (row_any _ xs _ (hv.below hw1) (by omega) (S.below hw1)).mono ?_
  rintro e w2 ⟨g2, cap2, rfl, _, hown2, hw2⟩
  have hr2 := Rw.of_owns hown2
  have hw12 := hw1.trans (hw2.mono hw1.size)
  clear hown2
  go_wp2_with fail
  refine (rrow_any _ xs _ (hv.below hw12) (by omega)).mono ?_
  rintro e w3 ⟨g3, cap3, rfl, _, hown3, hw3⟩
  have hr3 := Rw.of_owns hown3
  have hw13 := hw12.trans (hw3.mono hw12.size)
  clear hown3
  go_wp2_with fail
  refine (same2_any _ _ (row xs) (row xs) _ (hr2.below hw3) hr3 (by omega) (by omega)).mono ?_
  rintro e w4 ⟨rfl, hw4⟩
  rw [decide_eq_true rfl]
  have hw14 := hw13.trans (hw4.mono hw13.size)
  go_wp2
  go_ret
  exact ⟨rfl, hw14⟩
theorem Tryd.info21 : (Tryd.prog.info? 21).map (fun i => (i.zero, i.size, i.bytes)) = some (some (.int .i32 0), 1, 4) := by kernel_rfl
set_option maxRecDepth 100000 in
set_option maxHeartbeats 4000000 in
theorem joins_law (va vb : Value) (xs ys : List Int) (w : World) (ha : IsRow w va .i32 xs) (hx : xs.length ≤ maxLen) (na : ∀ c, va = .slice none 0 c → c = 0) (hb : IsRow w vb .i32 ys) (hy : ys.length ≤ maxLen) (nb : ∀ c, vb = .slice none 0 c → c = 0) (S : Spans w 0) :
    Calls Tryd.prog 6 #[va, vb] w fun e w' => e = .returned (.bool true) ∧ Below w.heap.size w w' := by
  have hxm := hx
  have hym := hy
  unfold maxLen at hxm hym
  have hra := ha.toRw na
  have hrb := hb.toRw nb
  have ha' := ha
  obtain ⟨A, capa, rfl, _⟩ := ha'
  have hb' := hb
  obtain ⟨B, capb, rfl, _⟩ := hb'
  by_cases hl : 1000 < xs.length
  · have d1 : decide ((1000 : Int) < (xs.length : Int)) = true := by simp; omega
    clear na nb
    go_enter Tryd.func6, Tryd.ntmps6
    go_wp2
    go_ret
    exact ⟨rfl, Below.refl _ _⟩
  have d1 : decide ((1000 : Int) < (xs.length : Int)) = false := by simp; omega
  by_cases hl2 : 1000 < ys.length
  · have d2 : decide ((1000 : Int) < (ys.length : Int)) = true := by simp; omega
    clear na nb
    go_enter Tryd.func6, Tryd.ntmps6
    go_wp2
    go_ret
    exact ⟨rfl, Below.refl _ _⟩
  have d2 : decide ((1000 : Int) < (ys.length : Int)) = false := by simp; omega
  obtain ⟨i0, hi, hz0, hz1, hz2⟩ := info_parts Tryd.info21
  clear na nb
  have hown0 := World.ownsRow_made (e := 21) (size := 1) w #[] 0 (Nat.le_refl _) (by decide) (by simp)
  have hb0 : Below w.heap.size w (w.alloc (.cells #[] 21)) := (Below.refl _ _).alloc (Nat.le_refl _) _
  have hra0 := hra.below hb0
  go_enter Tryd.func6, Tryd.ntmps6
  go_wp2_with (at_builtin; refine wpList_append_rw rfl (.tmp 20) (.tmp 21) 31 rfl w.heap.size 21 i0 _ 1 4 Tryd.underlying31 hi hz0 hz1 hz2 rfl (by decide) _ _ _ rfl hown0 _ _ _ rfl hra0 (ints_one _ _) ?c2 ?c3 ?c4 ?_)
  case c2 => unfold maxLen; omega
  case c3 => omega
  case c4 => exact hb0.size
  intro v1 w1 hown1 hg1 _
  have hw1 := Below.of_grown hb0 hown0 hg1 hb0.size (Nat.le_refl _)
  have hrb1 := hrb.below hw1
  clear hown0 hra0 hg1
  go_wp2_with (at_builtin; refine wpList_append_rw rfl (.tmp 23) (.tmp 24) 31 rfl w.heap.size 21 i0 _ 1 4 Tryd.underlying31 hi hz0 hz1 hz2 rfl (by decide) _ _ _ rfl hown1 _ _ _ rfl hrb1 (ints_one _ _) ?d2 ?d3 ?d4 ?_)
  case d2 => unfold maxLen; omega
  case d3 => omega
  case d4 => exact hw1.size
  intro v2 w2 hown2 hg2 _
  have hw2 := Below.of_grown hw1 hown1 hg2 hw1.size (Nat.le_refl _)
  have hown2' : w2.ownsRow w.heap.size 21 1 v2 (xs ++ ys).length (ints .i32 (xs ++ ys)) := by rw [List.length_append, ← ints_append]; exact hown2
  have hr2 := IsRow.of_owns hown2'
  have hlz : (xs ++ ys).length ≤ 2000 := by rw [List.length_append]; omega
  clear hown1 hg2 hrb1 hown2 hown2'
  go_wp2_with fail
  refine (row_any _ xs _ (ha.below hw2) (by omega) (S.below hw2)).mono ?_
  rintro e w3 ⟨g3, cap3, rfl, _, hown3, hb3⟩
  have hr3 := Rw.of_owns hown3
  have hw3 := hw2.trans (hb3.mono hw2.size)
  have hr2 := hr2.below hb3
  clear hb3 hown3
  go_wp2_with fail
  refine (row_any _ ys _ (hb.below hw3) (by omega) (S.below hw3)).mono ?_
  rintro e w4 ⟨g4, cap4, rfl, _, hown4, hb4⟩
  have hr4 := Rw.of_owns hown4
  have hw4 := hw3.trans (hb4.mono hw3.size)
  have hr2 := hr2.below hb4
  have hr3 := hr3.below hb4
  clear hb4 hown4
  go_wp2_with fail
  refine (row_any _ (xs ++ ys) _ hr2 (by omega) (S.below hw4)).mono ?_
  rintro e w5 ⟨g5, cap5, rfl, hcap5, hown5, hb5⟩
  have hr5 := Rw.of_owns hown5
  have hw5 := hw4.trans (hb5.mono hw4.size)
  have hr2 := hr2.below hb5
  have hr3 := hr3.below hb5
  have hr4 := hr4.below hb5
  clear hb5 hown5
  have hlen : (row (xs ++ ys)).length = (row xs).length + (row ys).length := by rw [row_append, List.length_append]
  have q1 := (row_len xs).2
  have q2 := (row_len ys).2
  have hpre := hr5.pre (m := (row xs).length) (by omega)
  have hsuf := fun c => hr5.suf (m := (row xs).length) (by omega) c
  rw [row_append, flat_append] at hpre hsuf
  rw [List.take_left' (flat_len _)] at hpre
  rw [List.drop_left' (flat_len _), List.length_append, Nat.add_sub_cancel_left] at hsuf
  simp only [Nat.zero_add] at hsuf
  have hq : (((row (xs ++ ys)).length : Int) == ((row xs).length : Int) + ((row ys).length : Int)) = true := by simp [hlen]
  have hq' : (((row (xs ++ ys)).length : Int) != ((row xs).length : Int) + ((row ys).length : Int)) = false := by simp [hlen]
  have HLEN := Lib.hid hlen
  have HSUF := Lib.hid hsuf
  clear hlen hsuf hr5
  obtain ⟨A2, cap2, rfl, hA2⟩ := hr2
  have hzl : (xs ++ ys).length = xs.length + ys.length := List.length_append
  have HZL := Lib.hid hzl
  clear hzl
  generalize hzs : xs ++ ys = zs at *
  have HZ := Lib.hid hzs
  clear hzs
  go_wp2_with fail
  go_loopw [9, 10] (fun n i wr => ∃ k : Nat, k ≤ zs.length ∧ i = .int .i64 k ∧ n = .int .i64 ((row (zs.take k)).length : Nat) ∧ Below w5.heap.size w5 wr) (fun _ i _ => zs.length - (intOf i).toNat)
  case atStart => exact ⟨0, by omega, rfl, rfl, Below.refl _ _⟩
  case round =>
    obtain ⟨k, hk, rfl, rfl, hwr⟩ := hrel
    have hwr5 := hw5.trans (hwr.mono hw5.size)
    by_cases hlt : k < zs.length
    · rcases hA2 with rfl | ⟨b, off, rfl, hc⟩
      · simp at hlt
      have hcell : wr.cell? ⟨b, off + k, none⟩ = some (.int .i32 (zs.getD k 0)) := by
        rw [hwr.cell (World.block_lt_of_cell? w5 _ (hc k hlt))]; exact hc k hlt
      have HT := Lib.hid (row_take hlt)
      have hrl := (row_len (zs.take k)).2
      rw [List.length_take] at hrl
      clear hc
      generalize hx : zs.getD k 0 = x at hcell HT
      have HX := Lib.hid hx
      clear hx
      have hwd : wd x = 1 ∨ wd x = 2 := by have := cl_len x; unfold wd; omega
      have HWD := Lib.hid hwd
      have hwd1 : 1 ≤ wd x := by omega
      have hwd2 : wd x ≤ 2 := by omega
      clear hwd
      go_wp2_with fail
      refine (width_any _ _ (S.below hwr5)).mono ?_
      rintro e w6 ⟨rfl, hb6⟩
      have hw6 := hwr.trans (hb6.mono hwr.size)
      go_wp2_with fail
      go_roundw
      case rel => exact ⟨k + 1, by omega, by go_num, by rw [HT.out, List.length_append]; unfold wd; go_num, hw6⟩
      case measure => simp [intOf]; omega
    · obtain rfl : k = zs.length := by omega
      have hr3 := hr3.below hwr
      have hr4 := hr4.below hwr
      have hpre := hpre.below hwr
      have HSUF := Lib.hid (fun c => (HSUF.out c).below hwr)
      rw [List.take_length]
      go_wp2_with fail
      refine (widths_any _ (S.below hwr5)).mono ?_
      rintro e w6 ⟨rfl, hb6⟩
      have hwr6 := hwr5.trans (hb6.mono hwr5.size)
      have hr3 := hr3.below hb6
      have hr4 := hr4.below hb6
      have hpre := hpre.below hb6
      have HSUF := Lib.hid (fun c => (HSUF.out c).below hb6)
      have hle : (row xs).length ≤ (row zs).length := by have := HLEN.out; omega
      go_wp2_with fail
      refine (same2_any _ _ (row xs) (row xs) _ hpre hr3 (by omega) (by omega)).mono ?_
      rintro e w7 ⟨rfl, hb7⟩
      rw [decide_eq_true rfl]
      have hwr7 := hwr6.trans (hb7.mono hwr6.size)
      have hr4 := hr4.below hb7
      have HSUF := Lib.hid (fun c => (HSUF.out c).below hb7)
      by_cases hc : cap5 = (row xs).length
      · have h0 : (row ys).length = 0 := by have := HLEN.out; omega
        have hnil : row ys = [] := List.eq_nil_of_length_eq_zero h0
        have HN := Lib.hid hnil
        clear hnil
        go_wp2_with fail
        rw [show (row zs).length - (row xs).length = 0 by have := HLEN.out; omega]
        refine (same2_any _ _ [] [] _ ⟨rfl, _, _, rfl, .inl ⟨rfl, fun h => by cases h⟩⟩ ⟨rfl, _, _, rfl, .inl ⟨rfl, fun h => by cases h⟩⟩ (by simp) (by simp)).mono ?_
        rintro e w8 ⟨rfl, hb8⟩
        rw [decide_eq_true rfl]
        have hwr8 := hwr7.trans (hb8.mono hwr7.size)
        go_wp2
        go_ret
        exact ⟨rfl, hwr8⟩
      · go_wp2_with fail
        rw [show (row zs).length - (row xs).length = (row ys).length by have := HLEN.out; omega]
        refine (same2_any _ _ (row ys) (row ys) _ (HSUF.out _) hr4 (by omega) (by omega)).mono ?_
        rintro e w8 ⟨rfl, hb8⟩
        rw [decide_eq_true rfl]
        have hwr8 := hwr7.trans (hb8.mono hwr7.size)
        go_wp2
        go_ret
        exact ⟨rfl, hwr8⟩
end Go.Proofs.YtapgogfibonglaaDoor
