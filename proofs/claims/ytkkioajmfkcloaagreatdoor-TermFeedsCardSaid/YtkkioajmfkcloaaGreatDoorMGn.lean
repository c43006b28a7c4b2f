/- The contracts of glyph: what is told next. -/
import Derived.Test.YtkkioajmfkcloaaGreatDoorMGi
import Derived.Test.YtkkioajmfkcloaaGreatDoorMGp
import Derived.BigQuiet
import Derived.Test.YtkkioajmfkcloaaGreatDoorGlF
/- The contracts of the reference's value and whole: strings of 1 to 4 bytes. -/
namespace Go.Proofs.YtkkioajmfkcloaaGreatDoor
open Go.RowKit Go.PlainAid Gl L
set_option maxRecDepth 100000 in
theorem value_1 (s : ByteArray) (w : World) (hn : s.size = 1) :
   Calls Tryz.prog 108 #[.string s] w fun e w' => e = .returned (.int .i64 (valI s)) ∧ w = w' := by
  have hb := get_bt s
  have b0 := bt_nonneg s 0
  have b0' := bt_le s 0
  have HN := Lib.hid hn
  go_enter Tryz.func108, Tryz.ntmps108
  go_wp2
  go_ret
  exact ⟨ret_int (valI_1 s HN.out), rfl⟩
set_option maxRecDepth 100000 in
set_option maxHeartbeats 1000000 in
theorem value_2 (s : ByteArray) (w : World) (hn : s.size = 2) :
   Calls Tryz.prog 108 #[.string s] w fun e w' => e = .returned (.int .i64 (valI s)) ∧ w = w' := by
  have hb := get_bt s
  have b0 := bt_nonneg s 0
  have b0' := bt_le s 0
  have b1 := bt_nonneg s 1
  have b1' := bt_le s 1
  have HN := Lib.hid hn
  by_cases hl : bt s 0 < 192
  · go_enter Tryz.func108, Tryz.ntmps108
    go_wp2
    go_ret
    have hm := HN.out
    exact ⟨ret_int (valI_neg s (by omega)), rfl⟩
  · go_enter Tryz.func108, Tryz.ntmps108
    go_wp2
    go_rounds 2
    all_goals go_ret
    all_goals have hm := HN.out
    all_goals refine ⟨ret_int ?_, rfl⟩
    all_goals first | exact valI_neg s (by omega) | exact valI_2 s hm (by omega) (by omega)
set_option maxRecDepth 100000 in
set_option maxHeartbeats 1000000 in
theorem value_3 (s : ByteArray) (w : World) (hn : s.size = 3) :
   Calls Tryz.prog 108 #[.string s] w fun e w' => e = .returned (.int .i64 (valI s)) ∧ w = w' := by
  have hb := get_bt s
  have b0 := bt_nonneg s 0
  have b0' := bt_le s 0
  have b1 := bt_nonneg s 1
  have b1' := bt_le s 1
  have b2 := bt_nonneg s 2
  have b2' := bt_le s 2
  have HN := Lib.hid hn
  by_cases hl : bt s 0 < 224
  · go_enter Tryz.func108, Tryz.ntmps108
    go_wp2
    go_ret
    have hm := HN.out
    exact ⟨ret_int (valI_neg s (by omega)), rfl⟩
  · go_enter Tryz.func108, Tryz.ntmps108
    go_wp2
    go_rounds 3
    all_goals go_ret
    all_goals have hm := HN.out
    all_goals refine ⟨ret_int ?_, rfl⟩
    all_goals first | exact valI_neg s (by omega) | exact valI_3 s hm (by omega) (by omega) (by omega)
set_option maxRecDepth 100000 in
set_option maxHeartbeats 1000000 in
theorem value_4 (s : ByteArray) (w : World) (hn : s.size = 4) :
   Calls Tryz.prog 108 #[.string s] w fun e w' => e = .returned (.int .i64 (valI s)) ∧ w = w' := by
  have hb := get_bt s
  have b0 := bt_nonneg s 0
  have b0' := bt_le s 0
  have b1 := bt_nonneg s 1
  have b1' := bt_le s 1
  have b2 := bt_nonneg s 2
  have b2' := bt_le s 2
  have b3 := bt_nonneg s 3
  have b3' := bt_le s 3
  have HN := Lib.hid hn
  by_cases hl : bt s 0 < 240
  · go_enter Tryz.func108, Tryz.ntmps108
    go_wp2
    go_ret
    have hm := HN.out
    exact ⟨ret_int (valI_neg s (by omega)), rfl⟩
  · go_enter Tryz.func108, Tryz.ntmps108
    go_wp2
    go_rounds 4
    all_goals go_ret
    all_goals have hm := HN.out
    all_goals refine ⟨ret_int ?_, rfl⟩
    all_goals first | exact valI_neg s (by omega) | exact valI_4 s hm (by omega) (by omega) (by omega) (by omega)
theorem value_any (s : ByteArray) (w : World) (h1 : 1 ≤ s.size) (h4 : s.size ≤ 4) :
   Calls Tryz.prog 108 #[.string s] w fun e w' => e = .returned (.int .i64 (valI s)) ∧ w = w' := by
  rcases (show s.size = 1 ∨ s.size = 2 ∨ s.size = 3 ∨ s.size = 4 by omega) with h | h | h | h
  · exact value_1 s w h
  · exact value_2 s w h
  · exact value_3 s w h
  · exact value_4 s w h
end Go.Proofs.YtkkioajmfkcloaaGreatDoor
/- The contracts of the reference's whole, more and Next. -/
namespace Go.Proofs.YtkkioajmfkcloaaGreatDoor
open Go.RowKit Go.PlainAid Gl L
set_option maxHeartbeats 1000000 in
theorem whole_any (s : ByteArray) (w : World) (h1 : 1 ≤ s.size) (h4 : s.size ≤ 4) :
   Calls Tryz.prog 101 #[.string s] w fun e w' => e = .returned (.tuple #[.int .i32 (whR s), .bool (whB s)]) ∧ Below w.heap.size w w' := by
  have hb := valI_bd s h1 h4
  have hR : whR s = if valI s < 0 then 0 else valI s := rfl
  have hB : whB s = (decide (0 ≤ valI s) && (vld (valI s) && (putS (valI s)).toList == s.toList)) := rfl
  have HR := Lib.hid hR
  have HB := Lib.hid hB
  clear hR hB
  by_cases hz : valI s < 0
  · go_enter Tryz.func101, Tryz.ntmps101
    go_wp2_with fail
    refine (value_any _ _ h1 h4).mono ?_
    rintro e w' ⟨rfl, rfl⟩
    go_wp2
    go_ret2
    refine ⟨ret_2 (v_int ?_) (v_bool ?_), Below.refl _ _⟩
    · rw [HR.out, if_pos hz]
    · rw [HB.out, decide_eq_false (by omega)]; rfl
  · cases hv : vld (valI s)
    all_goals
      have HV := Lib.hid hv
      clear hv
      go_enter Tryz.func101, Tryz.ntmps101
      go_wp2_with fail
      refine (value_any _ _ h1 h4).mono ?_
      rintro e w' ⟨rfl, rfl⟩
      go_wp2_with fail
      refine (rput_any _ _).mono ?_
      rintro e w' ⟨rfl, hw⟩
      have hE : putE (valI s) = if vld (valI s) then 0 else 1 := rfl
      rw [HV.out] at hE
      simp only [if_true, Bool.false_eq_true, if_false] at hE
      rw [hE]
      have HE := Lib.hid hE
      clear hE
      go_wp2
      go_ret2
      refine ⟨ret_2 (v_int ?_) (v_bool ?_), hw⟩
      · rw [HR.out, if_neg (by omega)]
      · rw [HB.out, HV.out, decide_eq_true (by omega)]; simp
set_option maxHeartbeats 1000000 in
theorem more_any (s : ByteArray) (w : World) (h1 : 1 ≤ s.size) (hs : s.size ≤ 281474976710656) :
   Calls Tryz.prog 102 #[.string s] w fun e w' => e = .returned (.bool (moreB s)) ∧ Below w.heap.size w w' := by
  have hm := moreB_try s h1
  have HM := Lib.hid hm
  clear hm
  go_enter Tryz.func102, Tryz.ntmps102
  go_wp2
  go_loopw [3] (fun n wr => ∃ m : Nat, s.size < m ∧ n = .int .i64 m ∧ (m ≤ 5 ∨ m = s.size + 1) ∧ (∀ j, s.size < j → j < m → tryB s j = false) ∧ Below w.heap.size w wr) (fun n _ => (5 - intOf n).toNat)
  case atStart => exact ⟨s.size + 1, by omega, by go_num, by omega, fun j _ _ => by omega, Below.refl _ _⟩
  case round =>
    obtain ⟨m, hm1, rfl, hm2, hall, hw⟩ := hrel
    have HA := Lib.hid hall
    clear hall
    by_cases h4 : m ≤ 4
    · go_wp2
      go_loop [4, 5] (fun a b => ∃ j : Nat, s.size + j ≤ m ∧ a = .string (pad s 128 j) ∧ b = .string (pad s 191 j)) (fun a _ => m - (match a with | .string z => z.size | _ => 0))
      case atStart => exact ⟨0, by omega, by rw [pad_zero], by rw [pad_zero]⟩
      case round =>
        obtain ⟨j, hj, rfl, rfl⟩ := hrel
        have hz := pad_size s 128 j
        have hz2 := pad_size s 191 j
        by_cases hlt : s.size + j < m
        · go_wp2
          go_round
          case rel => exact ⟨j + 1, by omega, by rw [pad_succ], by rw [pad_succ]⟩
          case measure =>
            show m - (pad s 128 j ++ ⟨#[128]⟩).size < m - (pad s 128 j).size
            rw [pad_succ, pad_size, hz]; omega
        · obtain rfl : m = s.size + j := by omega
          have hT : tryB s (s.size + j) = (whB (pad s 128 j) || whB (pad s 191 j)) := by unfold tryB; rw [Nat.add_sub_cancel_left]
          have HT := Lib.hid hT
          clear hT
          go_wp2_with fail
          refine (whole_any _ _ (by omega) (by omega)).mono ?_
          rintro e w1 ⟨rfl, hw1⟩
          go_wp2_with fail
          refine (whole_any _ _ (by omega) (by omega)).mono ?_
          rintro e w2 ⟨rfl, hw2⟩
          have hw' := (hw.trans (hw1.mono hw.size)).trans (hw2.mono (Nat.le_trans hw.size hw1.size))
          cases ha : whB (pad s 128 j)
          all_goals cases hb : whB (pad s 191 j)
          all_goals
            have HX := Lib.hid ha
            have HY := Lib.hid hb
            clear ha hb
            go_wp2_with fail
          · go_roundw
            case rel =>
              refine ⟨s.size + j + 1, by omega, by go_num, by omega, fun i hi1 hi2 => ?_, hw'⟩
              rcases (show i < s.size + j ∨ i = s.size + j by omega) with h | rfl
              · exact HA.out i hi1 h
              · rw [HT.out, HX.out, HY.out]; rfl
            case measure => simp [intOf]; omega
          all_goals
            go_ret
            refine ⟨ret_bool ?_, hw'⟩
            symm
            exact HM.out.2 ⟨s.size + j, hm1, by omega, by rw [HT.out, HX.out, HY.out]; rfl⟩
    · go_wp2
      go_ret
      refine ⟨ret_bool ?_, hw⟩
      symm
      rw [Bool.eq_false_iff]
      intro hmt
      obtain ⟨n, hn, hn4, ht⟩ := HM.out.1 hmt
      rw [HA.out n hn (by omega)] at ht
      cases ht
set_option maxHeartbeats 1000000 in
theorem rnext_any (s : ByteArray) (w : World) (hs : s.size ≤ 281474976710656) :
   Calls Tryz.prog 86 #[.string s] w fun e w' => e = .returned (.tuple #[.int .i32 (nextR s), .int .i64 (nextN s), .int .i64 (nextE s)]) ∧ Below w.heap.size w w' := by
  by_cases h1 : 1 ≤ s.size
  · have hne := ne_empty s h1
    go_enter Tryz.func86, Tryz.ntmps86
    go_wp2
    go_loopw [5] (fun n wr => ∃ m : Nat, 1 ≤ m ∧ m ≤ 5 ∧ n = .int .i64 m ∧ (∀ j, j < m → ¬ okAt s 0 j) ∧ Below w.heap.size w wr) (fun n _ => (5 - intOf n).toNat)
    case atStart => exact ⟨1, by omega, by omega, rfl, fun j hj => by obtain rfl : j = 0 := by omega
                                                                      unfold okAt; omega, Below.refl _ _⟩
    case round =>
      obtain ⟨m, hm1, hm5, rfl, hall, hw⟩ := hrel
      have HA := Lib.hid hall
      clear hall
      by_cases hc : m ≤ 4 ∧ m ≤ s.size
      · obtain ⟨c1, c2⟩ := hc
        have hz := pre_size s m c2
        have hW := fun wz => whole_any (pre s m) wz (by omega) (by omega)
        have HZ := Lib.hid hz
        have HW := Lib.hid hW
        clear hz hW
        go_wp2_with fail
        refine (HW.out _).mono ?_
        rintro e w1 ⟨rfl, hw1⟩
        have hw' := hw.trans (hw1.mono hw.size)
        cases hb : whB (pre s m)
        · have HB := Lib.hid hb
          clear hb
          go_wp2_with fail
          go_roundw
          case rel =>
            refine ⟨m + 1, by omega, by omega, by go_num, fun j hj => ?_, hw'⟩
            rcases (show j < m ∨ j = m by omega) with h | rfl
            · exact HA.out j h
            · intro ho
              have := (ok_pre s j hm1 c2 c1).2 ho
              rw [HB.out] at this; cases this
          case measure => simp [intOf]; omega
        · have ho := (ok_pre s m hm1 c2 c1).1 hb
          have hr : whR (pre s m) = valAt s 0 m := by
            rw [whR_ok _ (by rw [pre_size s m c2]; have := (whB_iff _).1 hb; rw [pre_size s m c2] at this; exact this), pre_size s m c2, val_pre s m hm1 c2 c1]
          have hd := dec_ok s 0 m ho
          have hnm : moreB s = false := by
            rw [Bool.eq_false_iff]
            exact fun h => more_not_ok s h m ho
          have H := Lib.hid (And.intro hr (And.intro hd hnm))
          clear ho hr hd hnm hb
          go_wp2_with fail
          go_ret3
          refine ⟨ret_3 (v_int ?_) (v_int ?_) (v_int ?_), hw'⟩
          all_goals obtain ⟨hr, ⟨d1, d2⟩, hnm⟩ := H.out
          all_goals obtain ⟨n1, n2, n3⟩ := next_ok s h1 hnm
          · rw [hr, n1, d1]
          · rw [n2, d2]
          · rw [n3]
      · have hno : ∀ n, ¬ okAt s 0 n := by
          intro n ho
          have := HA.out n
          rcases ho with h | h | h | h <;> exact this (by omega) (by unfold okAt; omega)
        have H := Lib.hid hno
        clear hno
        have hmore := fun wz => more_any s wz h1 hs
        have HM := Lib.hid hmore
        clear hmore
        have hsplit : (m ≤ 4 ∧ s.size < m) ∨ 4 < m := by omega
        rcases hsplit with ⟨c1, c2⟩ | c1
        all_goals
          clear hc
          go_wp2_with fail
          refine (HM.out _).mono ?_
          rintro e w1 ⟨rfl, hw1⟩
          have hw' := hw.trans (hw1.mono hw.size)
          cases hb : moreB s
          · have HB := Lib.hid hb
            clear hb
            go_wp2_with fail
            go_ret3
            obtain ⟨d1, d2⟩ := dec_bad s 0 (by omega) H.out
            obtain ⟨n1, n2, n3⟩ := next_ok s h1 HB.out
            refine ⟨ret_3 (v_int ?_) (v_int ?_) (v_int ?_), hw'⟩
            · rw [n1, d1]
            · rw [n2, d2]; rfl
            · rw [n3]
          · have HB := Lib.hid hb
            clear hb
            go_wp2_with fail
            go_ret3
            obtain ⟨n1, n2, n3⟩ := next_more s h1 HB.out
            refine ⟨ret_3 (v_int ?_) (v_int ?_) (v_int ?_), hw'⟩
            · rw [n1]
            · rw [n2]; rfl
            · rw [n3]
  · obtain rfl := of_size_zero s (by omega)
    go_enter Tryz.func86, Tryz.ntmps86
    go_wp2
    go_ret3
    exact ⟨rfl, Below.refl _ _⟩
end Go.Proofs.YtkkioajmfkcloaaGreatDoor
/- The contract of glyph.Next: any string, the two tables of the library laid. -/
namespace Go.Proofs.YtkkioajmfkcloaaGreatDoor
open Go.RowKit Go.PlainAid Gl L
theorem first_any (s : ByteArray) (w : World) (hs : s.size ≤ 9223372036854775807) (h1 : 1 ≤ s.size) :
   Calls Tryz.prog 105 #[.string s] w fun e w' => e = .returned (.tuple #[.int .i32 (decR s 0), .int .i64 (decN s 0)]) ∧ Below w.heap.size w w' := by
  obtain ⟨d1, d2⟩ := dec_bounds s 0 h1
  have hs' := hs
  have n0 := fun ty => run_next_dec (P := Tryz.prog) w s 0 ty h1
  rcases Nat.lt_or_ge (decN s 0) s.size with hd | hd
  · have n1 := fun ty => run_next_dec (P := Tryz.prog) w s (decN s 0) ty (by omega)
    go_enter Tryz.func105, Tryz.ntmps105
    go_wp2
    refine wp_loop_rounds 2 ?_
    rw [rounds_succ]
    go_wp2
    rw [rounds_succ]
    go_wp2
    go_ret2
    exact ⟨rfl, (Below.refl _ _).alloc (Nat.le_refl _) _⟩
  · have n1 := fun ty => run_next_end (P := Tryz.prog) w s (decN s 0) ty (by omega)
    go_enter Tryz.func105, Tryz.ntmps105
    go_wp2
    refine wp_loop_rounds 2 ?_
    rw [rounds_succ]
    go_wp2
    rw [rounds_succ]
    go_wp2
    go_ret2
    exact ⟨ret_2 rfl (v_int (by omega)), (Below.refl _ _).alloc (Nat.le_refl _) _⟩
theorem next_any (s : ByteArray) (w : World) (hs : s.size ≤ maxLen) (T : Tabs w 3 4) :
   Calls Tryz.prog 95 #[.string s] w fun e w' => e = .returned (.tuple #[.int .i32 (nextR s), .int .i64 (nextN s), .int .i64 (nextE s)]) ∧ Below w.heap.size w w' := by
  by_cases h1 : 1 ≤ s.size
  · have hne := ne_empty s h1
    cases hm : moreB s
    all_goals
      have hf : fullB s = !(moreB s) := by simp [fullB, h1]
      rw [hm] at hf
      have HF := Lib.hid hf
      have HM := Lib.hid hm
      clear hf hm
      go_enter Tryz.func95, Tryz.ntmps95
      go_wp2_with fail
      refine (full_any _ _ hs T).mono ?_
      rintro e w1 ⟨rfl, hw1⟩
      rw [HF.out]
      go_wp2_with fail
    · refine (first_any _ _ hs h1).mono ?_
      rintro e w2 ⟨rfl, hw2⟩
      go_wp2_with fail
      go_ret3
      obtain ⟨n1, n2, n3⟩ := next_ok s h1 HM.out
      exact ⟨ret_3 (v_int n1.symm) (v_int (by rw [n2])) (v_int n3.symm), hw1.trans (hw2.mono hw1.size)⟩
    · go_ret3
      obtain ⟨n1, n2, n3⟩ := next_more s h1 HM.out
      exact ⟨ret_3 (v_int n1.symm) (v_int (by rw [n2]; rfl)) (v_int n3.symm), hw1⟩
  · obtain rfl := of_size_zero s (by omega)
    go_enter Tryz.func95, Tryz.ntmps95
    go_wp2
    go_ret3
    exact ⟨rfl, Below.refl _ _⟩
end Go.Proofs.YtkkioajmfkcloaaGreatDoor
/- The two tables of the library last as long as what is below stays. -/
set_option linter.unusedVariables false
namespace Go.Proofs.YtkkioajmfkcloaaGreatDoor
open Go.RowKit Go.PlainAid
namespace Gl
theorem Tabs.below {w w' : World} {f a : Nat} (h : Tabs w f a) (hb : Below w.heap.size w w') : Tabs w' f a := by
  have g : ∀ {p : Addr} {v : Value}, w.cell? p = some v → w'.cell? p = some v := fun {p v} h => by
    rw [hb.cell (World.block_lt_of_cell? w _ h)]; exact h
  exact ⟨fun b h0 h1 => g (h.x b h0 h1), g h.a0, g h.a1, g h.a2, g h.a3, g h.a4, g h.a5, g h.a6, g h.a7, g h.a8, g h.a9⟩
end Gl
end Go.Proofs.YtkkioajmfkcloaaGreatDoor
