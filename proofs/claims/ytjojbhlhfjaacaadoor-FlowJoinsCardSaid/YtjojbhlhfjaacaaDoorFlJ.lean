/- The walk of FlowJoins: it returns true, and turns nothing that was there. -/
import Derived.Test.YtjojbhlhfjaacaaDoorFlH
set_option linter.unusedVariables false
namespace Go.Proofs.YtjojbhlhfjaacaaDoor
open Go.RowKit Gl L Wd Fl
theorem Tryd.info21 : (Tryd.prog.info? 21).map (fun i => (i.zero, i.size, i.bytes)) = some (some (.int .i32 0), 1, 4) := by kernel_rfl
set_option maxRecDepth 100000 in
set_option maxHeartbeats 4000000 in
theorem flowJoins_law (a b : Int) (va vb : Value) (xs ys : List Int) (w : World) (ha : IsRow w va .i32 xs) (hx : xs.length ≤ maxLen) (na : ∀ c, va = .slice none 0 c → c = 0) (hb : IsRow w vb .i32 ys) (hy : ys.length ≤ maxLen) (nb : ∀ c, vb = .slice none 0 c → c = 0) (S : Spans w 1) (T : Blk w 0) :
    Calls Tryd.prog 7 #[.int .i64 a, .int .i64 b, va, vb] w fun e w' => e = .returned (.bool true) ∧ Below w.heap.size w w' := by
  have hxm := hx
  have hym := hy
  unfold maxLen at hxm hym
  have hra := ha.toRw na
  have hrb := hb.toRw nb
  have ha' := ha
  obtain ⟨A, capa, rfl, _⟩ := ha'
  have hb' := hb
  obtain ⟨B, capb, rfl, _⟩ := hb'
  have HF := Lib.hid (fun wz hz => flows_any wz (S.below hz) (T.below hz))
  clear na nb
  by_cases hl1 : 500 < xs.length
  · have d1 : decide ((500 : Int) < (xs.length : Int)) = true := by simp; omega
    go_enter Tryd.func7, Tryd.ntmps7
    go_wp2_with fail
    all_goals
      refine (HF.out _ (Below.refl _ _)).mono ?_
      rintro e w3 ⟨rfl, hb3⟩
      go_wp2
      go_ret
      exact ⟨rfl, hb3⟩
  have d1 : decide ((500 : Int) < (xs.length : Int)) = false := by simp; omega
  by_cases hl2 : 500 < ys.length
  · have d2 : decide ((500 : Int) < (ys.length : Int)) = true := by simp; omega
    go_enter Tryd.func7, Tryd.ntmps7
    go_wp2_with fail
    all_goals
      refine (HF.out _ (Below.refl _ _)).mono ?_
      rintro e w3 ⟨rfl, hb3⟩
      go_wp2
      go_ret
      exact ⟨rfl, hb3⟩
  have d2 : decide ((500 : Int) < (ys.length : Int)) = false := by simp; omega
  by_cases hl3 : 500 < xs.length + ys.length
  · have d3 : decide ((500 : Int) < (xs.length : Int) + (ys.length : Int)) = true := by simp; omega
    go_enter Tryd.func7, Tryd.ntmps7
    go_wp2_with fail
    all_goals
      refine (HF.out _ (Below.refl _ _)).mono ?_
      rintro e w3 ⟨rfl, hb3⟩
      go_wp2
      go_ret
      exact ⟨rfl, hb3⟩
  have d3 : decide ((500 : Int) < (xs.length : Int) + (ys.length : Int)) = false := by simp; omega
  have HL := Lib.hid (lay_any a b _ xs w ha hx S)
  by_cases h0 : lk a b xs.length = 0
  · have HK := Lib.hid h0
    obtain ⟨m, p, rfl, rfl, g1, g2, g3⟩ := ck_ok (lk_ok h0).1
    have hfl := fin_le m p xs g1
    have hck := (lk_ok h0).1
    clear h0
    by_cases hmid : 9999 < fin m p xs
    · have d4 : decide ((9999 : Int) < (fin m p xs : Int)) = true := by simp; omega
      go_enter Tryd.func7, Tryd.ntmps7
      go_wp2_with fail
      refine HL.out.mono ?_
      intro e w1 h1
      obtain ⟨hb1, gp, capp, rfl, hcapp, hop, _⟩ := h1.yes HK.out
      simp only [Int.toNat_natCast] at hop ⊢
      go_wp2_with fail
      refine (HF.out _ hb1).mono ?_
      rintro e w3 ⟨rfl, hb3⟩
      go_wp2
      go_ret
      exact ⟨rfl, hb1.trans (hb3.mono hb1.size)⟩
    · have d4 : decide ((9999 : Int) < (fin m p xs : Int)) = false := by simp; omega
      have hk2 : lk (m : Int) (fin m p xs : Nat) ys.length = 0 := by
        have hc : ck (m : Int) (fin m p xs : Nat) = 0 := by unfold ck; rw [if_neg (by omega), if_neg (by omega)]
        unfold lk; rw [if_pos hc, if_neg (by omega)]
      have hk3 : lk (m : Int) (p : Int) (xs ++ ys).length = 0 := by
        unfold lk; rw [if_pos hck, List.length_append, if_neg (by omega)]
      have hfa := fin_append m p xs ys
      have hla := lay_append m p xs ys
      have hlx := lay_len m p xs
      have hly := lay_len m (fin m p xs) ys
      have hfl2 := fin_le m (fin m p xs) ys g1
      have hzl : (xs ++ ys).length = xs.length + ys.length := List.length_append
      have HK2 := Lib.hid hk2
      have HK3 := Lib.hid hk3
      have HFA := Lib.hid hfa
      have HLA := Lib.hid hla
      have HZL := Lib.hid hzl
      clear hk2 hk3 hfa hla hck
      generalize hz : fin m p xs = z at *
      have HZ := Lib.hid hz
      clear hz
      obtain ⟨i0, hi, hz0, hz1, hz2⟩ := info_parts Tryd.info21
      go_enter Tryd.func7, Tryd.ntmps7
      go_wp2_with fail
      refine HL.out.mono ?_
      intro e w1 h1
      obtain ⟨hb1, gp, capp, rfl, hcapp, hop, hrp⟩ := h1.yes HK.out
      simp only [Int.toNat_natCast] at hop hrp ⊢
      rw [HZ.out]
      clear h1 hop
      have hown0 := World.ownsRow_made (e := 21) (size := 1) w1 #[] 0 (Nat.le_refl _) (by decide) (by simp)
      have hb0 : Below w1.heap.size w1 (w1.alloc (.cells #[] 21)) := (Below.refl _ _).alloc (Nat.le_refl _) _
      have hra0 := (hra.below hb1).below hb0
      go_wp2_with (at_builtin; refine wpList_append_rw rfl (.tmp 52) (.tmp 53) 27 rfl w1.heap.size 21 i0 _ 1 4 Tryd.underlying27 hi hz0 hz1 hz2 rfl (by decide) _ _ _ rfl hown0 _ _ _ rfl hra0 (ints_one _ _) ?c2 ?c3 ?c4 ?_)
      case c2 => unfold maxLen; omega
      case c3 => omega
      case c4 => simp
      intro v1 w2 hown1 hg1 _
      have hw2 := Below.of_grown hb0 hown0 hg1 hb0.size (Nat.le_refl _)
      have hrb1 := (hrb.below hb1).below hw2
      clear hown0 hra0 hg1 hb0
      go_wp2_with (at_builtin; refine wpList_append_rw rfl (.tmp 55) (.tmp 56) 27 rfl w1.heap.size 21 i0 _ 1 4 Tryd.underlying27 hi hz0 hz1 hz2 rfl (by decide) _ _ _ rfl hown1 _ _ _ rfl hrb1 (ints_one _ _) ?e2 ?e3 ?e4 ?_)
      case e2 => unfold maxLen; omega
      case e3 => omega
      case e4 => exact hw2.size
      intro v2 w3 hown2 hg2 _
      have hw3 := Below.of_grown hw2 hown1 hg2 hw2.size (Nat.le_refl _)
      have hown2' : w3.ownsRow w1.heap.size 21 1 v2 (xs ++ ys).length (ints .i32 (xs ++ ys)) := by rw [HZL.out, ← ints_append]; exact hown2
      have hr2 := IsRow.of_owns hown2'
      have hrp3 := hrp.below hw3
      have hbw := hb1.trans (hw3.mono hb1.size)
      clear hown1 hg2 hrb1 hown2 hown2' hw2
      have HL2 := Lib.hid (lay_any m z _ ys _ (hb.below hbw) hy (S.below hbw))
      go_wp2_with fail
      refine HL2.out.mono ?_
      intro e w4 h4
      obtain ⟨hb4, gq, capq, rfl, hcapq, _, hrq⟩ := h4.yes HK2.out
      simp only [Int.toNat_natCast] at hrq ⊢
      have hr2 := hr2.below hb4
      have hrp4 := hrp3.below hb4
      have hbw4 := hbw.trans (hb4.mono hbw.size)
      clear h4 hb4 hrp3 hw3
      have HL3 := Lib.hid (lay_any m p v2 (xs ++ ys) _ hr2 (by rw [HZL.out]; unfold maxLen; omega) (S.below hbw4))
      clear hr2
      go_wp2_with fail
      refine HL3.out.mono ?_
      intro e w5 h5
      obtain ⟨hb5, gs, caps, rfl, hcaps, hos, _⟩ := h5.yes HK3.out
      simp only [Int.toNat_natCast] at hos ⊢
      rw [HFA.out]
      have hrp5 := hrp4.below hb5
      have hrq5 := hrq.below hb5
      have hbw5 := hbw4.trans (hb5.mono hbw4.size)
      have hrs := Rw.of_owns hos
      rw [HLA.out] at hrs
      rw [HZL.out] at hrs hcaps ⊢
      clear h5 hb5 hrp4 hrq hos
      generalize fin m z ys = last at *
      have hpre := hrs.pre (m := xs.length) (by omega)
      have hsuf := fun c => hrs.suf (m := xs.length) (by omega) c
      rw [← ints_append] at hpre hsuf
      rw [List.take_left' (by rw [ints_len, hlx]; omega)] at hpre
      rw [List.drop_left' (by rw [ints_len, hlx]; omega), Nat.add_sub_cancel_left] at hsuf
      simp only [Nat.zero_add, Nat.mul_one] at hsuf
      have hsuf2 : ∀ c, IsRow w5 (.slice (some ⟨gs, xs.length, none⟩) ys.length c) .i64 (lay m z ys) := fun c => IsRow.of_rw (by rw [hly]; exact hsuf c)
      have hpre2 : IsRow w5 (.slice (some ⟨gs, 0, none⟩) xs.length caps) .i64 (lay m p xs) := IsRow.of_rw (by rw [hlx]; exact hpre)
      have HSUF := Lib.hid hsuf2
      clear hsuf hpre hsuf2 hrs
      go_wp2_with fail
      refine (HF.out _ hbw5).mono ?_
      rintro e w6 ⟨rfl, hb6⟩
      have hw6 := hbw5.trans (hb6.mono hbw5.size)
      have hrp6 := hrp5.below hb6
      have hrq6 := hrq5.below hb6
      have hpre6 := hpre2.below hb6
      have HSUF6 := Lib.hid (fun c => (HSUF.out c).below hb6)
      clear hb6 hrp5 hrq5 hpre2
      go_wp2_with fail
      refine (same4_any _ _ _ _ _ hpre6 hrp6 (by omega) (by omega)).mono ?_
      rintro e w7 ⟨rfl, hb7⟩
      rw [decide_eq_true rfl]
      have hw7 := hw6.trans (hb7.mono hw6.size)
      have hrq7 := hrq6.below hb7
      have HSUF7 := Lib.hid (fun c => (HSUF6.out c).below hb7)
      clear hb7 hpre6 hrp6 hrq6
      by_cases hcc : caps = xs.length
      · have h0 : ys.length = 0 := by omega
        have hnil : ys = [] := List.eq_nil_of_length_eq_zero h0
        go_wp2_with fail
        refine (same4_any _ _ [] [] _ ⟨_, _, rfl, .inl rfl⟩ ⟨_, _, rfl, .inl rfl⟩ (by simp) (by simp)).mono ?_
        rintro e w8 ⟨rfl, hb8⟩
        rw [decide_eq_true rfl]
        have hw8 := hw7.trans (hb8.mono hw7.size)
        go_wp2
        go_ret
        exact ⟨rfl, hw8⟩
      · go_wp2_with fail
        refine (same4_any _ _ _ _ _ (HSUF7.out _) hrq7 (by omega) (by omega)).mono ?_
        rintro e w8 ⟨rfl, hb8⟩
        rw [decide_eq_true rfl]
        have hw8 := hw7.trans (hb8.mono hw7.size)
        go_wp2
        go_ret
        exact ⟨rfl, hw8⟩
  · have HK := Lib.hid h0
    clear h0
    generalize hx : lk a b xs.length = x at *
    have HX := Lib.hid hx
    have d4 : (x != 0) = true := by simpa using HK.out
    clear hx
    go_enter Tryd.func7, Tryd.ntmps7
    go_wp2_with fail
    refine HL.out.mono ?_
    intro e w1 h1
    obtain ⟨hb1, rfl⟩ := h1.no (by rw [HX.out]; exact HK.out)
    rw [HX.out]
    clear h1
    go_wp2_with fail
    refine (HF.out _ hb1).mono ?_
    rintro e w3 ⟨rfl, hb3⟩
    go_wp2
    go_ret
    exact ⟨rfl, hb1.trans (hb3.mono hb1.size)⟩
end Go.Proofs.YtjojbhlhfjaacaaDoor
