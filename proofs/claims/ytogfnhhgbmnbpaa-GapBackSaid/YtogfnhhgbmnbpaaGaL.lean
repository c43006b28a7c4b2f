/- Lines with a point: the reference's Cut. -/
import Derived.Test.YtogfnhhgbmnbpaaGaI
import Derived.Test.YtogfnhhgbmnbpaaGaH
set_option linter.unusedVariables false
namespace Go.Proofs.Ytogfnhhgbmnbpaa
open Go.RowKit Go.PlainAid Gl L Gp
set_option maxHeartbeats 4000000 in
theorem rgcut_any (A B : Option Addr) (ca cb : Nat) (a b : List Int) (n : Int) (x y z : List Int) (w : World) (ha : Rr w (.slice A a.length ca) a) (hb : Rr w (.slice B b.length cb) b) (la : a.length ≤ 1000) (lb : b.length ≤ 1000)
    (hn : -9223372036854775808 ≤ n) (hx : cuV (a, b) n = (x, y)) (hz : cuL (a, b) n = z) :
    Calls Try.prog 23 #[.agg #[.slice A a.length ca, .slice B b.length cb], .int .i64 n] w fun e w' => OutR w e w' x y z := by
  have V := Lib.hid (((La.start w).box #[.slice A a.length ca, .slice B b.length cb] 24).box #[.slice none 0 0, .slice none 0 0] 24)
  have HA := Lib.hid ha
  have HB := Lib.hid hb
  obtain ⟨_, _, e, hca⟩ := ha.room
  cases e
  obtain ⟨_, _, e, hcb⟩ := hb.room
  cases e
  clear ha hb
  cases hg : rt (a, b)
  · obtain ⟨e1, e2⟩ := cu_none (g := (a, b)) (n := n) (.inl hg)
    rw [e1] at hx
    rw [e2] at hz
    injection hx with h1 h2
    subst h1 h2 hz
    clear e1 e2
    go_enter Try.func23, Try.ntmps23
    go_wp2_with fail
    refine (rgis_any A B _ _ a b _ (HA.out.below V.out.below) (HB.out.below V.out.below) la lb).mono ?_
    rintro e w1 ⟨rfl, hb⟩
    rw [hg]
    replace V := Lib.hid (V.out.call hb)
    clear hb
    have g0 := V.out.at 0 rfl
    rw [one_size] at g0
    obtain ⟨⟨c0, c1⟩, ⟨f0, f1⟩, hz1⟩ := blk2 g0
    obtain ⟨⟨d0, d1⟩, ⟨k0, k1⟩, hz2⟩ := blk2 (V.out.at 1 rfl)
    clear g0
    go_wp2
    refine bodyPost_ret (v := .tuple #[.agg #[.slice A a.length ca, .slice B b.length cb], .slice none 0 0]) (by simp [results, Try.results23, go_sem, *]) rfl (and_below ?_ fun hB => ?_)
    · repeat (first | (with_reducible exact V.out.below) | refine Below.setCell ?_ (by simp) _)
    · exact ⟨A, B, ca, cb, none, 0, rfl, ⟨HA.out.below hB, HB.out.below hB⟩, Rr.nil _⟩
  · by_cases h1 : 0 < n
    · obtain ⟨e1, e2⟩ := cu_ahead (g := (a, b)) hg h1
      rw [e1] at hx
      rw [e2] at hz
      injection hx with hx1 hx2
      dsimp only at hx1 hx2 hz
      subst hx1
      have hgn : gone (a, b) n = if (b.length : Int) < n then b.length else n.toNat := if_pos h1
      rw [hgn] at hx2 hz
      clear e1 e2 hgn
      have i0 : (0 : Int) ≤ (b.length : Int) := by omega
      have i3 : (b.length : Int) ≤ (cb : Int) := by omega
      by_cases hb0 : b.length = 0
      · obtain rfl : b = [] := List.eq_nil_of_length_eq_zero hb0
        have h2 : (0 : Int) < n := h1
        obtain ⟨rfl, rfl⟩ : y = [] ∧ z = [] := ⟨by rw [← hx2, List.drop_nil], by rw [← hz, List.take_nil]⟩
        clear hx2 hz hb0
        have HX0 := HB
        simp only [List.length_nil] at *
        by_cases hc0 : cb = 0
        · subst hc0
          go_enter Try.func23, Try.ntmps23
          go_wp2_with fail
          refine (rgis_any A B _ _ a [] _ (HA.out.below V.out.below) (HB.out.below V.out.below) la lb).mono ?_
          rintro e w1 ⟨rfl, hb⟩
          rw [hg]
          replace V := Lib.hid (V.out.call hb)
          clear hb
          have g0 := V.out.at 0 rfl
          rw [one_size] at g0
          obtain ⟨⟨c0, c1⟩, ⟨f0, f1⟩, hz1⟩ := blk2 g0
          obtain ⟨⟨d0, d1⟩, ⟨k0, k1⟩, hz2⟩ := blk2 (V.out.at 1 rfl)
          clear g0
          go_wp2
          go_region
          all_goals go_wp2
          all_goals (
            refine bodyPost_ret (v := _) (by (simp [results, Try.results23, go_sem, *]) <;> rfl) rfl (and_below ?_ fun hB => ?_)
            · repeat (first | (with_reducible exact V.out.below) | refine Below.setCell ?_ (by simp) _ | refine Below.drew ?_)
            · exact ⟨_, _, _, _, _, _, rfl, ⟨HA.out.below hB, HX0.out.below hB⟩, HX0.out.below hB⟩)
        · obtain ⟨ad, rfl⟩ : ∃ ad, B = some ad := by
            cases B with
            | none =>
              obtain ⟨_, _, _, e, h⟩ := HB.out.rw
              cases e
              rcases h with ⟨_, h⟩ | ⟨_, _, h, _⟩
              · exact absurd (h rfl) hc0
              · cases h
            | some ad => exact ⟨ad, rfl⟩
          go_enter Try.func23, Try.ntmps23
          go_wp2_with fail
          refine (rgis_any A (some ad) _ _ a [] _ (HA.out.below V.out.below) (HB.out.below V.out.below) la lb).mono ?_
          rintro e w1 ⟨rfl, hb⟩
          rw [hg]
          replace V := Lib.hid (V.out.call hb)
          clear hb
          have g0 := V.out.at 0 rfl
          rw [one_size] at g0
          obtain ⟨⟨c0, c1⟩, ⟨f0, f1⟩, hz1⟩ := blk2 g0
          obtain ⟨⟨d0, d1⟩, ⟨k0, k1⟩, hz2⟩ := blk2 (V.out.at 1 rfl)
          clear g0
          go_wp2
          go_region
          all_goals go_wp2
          all_goals (
            refine bodyPost_ret (v := _) (by (simp [results, Try.results23, go_sem, *]) <;> rfl) rfl (and_below ?_ fun hB => ?_)
            · repeat (first | (with_reducible exact V.out.below) | refine Below.setCell ?_ (by simp) _ | refine Below.drew ?_)
            · exact ⟨_, _, _, _, _, _, rfl, ⟨HA.out.below hB, Rr.empty _ _ _⟩, Rr.empty _ _ _⟩)
      · obtain ⟨g, o, rfl⟩ := HB.out.plain (by omega)
        have hc0 : ¬ cb = 0 := by omega
        by_cases h2 : (b.length : Int) < n
        · rw [if_pos h2] at hx2 hz
          rw [List.drop_length] at hx2
          rw [List.take_length] at hz
          subst hx2 hz
          by_cases hcn : cb = b.length
          · subst hcn
            go_enter Try.func23, Try.ntmps23
            go_wp2_with fail
            refine (rgis_any A (some ⟨g, o, none⟩) _ _ a b _ (HA.out.below V.out.below) (HB.out.below V.out.below) la lb).mono ?_
            rintro e w1 ⟨rfl, hb⟩
            rw [hg]
            replace V := Lib.hid (V.out.call hb)
            clear hb
            have g0 := V.out.at 0 rfl
            rw [one_size] at g0
            obtain ⟨⟨c0, c1⟩, ⟨f0, f1⟩, hz1⟩ := blk2 g0
            obtain ⟨⟨d0, d1⟩, ⟨k0, k1⟩, hz2⟩ := blk2 (V.out.at 1 rfl)
            clear g0
            go_wp2
            go_region
            all_goals go_wp2
            all_goals (
              refine bodyPost_ret (v := _) (by (simp [results, Try.results23, go_sem, *]) <;> rfl) rfl (and_below ?_ fun hB => ?_)
              · repeat (first | (with_reducible exact V.out.below) | refine Below.setCell ?_ (by simp) _ | refine Below.drew ?_)
              · exact ⟨_, _, _, _, _, _, rfl, ⟨HA.out.below hB, Rr.empty _ _ _⟩, HB.out.below hB⟩)
          · skip
            go_enter Try.func23, Try.ntmps23
            go_wp2_with fail
            refine (rgis_any A (some ⟨g, o, none⟩) _ _ a b _ (HA.out.below V.out.below) (HB.out.below V.out.below) la lb).mono ?_
            rintro e w1 ⟨rfl, hb⟩
            rw [hg]
            replace V := Lib.hid (V.out.call hb)
            clear hb
            have g0 := V.out.at 0 rfl
            rw [one_size] at g0
            obtain ⟨⟨c0, c1⟩, ⟨f0, f1⟩, hz1⟩ := blk2 g0
            obtain ⟨⟨d0, d1⟩, ⟨k0, k1⟩, hz2⟩ := blk2 (V.out.at 1 rfl)
            clear g0
            go_wp2
            go_region
            all_goals go_wp2
            all_goals (
              refine bodyPost_ret (v := _) (by (simp [results, Try.results23, go_sem, *]) <;> rfl) rfl (and_below ?_ fun hB => ?_)
              · repeat (first | (with_reducible exact V.out.below) | refine Below.setCell ?_ (by simp) _ | refine Below.drew ?_)
              · exact ⟨_, _, _, _, _, _, rfl, ⟨HA.out.below hB, Rr.empty _ _ _⟩, HB.out.below hB⟩)
        · obtain ⟨m, rfl⟩ := Int.eq_ofNat_of_zero_le (Int.le_of_lt h1)
          have e3 : ((m : Int)).toNat = m := Int.toNat_natCast m
          rw [if_neg h2, e3] at hx2 hz
          clear e3
          have hm : m ≤ b.length := by omega
          have ez : m = z.length := by rw [← hz, List.length_take]; omega
          subst ez
          have i1 : (0 : Int) ≤ (z.length : Int) := by omega
          have i2 : (z.length : Int) ≤ (b.length : Int) := by omega
          have i4 : (z.length : Int) ≤ (cb : Int) := by omega
          have r1 := HB.out.head z.length hm
          rw [hz] at r1
          have HZ := Lib.hid r1
          have HY := Lib.hid (show b.length - z.length = y.length by rw [← hx2, List.length_drop])
          by_cases hcn : cb = z.length
          · have hbm : b.length = z.length := by omega
            have hy : y = [] := by rw [← hx2]; exact List.drop_of_length_le (by omega)
            subst hy hcn
            have HBM := Lib.hid hbm
            clear hx2 hz r1 hbm HY h2
            go_enter Try.func23, Try.ntmps23
            go_wp2_with fail
            refine (rgis_any A (some ⟨g, o, none⟩) _ _ a b _ (HA.out.below V.out.below) (HB.out.below V.out.below) la lb).mono ?_
            rintro e w1 ⟨rfl, hb⟩
            rw [hg]
            replace V := Lib.hid (V.out.call hb)
            clear hb
            have g0 := V.out.at 0 rfl
            rw [one_size] at g0
            obtain ⟨⟨c0, c1⟩, ⟨f0, f1⟩, hz1⟩ := blk2 g0
            obtain ⟨⟨d0, d1⟩, ⟨k0, k1⟩, hz2⟩ := blk2 (V.out.at 1 rfl)
            clear g0
            go_wp2
            go_region
            all_goals go_wp2
            all_goals (
              refine bodyPost_ret (v := _) (by (simp [results, Try.results23, go_sem, *]) <;> rfl) rfl (and_below ?_ fun hB => ?_)
              · repeat (first | (with_reducible exact V.out.below) | refine Below.setCell ?_ (by simp) _ | refine Below.drew ?_)
              · (try rw [HBM.out])
                (try rw [Nat.sub_self])
                exact ⟨_, _, _, _, _, _, rfl, ⟨HA.out.below hB, Rr.empty _ _ _⟩, HZ.out.below hB⟩)
          · have r2 := HB.out.rest z.length hm hcn
            rw [hx2, HY.out] at r2
            have HY2 := Lib.hid r2
            clear hx2 hz r1 r2
            go_enter Try.func23, Try.ntmps23
            go_wp2_with fail
            refine (rgis_any A (some ⟨g, o, none⟩) _ _ a b _ (HA.out.below V.out.below) (HB.out.below V.out.below) la lb).mono ?_
            rintro e w1 ⟨rfl, hb⟩
            rw [hg]
            replace V := Lib.hid (V.out.call hb)
            clear hb
            have g0 := V.out.at 0 rfl
            rw [one_size] at g0
            obtain ⟨⟨c0, c1⟩, ⟨f0, f1⟩, hz1⟩ := blk2 g0
            obtain ⟨⟨d0, d1⟩, ⟨k0, k1⟩, hz2⟩ := blk2 (V.out.at 1 rfl)
            clear g0
            go_wp2
            go_region
            all_goals go_wp2
            all_goals (
              refine bodyPost_ret (v := _) (by (simp [results, Try.results23, go_sem, *]) <;> rfl) rfl (and_below ?_ fun hB => ?_)
              · repeat (first | (with_reducible exact V.out.below) | refine Below.setCell ?_ (by simp) _ | refine Below.drew ?_)
              · (try rw [HY.out] at hB)
                rw [HY.out]
                exact ⟨_, _, _, _, _, _, rfl, ⟨HA.out.below hB, HY2.out.below hB⟩, HZ.out.below hB⟩)
    · obtain ⟨e1, e2⟩ := cu_behind (g := (a, b)) (n := n) hg (by omega)
      rw [e1] at hx
      rw [e2] at hz
      injection hx with hx1 hx2
      dsimp only at hx1 hx2 hz
      subst hx2
      have hgn : keep (a, b) n = ((a.length : Int) + n).toNat := if_neg h1
      rw [hgn] at hx1 hz
      clear e1 e2 hgn
      have i0 : (0 : Int) ≤ (a.length : Int) := by omega
      have i3 : (a.length : Int) ≤ (ca : Int) := by omega
      have i5 : (0 : Int) ≤ (ca : Int) := by omega
      by_cases h2 : 0 - (a.length : Int) < n
      · have h3 : -(a.length : Int) < n := by omega
        obtain ⟨m, hm⟩ := Int.eq_ofNat_of_zero_le (show 0 ≤ (a.length : Int) + n by omega)
        have e3 : ((a.length : Int) + n).toNat = m := by rw [hm]; exact Int.toNat_natCast m
        rw [e3] at hx1 hz
        clear e3
        obtain ⟨g, o, rfl⟩ := HA.out.plain (by omega)
        have hma : m ≤ a.length := by omega
        have ex : m = x.length := by rw [← hx1, List.length_take]; omega
        subst ex
        have i1 : (0 : Int) ≤ (x.length : Int) := by omega
        have i2 : (x.length : Int) ≤ (a.length : Int) := by omega
        have i4 : (x.length : Int) ≤ (ca : Int) := by omega
        have hc0 : ¬ ca = 0 := by omega
        have r1 := HA.out.head x.length hma
        rw [hx1] at r1
        have HX1 := Lib.hid r1
        have HY := Lib.hid (show a.length - x.length = z.length by rw [← hz, List.length_drop])
        by_cases hcn : ca = x.length
        · have hbm : a.length = x.length := by omega
          have hy : z = [] := by rw [← hz]; exact List.drop_of_length_le (by omega)
          subst hy hcn
          have HBM := Lib.hid hbm
          clear hx1 hz r1 hbm HY
          go_enter Try.func23, Try.ntmps23
          go_wp2_with fail
          refine (rgis_any (some ⟨g, o, none⟩) B _ _ a b _ (HA.out.below V.out.below) (HB.out.below V.out.below) la lb).mono ?_
          rintro e w1 ⟨rfl, hb⟩
          rw [hg]
          replace V := Lib.hid (V.out.call hb)
          clear hb
          have g0 := V.out.at 0 rfl
          rw [one_size] at g0
          obtain ⟨⟨c0, c1⟩, ⟨f0, f1⟩, hz1⟩ := blk2 g0
          obtain ⟨⟨d0, d1⟩, ⟨k0, k1⟩, hz2⟩ := blk2 (V.out.at 1 rfl)
          clear g0
          go_wp2
          go_region
          all_goals go_wp2
          all_goals (
            refine bodyPost_ret (v := _) (by (simp [results, Try.results23, go_sem, *]) <;> rfl) rfl (and_below ?_ fun hB => ?_)
            · repeat (first | (with_reducible exact V.out.below) | refine Below.setCell ?_ (by simp) _ | refine Below.drew ?_)
            · (try rw [HBM.out])
              (try rw [Nat.sub_self])
              exact ⟨_, _, _, _, _, _, rfl, ⟨HX1.out.below hB, HB.out.below hB⟩, Rr.empty _ _ _⟩)
        · have r2 := HA.out.rest x.length hma hcn
          rw [hz, HY.out] at r2
          have HY2 := Lib.hid r2
          clear hx1 hz r1 r2
          go_enter Try.func23, Try.ntmps23
          go_wp2_with fail
          refine (rgis_any (some ⟨g, o, none⟩) B _ _ a b _ (HA.out.below V.out.below) (HB.out.below V.out.below) la lb).mono ?_
          rintro e w1 ⟨rfl, hb⟩
          rw [hg]
          replace V := Lib.hid (V.out.call hb)
          clear hb
          have g0 := V.out.at 0 rfl
          rw [one_size] at g0
          obtain ⟨⟨c0, c1⟩, ⟨f0, f1⟩, hz1⟩ := blk2 g0
          obtain ⟨⟨d0, d1⟩, ⟨k0, k1⟩, hz2⟩ := blk2 (V.out.at 1 rfl)
          clear g0
          go_wp2
          go_region
          all_goals go_wp2
          all_goals (
            refine bodyPost_ret (v := _) (by (simp [results, Try.results23, go_sem, *]) <;> rfl) rfl (and_below ?_ fun hB => ?_)
            · repeat (first | (with_reducible exact V.out.below) | refine Below.setCell ?_ (by simp) _ | refine Below.drew ?_)
            · (try rw [HY.out] at hB)
              rw [HY.out]
              exact ⟨_, _, _, _, _, _, rfl, ⟨HX1.out.below hB, HB.out.below hB⟩, HY2.out.below hB⟩)
      · have h3 : ¬ -(a.length : Int) < n := by omega
        have e3 : ((a.length : Int) + n).toNat = 0 := by omega
        rw [e3, List.take_zero] at hx1
        rw [e3, List.drop_zero] at hz
        subst hx1 hz
        clear e3
        by_cases ha0 : a.length = 0
        · obtain rfl : a = [] := List.eq_nil_of_length_eq_zero ha0
          clear ha0
          have HX0 := HA
          simp only [List.length_nil] at *
          by_cases hc0 : ca = 0
          · subst hc0
            go_enter Try.func23, Try.ntmps23
            go_wp2_with fail
            refine (rgis_any A B _ _ [] b _ (HA.out.below V.out.below) (HB.out.below V.out.below) la lb).mono ?_
            rintro e w1 ⟨rfl, hb⟩
            rw [hg]
            replace V := Lib.hid (V.out.call hb)
            clear hb
            have g0 := V.out.at 0 rfl
            rw [one_size] at g0
            obtain ⟨⟨c0, c1⟩, ⟨f0, f1⟩, hz1⟩ := blk2 g0
            obtain ⟨⟨d0, d1⟩, ⟨k0, k1⟩, hz2⟩ := blk2 (V.out.at 1 rfl)
            clear g0
            go_wp2
            go_region
            all_goals go_wp2
            all_goals (
              refine bodyPost_ret (v := _) (by (simp [results, Try.results23, go_sem, *]) <;> rfl) rfl (and_below ?_ fun hB => ?_)
              · repeat (first | (with_reducible exact V.out.below) | refine Below.setCell ?_ (by simp) _ | refine Below.drew ?_)
              · exact ⟨_, _, _, _, _, _, rfl, ⟨HX0.out.below hB, HB.out.below hB⟩, HX0.out.below hB⟩)
          · obtain ⟨ad, rfl⟩ : ∃ ad, A = some ad := by
              cases A with
              | none =>
                obtain ⟨_, _, _, e, h⟩ := HA.out.rw
                cases e
                rcases h with ⟨_, h⟩ | ⟨_, _, h, _⟩
                · exact absurd (h rfl) hc0
                · cases h
              | some ad => exact ⟨ad, rfl⟩
            go_enter Try.func23, Try.ntmps23
            go_wp2_with fail
            refine (rgis_any (some ad) B _ _ [] b _ (HA.out.below V.out.below) (HB.out.below V.out.below) la lb).mono ?_
            rintro e w1 ⟨rfl, hb⟩
            rw [hg]
            replace V := Lib.hid (V.out.call hb)
            clear hb
            have g0 := V.out.at 0 rfl
            rw [one_size] at g0
            obtain ⟨⟨c0, c1⟩, ⟨f0, f1⟩, hz1⟩ := blk2 g0
            obtain ⟨⟨d0, d1⟩, ⟨k0, k1⟩, hz2⟩ := blk2 (V.out.at 1 rfl)
            clear g0
            go_wp2
            go_region
            all_goals go_wp2
            all_goals (
              refine bodyPost_ret (v := _) (by (simp [results, Try.results23, go_sem, *]) <;> rfl) rfl (and_below ?_ fun hB => ?_)
              · repeat (first | (with_reducible exact V.out.below) | refine Below.setCell ?_ (by simp) _ | refine Below.drew ?_)
              · exact ⟨_, _, _, _, _, _, rfl, ⟨Rr.empty _ _ _, HB.out.below hB⟩, Rr.empty _ _ _⟩)
        · obtain ⟨g, o, rfl⟩ := HA.out.plain (by omega)
          have hc0 : ¬ ca = 0 := by omega
          go_enter Try.func23, Try.ntmps23
          go_wp2_with fail
          refine (rgis_any (some ⟨g, o, none⟩) B _ _ a b _ (HA.out.below V.out.below) (HB.out.below V.out.below) la lb).mono ?_
          rintro e w1 ⟨rfl, hb⟩
          rw [hg]
          replace V := Lib.hid (V.out.call hb)
          clear hb
          have g0 := V.out.at 0 rfl
          rw [one_size] at g0
          obtain ⟨⟨c0, c1⟩, ⟨f0, f1⟩, hz1⟩ := blk2 g0
          obtain ⟨⟨d0, d1⟩, ⟨k0, k1⟩, hz2⟩ := blk2 (V.out.at 1 rfl)
          clear g0
          go_wp2
          go_region
          all_goals go_wp2
          all_goals (
            refine bodyPost_ret (v := _) (by (simp [results, Try.results23, go_sem, *]) <;> rfl) rfl (and_below ?_ fun hB => ?_)
            · repeat (first | (with_reducible exact V.out.below) | refine Below.setCell ?_ (by simp) _ | refine Below.drew ?_)
            · exact ⟨_, _, _, _, _, _, rfl, ⟨Rr.empty _ _ _, HB.out.below hB⟩, HA.out.below hB⟩)
end Go.Proofs.Ytogfnhhgbmnbpaa
