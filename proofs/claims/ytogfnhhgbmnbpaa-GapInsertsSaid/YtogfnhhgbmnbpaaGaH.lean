/- Lines with a point: Cut of the program. -/
import Derived.Test.YtogfnhhgbmnbpaaGaG
set_option linter.unusedVariables false
namespace Go.Proofs.Ytogfnhhgbmnbpaa
open Go.RowKit Go.PlainAid Gl L Gp
theorem Gp.cu_none {g : Ln} {n : Int} (h : rt g = false ∨ n = 0) : cuV g n = g ∧ cuL g n = [] := by
  cases hg : rt g
  · exact ⟨if_neg (by rw [hg]; decide), if_neg (by rw [hg]; decide)⟩
  · rcases h with h | rfl
    · rw [h] at hg; cases hg
    · obtain ⟨h1, h2⟩ := cu_behind (n := 0) hg (Int.le_refl _)
      have e : keep g 0 = g.1.length := by unfold keep; rw [if_neg (by omega)]; omega
      rw [h1, h2, e, List.take_length, List.drop_length]
      exact ⟨rfl, rfl⟩
set_option maxHeartbeats 4000000 in
theorem gcut_any (A B : Option Addr) (ca cb : Nat) (a b : List Int) (n : Int) (x y z : List Int) (w : World) (ha : Rr w (.slice A a.length ca) a) (hb : Rr w (.slice B b.length cb) b) (la : a.length ≤ 1000) (lb : b.length ≤ 1000)
    (hn : -9223372036854775808 ≤ n) (hx : cuV (a, b) n = (x, y)) (hz : cuL (a, b) n = z) :
    Calls Try.prog 22 #[.agg #[.slice A a.length ca, .slice B b.length cb], .int .i64 n] w fun e w' => OutR w e w' x y z := by
  have V := Lib.hid (((La.start w).box #[.slice A a.length ca, .slice B b.length cb] 24).box #[.slice none 0 0, .slice none 0 0] 24)
  have HA := Lib.hid ha
  have HB := Lib.hid hb
  clear ha hb
  cases hg : rt (a, b)
  · skip
    obtain ⟨e1, e2⟩ := cu_none (g := (a, b)) (n := n) (.inl hg)
    rw [e1] at hx
    rw [e2] at hz
    injection hx with h1 h2
    subst h1 h2 hz
    clear e1 e2
    go_enter Try.func22, Try.ntmps22
    go_wp2_with fail
    refine (gis_any A B ca cb a b _ (HA.out.below V.out.below) (HB.out.below V.out.below) la lb).mono ?_
    rintro e w1 ⟨rfl, hb⟩
    rw [hg]
    replace V := Lib.hid (V.out.call hb)
    clear hb
    have g0 := V.out.at 0 rfl
    rw [one_size] at g0
    obtain ⟨⟨c0, c1⟩, ⟨f0, f1⟩, hz1⟩ := blk2 g0
    obtain ⟨⟨d0, d1⟩, ⟨k0, k1⟩, hz2⟩ := blk2 (V.out.at 1 rfl)
    clear g0
    go_wp2
    refine bodyPost_ret (v := .tuple #[.agg #[.slice A a.length ca, .slice B b.length cb], .slice none 0 0]) (by simp [results, Try.results22, go_sem, *]) rfl (and_below ?_ fun hB => ?_)
    · repeat (first | (with_reducible exact V.out.below) | refine Below.setCell ?_ (by simp) _)
    · exact ⟨A, B, ca, cb, none, 0, rfl, ⟨HA.out.below hB, HB.out.below hB⟩, Rr.nil _⟩
  · by_cases h0 : n = 0
    · skip
      obtain ⟨e1, e2⟩ := cu_none (g := (a, b)) (n := n) (.inr h0)
      rw [e1] at hx
      rw [e2] at hz
      injection hx with h1 h2
      subst h1 h2 hz
      clear e1 e2
      subst h0
      go_enter Try.func22, Try.ntmps22
      go_wp2_with fail
      refine (gis_any A B ca cb a b _ (HA.out.below V.out.below) (HB.out.below V.out.below) la lb).mono ?_
      rintro e w1 ⟨rfl, hb⟩
      rw [hg]
      replace V := Lib.hid (V.out.call hb)
      clear hb
      have g0 := V.out.at 0 rfl
      rw [one_size] at g0
      obtain ⟨⟨c0, c1⟩, ⟨f0, f1⟩, hz1⟩ := blk2 g0
      obtain ⟨⟨d0, d1⟩, ⟨k0, k1⟩, hz2⟩ := blk2 (V.out.at 1 rfl)
      clear g0
      go_wp2
      refine bodyPost_ret (v := .tuple #[.agg #[.slice A a.length ca, .slice B b.length cb], .slice none 0 0]) (by simp [results, Try.results22, go_sem, *]) rfl (and_below ?_ fun hB => ?_)
      · repeat (first | (with_reducible exact V.out.below) | refine Below.setCell ?_ (by simp) _)
      · exact ⟨A, B, ca, cb, none, 0, rfl, ⟨HA.out.below hB, HB.out.below hB⟩, Rr.nil _⟩
    · by_cases h1 : 0 < n
      · obtain ⟨e1, e2⟩ := cu_ahead (g := (a, b)) hg h1
        rw [e1] at hx
        rw [e2] at hz
        injection hx with hx1 hx2
        subst hx1
        have hm : gone (a, b) n ≤ b.length := gone_le (a, b) n
        have hk : min n (b.length : Int) = ((gone (a, b) n : Nat) : Int) := by unfold gone; rw [if_pos h1]; dsimp only; split <;> omega
        generalize gone (a, b) n = m at hx2 hz hm hk
        have HX := Lib.hid (And.intro hz hx2)
        clear hx2 hz e1 e2
        go_enter Try.func22, Try.ntmps22
        go_wp2_with fail
        refine (gis_any A B ca cb a b _ (HA.out.below V.out.below) (HB.out.below V.out.below) la lb).mono ?_
        rintro e w1 ⟨rfl, hb⟩
        rw [hg]
        replace V := Lib.hid (V.out.call hb)
        clear hb
        have g0 := V.out.at 0 rfl
        rw [one_size] at g0
        obtain ⟨⟨c0, c1⟩, ⟨f0, f1⟩, hz1⟩ := blk2 g0
        obtain ⟨⟨d0, d1⟩, ⟨k0, k1⟩, hz2⟩ := blk2 (V.out.at 1 rfl)
        clear g0
        go_wp2_with fail
        all_goals (
          refine (parted_to B cb b _ m z y _ (HB.out.below V.out.below) lb hm HX.out.1 HX.out.2 (by omega)).mono ?_
          rintro e w3 ⟨⟨U1, U2, q1, q2, rfl, hr⟩, hb⟩
          replace V := Lib.hid (V.out.call hb)
          have HR2 := Lib.hid hr
          clear hb hr c0 c1 f0 f1 hz1 d0 d1 k0 k1 hz2
          have g0 := V.out.at 0 rfl
          rw [one_size] at g0
          obtain ⟨⟨c0, c1⟩, ⟨f0, f1⟩, hz1⟩ := blk2 g0
          obtain ⟨⟨d0, d1⟩, ⟨k0, k1⟩, hz2⟩ := blk2 (V.out.at 1 rfl)
          clear g0
          go_wp2
          go_region
          all_goals go_wp2
          all_goals refine bodyPost_ret (v := .tuple #[.agg #[.slice A a.length ca, .slice U2 y.length q2], .slice U1 z.length q1]) (by simp [results, Try.results22, go_sem, *]) rfl (and_below ?_ fun hB => ?_)
          · repeat (first | (with_reducible exact V.out.below) | refine Below.setCell ?_ (by simp) _ | refine Below.drew ?_ | refine Below.alloc ?_ (by have := hz1; simp; omega) _)
          · have g0 := V.out.at 0 rfl
            have g1 := V.out.at 1 rfl
            rw [one_size] at g0
            have HS : Hid (∀ k, (k = w.heap.size ∨ k = w.heap.size + 1) → Rr.TwoS w3 k) := Lib.hid (fun k hk => hk.elim (fun e => TwoS.of g1 e) (fun e => TwoS.of g0 e))
            clear g0 g1
            refine (fun HU => ⟨_, _, _, _, _, _, rfl, ⟨HA.out.below hB, HR2.out.2.upd HS.out HU⟩, HR2.out.1.upd HS.out HU⟩) ?_
            repeat (first | (with_reducible exact Upd.refl _ _) | refine upd_of ?_ _ _ (by first | exact .inl rfl | exact .inr rfl) _ | refine Upd.drew ?_ | refine Upd.alloc ?_ _))
      · obtain ⟨e1, e2⟩ := cu_behind (g := (a, b)) (n := n) hg (by omega)
        rw [e1] at hx
        rw [e2] at hz
        injection hx with hx1 hx2
        subst hx2
        have hm : keep (a, b) n ≤ a.length := keep_le (a, b) n
        have hk : max ((a.length : Int) + n) 0 = ((keep (a, b) n : Nat) : Int) := by unfold keep; rw [if_neg h1]; dsimp only; omega
        generalize keep (a, b) n = m at hx1 hz hm hk
        have HX := Lib.hid (And.intro hx1 hz)
        clear hx1 hz e1 e2
        go_enter Try.func22, Try.ntmps22
        go_wp2_with fail
        refine (gis_any A B ca cb a b _ (HA.out.below V.out.below) (HB.out.below V.out.below) la lb).mono ?_
        rintro e w1 ⟨rfl, hb⟩
        rw [hg]
        replace V := Lib.hid (V.out.call hb)
        clear hb
        have g0 := V.out.at 0 rfl
        rw [one_size] at g0
        obtain ⟨⟨c0, c1⟩, ⟨f0, f1⟩, hz1⟩ := blk2 g0
        obtain ⟨⟨d0, d1⟩, ⟨k0, k1⟩, hz2⟩ := blk2 (V.out.at 1 rfl)
        clear g0
        go_wp2_with fail
        all_goals (
          refine (parted_to A ca a _ m x z _ (HA.out.below V.out.below) la hm HX.out.1 HX.out.2 (by omega)).mono ?_
          rintro e w3 ⟨⟨U1, U2, q1, q2, rfl, hr⟩, hb⟩
          replace V := Lib.hid (V.out.call hb)
          have HR2 := Lib.hid hr
          clear hb hr c0 c1 f0 f1 hz1 d0 d1 k0 k1 hz2
          have g0 := V.out.at 0 rfl
          rw [one_size] at g0
          obtain ⟨⟨c0, c1⟩, ⟨f0, f1⟩, hz1⟩ := blk2 g0
          obtain ⟨⟨d0, d1⟩, ⟨k0, k1⟩, hz2⟩ := blk2 (V.out.at 1 rfl)
          clear g0
          go_wp2
          go_region
          all_goals go_wp2
          all_goals refine bodyPost_ret (v := .tuple #[.agg #[.slice U1 x.length q1, .slice B b.length cb], .slice U2 z.length q2]) (by simp [results, Try.results22, go_sem, *]) rfl (and_below ?_ fun hB => ?_)
          · repeat (first | (with_reducible exact V.out.below) | refine Below.setCell ?_ (by simp) _ | refine Below.drew ?_ | refine Below.alloc ?_ (by have := hz1; simp; omega) _)
          · have g0 := V.out.at 0 rfl
            have g1 := V.out.at 1 rfl
            rw [one_size] at g0
            have HS : Hid (∀ k, (k = w.heap.size ∨ k = w.heap.size + 1) → Rr.TwoS w3 k) := Lib.hid (fun k hk => hk.elim (fun e => TwoS.of g1 e) (fun e => TwoS.of g0 e))
            clear g0 g1
            refine (fun HU => ⟨_, _, _, _, _, _, rfl, ⟨HR2.out.1.upd HS.out HU, HB.out.below hB⟩, HR2.out.2.upd HS.out HU⟩) ?_
            repeat (first | (with_reducible exact Upd.refl _ _) | refine upd_of ?_ _ _ (by first | exact .inl rfl | exact .inr rfl) _ | refine Upd.drew ?_ | refine Upd.alloc ?_ _))
end Go.Proofs.Ytogfnhhgbmnbpaa
