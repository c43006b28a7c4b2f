/- Lines with a point: the reference's Insert, Of, Go. -/
import Derived.Test.YtogfnhhgbmnbpaaGaG
set_option linter.unusedVariables false
namespace Go.Proofs.Ytogfnhhgbmnbpaa
open Go.RowKit Go.PlainAid Gl L Gp
set_option maxHeartbeats 4000000 in
theorem rgin_any (A B C : Option Addr) (ca cb cc : Nat) (a b l : List Int) (x y : List Int) (w : World) (ha : Rr w (.slice A a.length ca) a) (hb : Rr w (.slice B b.length cb) b) (hc : Rr w (.slice C l.length cc) l) (la : a.length ≤ 1000) (lb : b.length ≤ 1000) (ll : l.length ≤ 1000) (hx : inV (a, b) l = (x, y)) :
    Calls Try.prog 21 #[.agg #[.slice A a.length ca, .slice B b.length cb], .slice C l.length cc] w fun e w' => OutE w e w' x y (inE (a, b) l) := by
  have V := Lib.hid (((La.start w).box #[.slice A a.length ca, .slice B b.length cb] 24).box #[.slice none 0 0, .slice none 0 0] 24)
  have HA := Lib.hid ha
  have HB := Lib.hid hb
  have HC := Lib.hid hc
  have lm : l.length ≤ maxLen := by unfold maxLen; omega
  clear ha hb hc
  cases hg : rt (a, b)
  · skip
    have e0 : inE (a, b) l = 1 := if_neg (by rw [hg]; simp)
    obtain ⟨rfl, rfl⟩ : x = [] ∧ y = [] := by
      have e1 : inV (a, b) l = ([], []) := in_no (by rw [e0]; decide)
      rw [e1] at hx
      injection hx with h1 h2
      exact ⟨h1.symm, h2.symm⟩
    rw [e0]
    clear e0 hx
    go_enter Try.func21, Try.ntmps21
    go_wp2_with fail
    refine (rgis_any A B ca cb a b _ (HA.out.below V.out.below) (HB.out.below V.out.below) la lb).mono ?_
    rintro e w1 ⟨rfl, hb⟩
    rw [hg]
    replace V := Lib.hid (V.out.call hb)
    clear hb
    have g0 := V.out.at 0 rfl
    rw [one_size] at g0
    obtain ⟨⟨c0, c1⟩, ⟨f0, f1⟩, hz1⟩ := blk2 g0
    obtain ⟨⟨d0, d1⟩, ⟨k0, k1⟩, hz2⟩ := blk2 (V.out.at 1 rfl)
    clear g0
    go_wp2
    refine bodyPost_ret (v := .tuple #[.agg #[.slice none 0 0, .slice none 0 0], .int .i64 1]) (by simp [results, Try.results21, go_sem, *]) rfl (and_below ?_ fun hB => ?_)
    · repeat (first | (with_reducible exact V.out.below) | refine Below.setCell ?_ (by simp) _)
    · exact ⟨none, none, 0, 0, rfl, Gr.nil _⟩
  · cases hl : al l
    · skip
      have e0 : inE (a, b) l = 1 := if_neg (by rw [hl]; simp)
      obtain ⟨rfl, rfl⟩ : x = [] ∧ y = [] := by
        have e1 : inV (a, b) l = ([], []) := in_no (by rw [e0]; decide)
        rw [e1] at hx
        injection hx with h1 h2
        exact ⟨h1.symm, h2.symm⟩
      rw [e0]
      clear e0 hx
      go_enter Try.func21, Try.ntmps21
      go_wp2_with fail
      refine (rgis_any A B ca cb a b _ (HA.out.below V.out.below) (HB.out.below V.out.below) la lb).mono ?_
      rintro e w1 ⟨rfl, hb⟩
      rw [hg]
      replace V := Lib.hid (V.out.call hb)
      clear hb
      have g0 := V.out.at 0 rfl
      rw [one_size] at g0
      obtain ⟨⟨c0, c1⟩, ⟨f0, f1⟩, hz1⟩ := blk2 g0
      obtain ⟨⟨d0, d1⟩, ⟨k0, k1⟩, hz2⟩ := blk2 (V.out.at 1 rfl)
      clear g0
      go_wp2_with fail
      refine (rall_any _ l _ (HC.out.row.below V.out.below) lm).mono ?_
      rintro e w2 ⟨rfl, hb⟩
      rw [hl]
      replace V := Lib.hid (V.out.call hb)
      clear hb c0 c1 f0 f1 hz1 d0 d1 k0 k1 hz2
      have g0 := V.out.at 0 rfl
      rw [one_size] at g0
      obtain ⟨⟨c0, c1⟩, ⟨f0, f1⟩, hz1⟩ := blk2 g0
      obtain ⟨⟨d0, d1⟩, ⟨k0, k1⟩, hz2⟩ := blk2 (V.out.at 1 rfl)
      clear g0
      go_wp2
      refine bodyPost_ret (v := .tuple #[.agg #[.slice none 0 0, .slice none 0 0], .int .i64 1]) (by simp [results, Try.results21, go_sem, *]) rfl (and_below ?_ fun hB => ?_)
      · repeat (first | (with_reducible exact V.out.below) | refine Below.setCell ?_ (by simp) _)
      · exact ⟨none, none, 0, 0, rfl, Gr.nil _⟩
    · by_cases hz : 200 < a.length + b.length + l.length
      · have hz1 : (200 : Int) - (a.length : Int) - (b.length : Int) < (l.length : Int) := by omega
        have e0 : inE (a, b) l = 5 := by unfold inE; rw [if_pos ⟨hg, hl⟩, if_pos hz]
        obtain ⟨rfl, rfl⟩ : x = [] ∧ y = [] := by
          have e1 : inV (a, b) l = ([], []) := in_no (by rw [e0]; decide)
          rw [e1] at hx
          injection hx with h1 h2
          exact ⟨h1.symm, h2.symm⟩
        rw [e0]
        clear e0 hx
        clear hz
        go_enter Try.func21, Try.ntmps21
        go_wp2_with fail
        refine (rgis_any A B ca cb a b _ (HA.out.below V.out.below) (HB.out.below V.out.below) la lb).mono ?_
        rintro e w1 ⟨rfl, hb⟩
        rw [hg]
        replace V := Lib.hid (V.out.call hb)
        clear hb
        have g0 := V.out.at 0 rfl
        rw [one_size] at g0
        obtain ⟨⟨c0, c1⟩, ⟨f0, f1⟩, hz1⟩ := blk2 g0
        obtain ⟨⟨d0, d1⟩, ⟨k0, k1⟩, hz2⟩ := blk2 (V.out.at 1 rfl)
        clear g0
        go_wp2_with fail
        refine (rall_any _ l _ (HC.out.row.below V.out.below) lm).mono ?_
        rintro e w2 ⟨rfl, hb⟩
        rw [hl]
        replace V := Lib.hid (V.out.call hb)
        clear hb c0 c1 f0 f1 hz1 d0 d1 k0 k1 hz2
        have g0 := V.out.at 0 rfl
        rw [one_size] at g0
        obtain ⟨⟨c0, c1⟩, ⟨f0, f1⟩, hz1⟩ := blk2 g0
        obtain ⟨⟨d0, d1⟩, ⟨k0, k1⟩, hz2⟩ := blk2 (V.out.at 1 rfl)
        clear g0
        go_wp2
        refine bodyPost_ret (v := .tuple #[.agg #[.slice none 0 0, .slice none 0 0], .int .i64 5]) (by simp [results, Try.results21, go_sem, *]) rfl (and_below ?_ fun hB => ?_)
        · repeat (first | (with_reducible exact V.out.below) | refine Below.setCell ?_ (by simp) _)
        · exact ⟨none, none, 0, 0, rfl, Gr.nil _⟩
      · have hzn : ¬ (200 : Int) - (a.length : Int) - (b.length : Int) < (l.length : Int) := by omega
        have hz : a.length + b.length + l.length ≤ 200 := by omega
        obtain ⟨e0, e1⟩ := in_yes (g := (a, b)) hg hl hz
        rw [e1] at hx
        rw [e0]
        clear e0 e1
        injection hx with hx1 hx2
        subst hx2
        have HX := Lib.hid hx1.symm
        clear hx1
        go_enter Try.func21, Try.ntmps21
        go_wp2_with fail
        refine (rgis_any A B ca cb a b _ (HA.out.below V.out.below) (HB.out.below V.out.below) la lb).mono ?_
        rintro e w1 ⟨rfl, hb⟩
        rw [hg]
        replace V := Lib.hid (V.out.call hb)
        clear hb
        have g0 := V.out.at 0 rfl
        rw [one_size] at g0
        obtain ⟨⟨c0, c1⟩, ⟨f0, f1⟩, hz1⟩ := blk2 g0
        obtain ⟨⟨d0, d1⟩, ⟨k0, k1⟩, hz2⟩ := blk2 (V.out.at 1 rfl)
        clear g0
        go_wp2_with fail
        refine (rall_any _ l _ (HC.out.row.below V.out.below) lm).mono ?_
        rintro e w2 ⟨rfl, hb⟩
        rw [hl]
        replace V := Lib.hid (V.out.call hb)
        clear hb c0 c1 f0 f1 hz1 d0 d1 k0 k1 hz2
        have g0 := V.out.at 0 rfl
        rw [one_size] at g0
        obtain ⟨⟨c0, c1⟩, ⟨f0, f1⟩, hz1⟩ := blk2 g0
        obtain ⟨⟨d0, d1⟩, ⟨k0, k1⟩, hz2⟩ := blk2 (V.out.at 1 rfl)
        clear g0
        have HDO := Lib.hid (fun wz (h : Below w.heap.size w wz) => join_any A C ca cc a l wz (HA.out.below h) (HC.out.below h) la ll x HX.out)
        have VD := Lib.hid V.out.drew
        go_wp2
        go_region_with (first | (go_at_call 28; refine (HDO.out _ VD.out.below).mono ?_; rintro e w3 ⟨⟨U, c, rfl, hr⟩, hb⟩; replace VD := Lib.hid ((VD.out.call hb).add _ hr (Stb.rr _ _)); clear hb hr; have g0 := VD.out.at 1 rfl; rw [one_size] at g0; obtain ⟨⟨p0, p1⟩, ⟨q0, q1⟩, z1⟩ := blk2 g0; obtain ⟨⟨r0, r1⟩, ⟨s0, s1⟩, z2⟩ := blk2 (VD.out.at 2 rfl); clear g0))
        all_goals go_wp2
        all_goals (
          refine bodyPost_ret (v := .tuple #[.agg #[.slice U x.length c, .slice B b.length cb], .int .i64 0]) (by simp [results, Try.results21, go_sem, *]) rfl (and_below ?_ fun hB => ?_)
          · repeat (first | (with_reducible exact VD.out.below) | refine Below.setCell ?_ (by simp) _ | refine Below.drew ?_)
          · have g0 := VD.out.at 1 rfl
            have g2 := VD.out.at 0 rfl
            rw [one_size] at g0
            exact ⟨_, _, _, _, rfl, g2.upd (S := (· = w.heap.size + 1)) (fun k hk => TwoS.of g0 hk) (upd_two _ _ _ _), HB.out.below hB⟩)
theorem Rr.empty (w : World) (ad : Addr) (c : Nat) : Rr w (.slice (some ad) 0 c) [] := ⟨⟨rfl, some ad, c, rfl, .inl ⟨rfl, fun h => by cases h⟩⟩, some ad, c, rfl, Nat.zero_le _⟩
theorem Rr.head {w : World} {g o cap : Nat} {l : List Int} (h : Rr w (.slice (some ⟨g, o, none⟩) l.length cap) l) (n : Nat) (hn : n ≤ l.length) : Rr w (.slice (some ⟨g, o, none⟩) n cap) (l.take n) := by
  obtain ⟨_, _, e, hc⟩ := h.room
  cases e
  have := h.cut 0 n cap (Nat.zero_le _) hn (Nat.le_trans hn hc) (Nat.le_refl _)
  rwa [Option.map_some, add_none, Nat.zero_mul, Nat.add_zero, ite_self, List.drop_zero, Nat.sub_zero, Nat.sub_zero] at this
theorem Rr.rest {w : World} {g o cap : Nat} {l : List Int} (h : Rr w (.slice (some ⟨g, o, none⟩) l.length cap) l) (n : Nat) (hn : n ≤ l.length) (hne : ¬ cap = n) : Rr w (.slice (some ⟨g, o + n, none⟩) (l.length - n) (cap - n)) (l.drop n) := by
  obtain ⟨_, _, e, hc⟩ := h.room
  cases e
  have := h.cut n l.length cap hn (Nat.le_refl _) hc (Nat.le_refl _)
  rwa [Option.map_some, add_none, if_neg hne, Nat.mul_one, List.take_of_length_le (Nat.le_refl _)] at this
/-- A copy of a row. -/
theorem copy_any (v : Value) (l : List Int) (w : World) (hv : Rr w v l) (hl : l.length ≤ 1000) : Calls Try.prog 28 #[v, .slice none 0 0] w fun e w' => (∃ V c, e = .returned (.slice V l.length c) ∧ Rr w' (.slice V l.length c) l) ∧ Below w.heap.size w w' := by
  obtain ⟨A, ca, rfl, _⟩ := hv.room
  exact join_any A none ca 0 l [] w hv (Rr.nil w) hl (Nat.zero_le _) l (by simp)
end Go.Proofs.Ytogfnhhgbmnbpaa
