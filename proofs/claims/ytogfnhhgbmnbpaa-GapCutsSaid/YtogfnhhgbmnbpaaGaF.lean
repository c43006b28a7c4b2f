/- Lines with a point: Go of the program. -/
import Derived.Test.YtogfnhhgbmnbpaaGaE
set_option linter.unusedVariables false
namespace Go.Proofs.Ytogfnhhgbmnbpaa
open Go.RowKit Go.PlainAid Gl L Gp
theorem wi_min (n : Int) (m : Nat) : min (max n 0) (m : Int) = ((wi n m : Nat) : Int) := by unfold wi; split <;> (try split) <;> omega
theorem TwoS.of {w : World} {b k : Nat} {A B : Option Addr} {n c m d : Nat} {t : TypeId} (h : w.heap[b]? = some (.cells #[.slice A n c, .slice B m d] t (0, 0))) (e : k = b) : Rr.TwoS w k := by subst e; exact ⟨_, _, _, _, _, _, _, h⟩
/-- The place as it comes out of a calculation. -/
theorem parted_to (A : Option Addr) (ca : Nat) (a : List Int) (n : Int) (m : Nat) (x y : List Int) (w : World) (ha : Rr w (.slice A a.length ca) a) (la : a.length ≤ 1000) (hm : m ≤ a.length) (hx : a.take m = x) (hy : a.drop m = y) (hn : n = (m : Int)) :
    Calls Try.prog 26 #[.slice A a.length ca, .int .i64 n] w fun e w' => (∃ V W c d, e = .returned (.agg #[.slice V x.length c, .slice W y.length d]) ∧ Rr w' (.slice V x.length c) x ∧ Rr w' (.slice W y.length d) y) ∧ Below w.heap.size w w' := by
  subst hx hy hn
  exact parted_any A ca a m w ha la hm
set_option maxHeartbeats 4000000 in
theorem ggo_any (A B : Option Addr) (ca cb : Nat) (a b : List Int) (n : Int) (x y : List Int) (w : World) (ha : Rr w (.slice A a.length ca) a) (hb : Rr w (.slice B b.length cb) b) (la : a.length ≤ 1000) (lb : b.length ≤ 1000) (hx : goV (a, b) n = (x, y)) :
    Calls Try.prog 18 #[.agg #[.slice A a.length ca, .slice B b.length cb], .int .i64 n] w fun e w' => OutG w e w' x y := by
  have V := Lib.hid (((La.start w).box #[.slice A a.length ca, .slice B b.length cb] 24).box #[.slice none 0 0, .slice none 0 0] 24)
  have HA := Lib.hid ha
  have HB := Lib.hid hb
  clear ha hb
  cases hg : rt (a, b)
  · obtain ⟨rfl, rfl⟩ : a = x ∧ b = y := by
      have e1 : goV (a, b) n = (a, b) := if_neg (by rw [hg]; decide)
      rw [e1] at hx
      injection hx with h1 h2
      exact ⟨h1, h2⟩
    clear hx
    go_enter Try.func18, Try.ntmps18
    go_wp2_with fail
    refine (gis_any A B ca cb a b _ (HA.out.below V.out.below) (HB.out.below V.out.below) la lb).mono ?_
    rintro e w1 ⟨rfl, hb⟩
    rw [hg]
    replace V := Lib.hid (V.out.call hb)
    clear hb
    have g0 := V.out.at 0 rfl
    rw [one_size] at g0
    obtain ⟨⟨c0, c1⟩, ⟨f0, f1⟩, hz1⟩ := blk2 g0
    obtain ⟨⟨d0, d1⟩, ⟨k0, k1⟩, hz2⟩ := blk2 (V.out.at 1 rfl)
    clear g0
    go_wp2
    refine bodyPost_ret (v := .agg #[.slice A a.length ca, .slice B b.length cb]) (by simp [results, Try.results18, go_sem, *]) rfl (and_below ?_ fun hB => ?_)
    · repeat (first | (with_reducible exact V.out.below) | refine Below.setCell ?_ (by simp) _)
    · exact ⟨_, _, _, _, rfl, HA.out.below hB, HB.out.below hB⟩
  · obtain ⟨l, hl⟩ : ∃ l, l = a ++ b := ⟨_, rfl⟩
    have e1 : goV (a, b) n = (l.take (wi n l.length), l.drop (wi n l.length)) := by
      have : goV (a, b) n = at' (txt (a, b)) (wi n (txt (a, b)).length) := if_pos hg
      rw [this]
      show (((a ++ b).take _, (a ++ b).drop _) : Ln) = _
      rw [hl]; rfl
    rw [e1] at hx
    have ll : l.length ≤ 1000 := by
      have := (rt_txt _ hg).2
      rw [hl]; exact Nat.le_trans this (by decide)
    injection hx with hx1 hx2
    have hm := wi_le n l.length
    have hmin := wi_min n l.length
    generalize wi n l.length = m at hx1 hx2 hm hmin
    have HX := Lib.hid (And.intro hx1 hx2)
    have HL := Lib.hid hl
    clear hx1 hx2 e1 hl
    go_enter Try.func18, Try.ntmps18
    go_wp2_with fail
    refine (gis_any A B ca cb a b _ (HA.out.below V.out.below) (HB.out.below V.out.below) la lb).mono ?_
    rintro e w1 ⟨rfl, hb⟩
    rw [hg]
    replace V := Lib.hid (V.out.call hb)
    clear hb
    have g0 := V.out.at 0 rfl
    rw [one_size] at g0
    obtain ⟨⟨c0, c1⟩, ⟨f0, f1⟩, hz1⟩ := blk2 g0
    obtain ⟨⟨d0, d1⟩, ⟨k0, k1⟩, hz2⟩ := blk2 (V.out.at 1 rfl)
    clear g0
    go_wp2_with fail
    refine (gtext_any A B ca cb a b _ (HA.out.below V.out.below) (HB.out.below V.out.below) la lb l HL.out).mono ?_
    rintro e w2 ⟨⟨U, c, rfl, hr⟩, hb⟩
    replace V := Lib.hid (V.out.call hb)
    have HR := Lib.hid hr
    clear hb hr c0 c1 f0 f1 hz1 d0 d1 k0 k1 hz2
    go_wp2_with fail
    all_goals (
      refine (parted_to U c l _ m x y _ HR.out ll hm HX.out.1 HX.out.2 (by omega)).mono ?_
      rintro e w3 ⟨⟨U1, U2, q1, q2, rfl, hr⟩, hb⟩
      replace V := Lib.hid (V.out.call hb)
      have HR2 := Lib.hid hr
      clear hb hr HR
      have g0 := V.out.at 0 rfl
      rw [one_size] at g0
      obtain ⟨⟨c0, c1⟩, ⟨f0, f1⟩, hz1⟩ := blk2 g0
      clear g0
      go_wp2
      refine bodyPost_ret (v := .agg #[.slice U1 x.length q1, .slice U2 y.length q2]) (by simp [results, Try.results18, go_sem, *]) rfl (and_below ?_ fun hB => ?_)
      · repeat (first | (with_reducible exact V.out.below) | refine Below.setCell ?_ (by simp) _)
      · have g0 := V.out.at 0 rfl
        rw [one_size] at g0
        exact ⟨U1, U2, q1, q2, rfl, Gr.upd (S := (· = w.heap.size + 1)) HR2.out (fun k hk => TwoS.of g0 hk) (upd_two _ _ _ _)⟩)
end Go.Proofs.Ytogfnhhgbmnbpaa
