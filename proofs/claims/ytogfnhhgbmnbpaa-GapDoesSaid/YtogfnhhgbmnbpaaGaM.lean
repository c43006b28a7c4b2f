/- Lines with a point: the reference's Go, to a place below 0. -/
import Derived.Test.YtogfnhhgbmnbpaaGaI
set_option linter.unusedVariables false
namespace Go.Proofs.Ytogfnhhgbmnbpaa
open Go.RowKit Go.PlainAid Gl L Gp
set_option maxHeartbeats 4000000 in
theorem rgo_lt (A B : Option Addr) (ca cb : Nat) (a b l : List Int) (n : Int) (x y : List Int) (w : World) (ha : Rr w (.slice A a.length ca) a) (hb : Rr w (.slice B b.length cb) b) (la : a.length ≤ 1000) (lb : b.length ≤ 1000) (hg : rt (a, b) = true) (hl : l = a ++ b) (ll : l.length ≤ 200) (hn : n < 0) (hx1 : x = []) (hx2 : l = y) :
    Calls Try.prog 19 #[.agg #[.slice A a.length ca, .slice B b.length cb], .int .i64 n] w fun e w' => OutG w e w' x y := by
  have V := Lib.hid (((La.start w).box #[.slice A a.length ca, .slice B b.length cb] 24).box #[.slice none 0 0, .slice none 0 0] 24)
  have HA := Lib.hid ha
  have HB := Lib.hid hb
  have HL := Lib.hid hl
  clear ha hb hl
  subst hx1 hx2
  have j2 : ¬ ((l.length : Int) < 0) := by omega
  have lx : l.length ≤ 1000 := by omega
  have ly := lx
  have l0 : ([] : List Int).length ≤ 1000 := Nat.zero_le _
  go_enter Try.func19, Try.ntmps19
  go_wp2_with fail
  refine (rgis_any A B ca cb a b _ (HA.out.below V.out.below) (HB.out.below V.out.below) la lb).mono ?_
  rintro e w1 ⟨rfl, hb⟩
  rw [hg]
  replace V := Lib.hid (V.out.call hb)
  clear hb
  have g0 := V.out.at 0 rfl
  rw [one_size] at g0
  obtain ⟨⟨c0, c1⟩, ⟨f0, f1⟩, hz1⟩ := blk2 g0
  obtain ⟨⟨d0, d1⟩, ⟨k0, k1⟩, hz2⟩ := blk2 (V.out.at 1 rfl)
  clear g0
  go_wp2_with fail
  refine (rgtext_any A B ca cb a b _ (HA.out.below V.out.below) (HB.out.below V.out.below) la lb l HL.out).mono ?_
  rintro e w2 ⟨⟨U, c, rfl, hr⟩, hb⟩
  replace V := Lib.hid (V.out.call hb)
  have HR := Lib.hid hr
  clear hb hr c0 c1 f0 f1 hz1 d0 d1 k0 k1 hz2 HL
  obtain ⟨_, _, e, hcap⟩ := HR.out.room
  cases e
  have i3 : (0 : Int) ≤ (c : Int) := by omega
  have i2 : (0 : Int) ≤ (l.length : Int) := by omega
  have HG := Lib.hid hg
  clear hg
  by_cases hl0 : l.length = 0
  · obtain rfl : l = [] := List.eq_nil_of_length_eq_zero hl0
    simp only [List.length_nil] at *
    by_cases hca : c = 0
    · subst hca
      have r1 := HR.out
      have r2 := HR.out
      replace V := Lib.hid (((V.out.add _ r1 (Stb.rr _ _)).add _ r2 (Stb.rr _ _)).drew)
      have VD := V
      clear V r1 r2
      go_wp2
      go_region_with (first | (go_at_call 28; have t0 := VD.out.at 0 rfl; have t1 := VD.out.at 1 rfl; have t2 := VD.out.at 2 rfl; (try dsimp only at t0 t1 t2); refine (copy_any _ [] _ (by first | exact t0 | exact t1 | exact t2 | exact Rr.empty _ _ _) (by first | exact lx | exact ly | exact l0)).mono ?_; clear t0 t1 t2; rintro e w3 ⟨⟨U, c, rfl, hr⟩, hb⟩; replace VD := Lib.hid ((VD.out.call hb).add _ hr (Stb.rr _ _)); clear hb hr; first | (have g0 := VD.out.at 3 rfl; rw [one_size] at g0; obtain ⟨⟨p0, p1⟩, ⟨q0, q1⟩, z1⟩ := blk2 g0; clear g0) | (have g0 := VD.out.at 4 rfl; rw [one_size] at g0; obtain ⟨⟨p0, p1⟩, ⟨q0, q1⟩, z1⟩ := blk2 g0; clear g0)))
      all_goals (
        have g0 := VD.out.at 4 rfl; rw [one_size] at g0
        obtain ⟨⟨p0, p1⟩, ⟨q0, q1⟩, z1⟩ := blk2 g0
        go_wp2
        refine bodyPost_ret (v := _) (by (simp [results, Try.results19, go_sem, *]) <;> rfl) rfl (and_below ?_ fun hB => ?_)
        · repeat (first | (with_reducible exact VD.out.below) | refine Below.setCell ?_ (by simp) _ | refine Below.drew ?_)
        · have k0 := fun u0 u1 => Rr.upd (S := (· = w.heap.size + 1)) (VD.out.at 0 rfl) (fun k hk => TwoS.of g0 hk) (upd_two _ _ u0 u1)
          have k1 := fun u0 u1 => Rr.upd (S := (· = w.heap.size + 1)) (VD.out.at 1 rfl) (fun k hk => TwoS.of g0 hk) (upd_two _ _ u0 u1)
          exact ⟨_, _, _, _, rfl, (by first | exact k0 _ _ | exact k1 _ _), (by first | exact k0 _ _ | exact k1 _ _)⟩)
    · obtain ⟨ad, rfl⟩ : ∃ ad, U = some ad := by
        cases U with
        | none =>
          obtain ⟨_, _, _, e, h⟩ := HR.out.rw
          cases e
          rcases h with ⟨_, h⟩ | ⟨_, _, h, _⟩
          · exact absurd (h rfl) hca
          · cases h
        | some ad => exact ⟨ad, rfl⟩
      have r1 := HR.out
      have r2 := HR.out
      replace V := Lib.hid (((V.out.add _ r1 (Stb.rr _ _)).add _ r2 (Stb.rr _ _)).drew)
      have VD := V
      clear V r1 r2
      go_wp2
      go_region_with (first | (go_at_call 28; have t0 := VD.out.at 0 rfl; have t1 := VD.out.at 1 rfl; have t2 := VD.out.at 2 rfl; (try dsimp only at t0 t1 t2); refine (copy_any _ [] _ (by first | exact t0 | exact t1 | exact t2 | exact Rr.empty _ _ _) (by first | exact lx | exact ly | exact l0)).mono ?_; clear t0 t1 t2; rintro e w3 ⟨⟨U, c, rfl, hr⟩, hb⟩; replace VD := Lib.hid ((VD.out.call hb).add _ hr (Stb.rr _ _)); clear hb hr; first | (have g0 := VD.out.at 3 rfl; rw [one_size] at g0; obtain ⟨⟨p0, p1⟩, ⟨q0, q1⟩, z1⟩ := blk2 g0; clear g0) | (have g0 := VD.out.at 4 rfl; rw [one_size] at g0; obtain ⟨⟨p0, p1⟩, ⟨q0, q1⟩, z1⟩ := blk2 g0; clear g0)))
      all_goals (
        have g0 := VD.out.at 4 rfl; rw [one_size] at g0
        obtain ⟨⟨p0, p1⟩, ⟨q0, q1⟩, z1⟩ := blk2 g0
        go_wp2
        refine bodyPost_ret (v := _) (by (simp [results, Try.results19, go_sem, *]) <;> rfl) rfl (and_below ?_ fun hB => ?_)
        · repeat (first | (with_reducible exact VD.out.below) | refine Below.setCell ?_ (by simp) _ | refine Below.drew ?_)
        · have k0 := fun u0 u1 => Rr.upd (S := (· = w.heap.size + 1)) (VD.out.at 0 rfl) (fun k hk => TwoS.of g0 hk) (upd_two _ _ u0 u1)
          have k1 := fun u0 u1 => Rr.upd (S := (· = w.heap.size + 1)) (VD.out.at 1 rfl) (fun k hk => TwoS.of g0 hk) (upd_two _ _ u0 u1)
          exact ⟨_, _, _, _, rfl, (by first | exact k0 _ _ | exact k1 _ _), (by first | exact k0 _ _ | exact k1 _ _)⟩)
  · obtain ⟨g, o, rfl⟩ := HR.out.plain (by omega)
    have hcz : ¬ c = 0 := by omega
    have r1 := Rr.empty w2 ⟨g, o, none⟩ c
    have r2 := HR.out
    replace V := Lib.hid (((V.out.add _ r1 (Stb.rr _ _)).add _ r2 (Stb.rr _ _)).drew)
    have VD := V
    clear V r1 r2
    go_wp2
    go_region_with (first | (go_at_call 28; have t0 := VD.out.at 0 rfl; have t1 := VD.out.at 1 rfl; have t2 := VD.out.at 2 rfl; (try dsimp only at t0 t1 t2); refine (copy_any _ [] _ (by first | exact t0 | exact t1 | exact t2 | exact Rr.empty _ _ _) (by first | exact lx | exact ly | exact l0)).mono ?_; clear t0 t1 t2; rintro e w3 ⟨⟨U, c, rfl, hr⟩, hb⟩; replace VD := Lib.hid ((VD.out.call hb).add _ hr (Stb.rr _ _)); clear hb hr; first | (have g0 := VD.out.at 3 rfl; rw [one_size] at g0; obtain ⟨⟨p0, p1⟩, ⟨q0, q1⟩, z1⟩ := blk2 g0; clear g0) | (have g0 := VD.out.at 4 rfl; rw [one_size] at g0; obtain ⟨⟨p0, p1⟩, ⟨q0, q1⟩, z1⟩ := blk2 g0; clear g0)) | (go_at_call 28; have t0 := VD.out.at 0 rfl; have t1 := VD.out.at 1 rfl; have t2 := VD.out.at 2 rfl; (try dsimp only at t0 t1 t2); refine (copy_any _ l _ (by first | exact t0 | exact t1 | exact t2 | exact Rr.empty _ _ _) (by first | exact lx | exact ly | exact l0)).mono ?_; clear t0 t1 t2; rintro e w3 ⟨⟨U, c, rfl, hr⟩, hb⟩; replace VD := Lib.hid ((VD.out.call hb).add _ hr (Stb.rr _ _)); clear hb hr; first | (have g0 := VD.out.at 3 rfl; rw [one_size] at g0; obtain ⟨⟨p0, p1⟩, ⟨q0, q1⟩, z1⟩ := blk2 g0; clear g0) | (have g0 := VD.out.at 4 rfl; rw [one_size] at g0; obtain ⟨⟨p0, p1⟩, ⟨q0, q1⟩, z1⟩ := blk2 g0; clear g0)))
    all_goals (
      have g0 := VD.out.at 4 rfl; rw [one_size] at g0
      obtain ⟨⟨p0, p1⟩, ⟨q0, q1⟩, z1⟩ := blk2 g0
      go_wp2
      refine bodyPost_ret (v := _) (by (simp [results, Try.results19, go_sem, *]) <;> rfl) rfl (and_below ?_ fun hB => ?_)
      · repeat (first | (with_reducible exact VD.out.below) | refine Below.setCell ?_ (by simp) _ | refine Below.drew ?_)
      · have k0 := fun u0 u1 => Rr.upd (S := (· = w.heap.size + 1)) (VD.out.at 0 rfl) (fun k hk => TwoS.of g0 hk) (upd_two _ _ u0 u1)
        have k1 := fun u0 u1 => Rr.upd (S := (· = w.heap.size + 1)) (VD.out.at 1 rfl) (fun k hk => TwoS.of g0 hk) (upd_two _ _ u0 u1)
        exact ⟨_, _, _, _, rfl, (by first | exact k0 _ _ | exact k1 _ _), (by first | exact k0 _ _ | exact k1 _ _)⟩)
end Go.Proofs.Ytogfnhhgbmnbpaa
