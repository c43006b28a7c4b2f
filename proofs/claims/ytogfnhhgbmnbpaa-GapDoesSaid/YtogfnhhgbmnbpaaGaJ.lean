/- Lines with a point: the reference's Of and Go. -/
import Derived.Test.YtogfnhhgbmnbpaaGaI
set_option linter.unusedVariables false
namespace Go.Proofs.Ytogfnhhgbmnbpaa
open Go.RowKit Go.PlainAid Gl L Gp
set_option maxHeartbeats 4000000 in
theorem rgof_any (A : Option Addr) (ca : Nat) (l : List Int) (n : Int) (x y : List Int) (w : World) (hr : Rr w (.slice A l.length ca) l) (ll : l.length ≤ 1000) (hx : ofV l n = (x, y)) :
    Calls Try.prog 10 #[.slice A l.length ca, .int .i64 n] w fun e w' => OutE w e w' x y (ofE l n) := by
  have V := Lib.hid ((La.start w).box #[.slice none 0 0, .slice none 0 0] 24)
  have HA := Lib.hid hr
  have lm : l.length ≤ maxLen := by unfold maxLen; omega
  clear hr
  cases ha : al l
  · skip
    have e0 : ofE l n = 1 := if_neg (by rw [ha]; simp)
    obtain ⟨rfl, rfl⟩ : x = [] ∧ y = [] := by
      have e1 : ofV l n = ([], []) := if_neg (by rw [e0]; decide)
      rw [e1] at hx
      injection hx with h1 h2
      exact ⟨h1.symm, h2.symm⟩
    rw [e0]
    clear e0 hx
    go_enter Try.func10, Try.ntmps10
    go_wp2_with fail
    refine (rall_any _ l _ (HA.out.row.below V.out.below) lm).mono ?_
    rintro e w2 ⟨rfl, hb⟩
    rw [ha]
    replace V := Lib.hid (V.out.call hb)
    clear hb
    obtain ⟨⟨c0, c1⟩, ⟨f0, f1⟩, hz1⟩ := blk2 (V.out.at 0 rfl)
    go_wp2
    refine bodyPost_ret (v := .tuple #[.agg #[.slice none 0 0, .slice none 0 0], .int .i64 1]) (by simp [results, Try.results10, go_sem, *]) rfl (and_below ?_ fun hB => ?_)
    · repeat (first | (with_reducible exact V.out.below) | refine Below.setCell ?_ (by simp) _)
    · exact ⟨none, none, 0, 0, rfl, Gr.nil _⟩
  · by_cases h0 : n < 0
    · skip
      have e0 : ofE l n = 1 := if_neg (by omega)
      obtain ⟨rfl, rfl⟩ : x = [] ∧ y = [] := by
        have e1 : ofV l n = ([], []) := if_neg (by rw [e0]; decide)
        rw [e1] at hx
        injection hx with h1 h2
        exact ⟨h1.symm, h2.symm⟩
      rw [e0]
      clear e0 hx
      go_enter Try.func10, Try.ntmps10
      go_wp2_with fail
      refine (rall_any _ l _ (HA.out.row.below V.out.below) lm).mono ?_
      rintro e w2 ⟨rfl, hb⟩
      rw [ha]
      replace V := Lib.hid (V.out.call hb)
      clear hb
      obtain ⟨⟨c0, c1⟩, ⟨f0, f1⟩, hz1⟩ := blk2 (V.out.at 0 rfl)
      go_wp2
      refine bodyPost_ret (v := .tuple #[.agg #[.slice none 0 0, .slice none 0 0], .int .i64 1]) (by simp [results, Try.results10, go_sem, *]) rfl (and_below ?_ fun hB => ?_)
      · repeat (first | (with_reducible exact V.out.below) | refine Below.setCell ?_ (by simp) _)
      · exact ⟨none, none, 0, 0, rfl, Gr.nil _⟩
    · by_cases h1 : (l.length : Int) < n
      · skip
        have e0 : ofE l n = 1 := if_neg (by omega)
        obtain ⟨rfl, rfl⟩ : x = [] ∧ y = [] := by
          have e1 : ofV l n = ([], []) := if_neg (by rw [e0]; decide)
          rw [e1] at hx
          injection hx with h1 h2
          exact ⟨h1.symm, h2.symm⟩
        rw [e0]
        clear e0 hx
        go_enter Try.func10, Try.ntmps10
        go_wp2_with fail
        refine (rall_any _ l _ (HA.out.row.below V.out.below) lm).mono ?_
        rintro e w2 ⟨rfl, hb⟩
        rw [ha]
        replace V := Lib.hid (V.out.call hb)
        clear hb
        obtain ⟨⟨c0, c1⟩, ⟨f0, f1⟩, hz1⟩ := blk2 (V.out.at 0 rfl)
        go_wp2
        refine bodyPost_ret (v := .tuple #[.agg #[.slice none 0 0, .slice none 0 0], .int .i64 1]) (by simp [results, Try.results10, go_sem, *]) rfl (and_below ?_ fun hB => ?_)
        · repeat (first | (with_reducible exact V.out.below) | refine Below.setCell ?_ (by simp) _)
        · exact ⟨none, none, 0, 0, rfl, Gr.nil _⟩
      · by_cases h2 : 200 < l.length
        · have h3 : (200 : Int) < (l.length : Int) := by omega
          have e0 : ofE l n = 5 := by unfold ofE; rw [if_pos ⟨ha, by omega, by omega⟩, if_pos h2]
          obtain ⟨rfl, rfl⟩ : x = [] ∧ y = [] := by
            have e1 : ofV l n = ([], []) := if_neg (by rw [e0]; decide)
            rw [e1] at hx
            injection hx with h1 h2
            exact ⟨h1.symm, h2.symm⟩
          rw [e0]
          clear e0 hx
          go_enter Try.func10, Try.ntmps10
          go_wp2_with fail
          refine (rall_any _ l _ (HA.out.row.below V.out.below) lm).mono ?_
          rintro e w2 ⟨rfl, hb⟩
          rw [ha]
          replace V := Lib.hid (V.out.call hb)
          clear hb
          obtain ⟨⟨c0, c1⟩, ⟨f0, f1⟩, hz1⟩ := blk2 (V.out.at 0 rfl)
          go_wp2
          refine bodyPost_ret (v := .tuple #[.agg #[.slice none 0 0, .slice none 0 0], .int .i64 5]) (by simp [results, Try.results10, go_sem, *]) rfl (and_below ?_ fun hB => ?_)
          · repeat (first | (with_reducible exact V.out.below) | refine Below.setCell ?_ (by simp) _)
          · exact ⟨none, none, 0, 0, rfl, Gr.nil _⟩
        · have h3 : ¬ (200 : Int) < (l.length : Int) := by omega
          obtain ⟨m, rfl⟩ := Int.eq_ofNat_of_zero_le (Int.not_lt.1 h0)
          have e0 : ofE l (m : Int) = 0 := by unfold ofE; rw [if_pos ⟨ha, by omega, by omega⟩, if_neg h2]
          have e1 : ofV l (m : Int) = (l.take m, l.drop m) := if_pos e0
          rw [e1] at hx
          injection hx with hx1 hx2
          have HX := Lib.hid (And.intro hx1 hx2)
          rw [e0]
          have hm : m ≤ l.length := by omega
          have lx : x.length ≤ 1000 := by rw [← hx1, List.length_take]; omega
          have ly : y.length ≤ 1000 := by rw [← hx2, List.length_drop]; omega
          have l0 : ([] : List Int).length ≤ 1000 := Nat.zero_le _
          clear e0 e1 hx1 hx2
        
          obtain ⟨_, _, e, hcap⟩ := HA.out.room
          cases e
          have i1 : (0 : Int) ≤ (m : Int) := by omega
          have i2 : (m : Int) ≤ (l.length : Int) := by omega
          have i3 : (m : Int) ≤ (ca : Int) := by omega
          by_cases hl0 : l.length = 0
          · obtain rfl : l = [] := List.eq_nil_of_length_eq_zero hl0
            obtain rfl : m = 0 := by simpa using hm
            obtain ⟨rfl, rfl⟩ : x = [] ∧ y = [] := ⟨by rw [← HX.out.1]; rfl, by rw [← HX.out.2]; rfl⟩
            simp only [List.length_nil] at *
            by_cases hca : ca = 0
            · subst hca
              have r1 := HA.out
              have r2 := HA.out
              go_enter Try.func10, Try.ntmps10
              go_wp2_with fail
              refine (rall_any _ _ _ (HA.out.row.below V.out.below) lm).mono ?_
              rintro e w2 ⟨rfl, hb⟩
              rw [ha]
              replace r1 := r1.below (V.out.below.trans (hb.mono V.out.below.size))
              replace r2 := r2.below (V.out.below.trans (hb.mono V.out.below.size))
              replace V := Lib.hid (V.out.call hb)
              clear hb
              obtain ⟨⟨c0, c1⟩, ⟨f0, f1⟩, hz1⟩ := blk2 (V.out.at 0 rfl)
              replace V := Lib.hid (((V.out.add _ r1 (Stb.rr _ _)).add _ r2 (Stb.rr _ _)).drew)
              have VD := V
              clear V r1 r2
              go_wp2
              go_region_with (first | (go_at_call 28; have t0 := VD.out.at 0 rfl; have t1 := VD.out.at 1 rfl; have t2 := VD.out.at 2 rfl; (try dsimp only at t0 t1 t2); refine (copy_any _ [] _ (by first | exact t0 | exact t1 | exact t2 | exact Rr.empty _ _ _) (by first | exact lx | exact ly | exact l0)).mono ?_; clear t0 t1 t2; rintro e w3 ⟨⟨U, c, rfl, hr⟩, hb⟩; replace VD := Lib.hid ((VD.out.call hb).add _ hr (Stb.rr _ _)); clear hb hr; first | (have g0 := VD.out.at 3 rfl; obtain ⟨⟨p0, p1⟩, ⟨q0, q1⟩, z1⟩ := blk2 g0; clear g0) | (have g0 := VD.out.at 4 rfl; obtain ⟨⟨p0, p1⟩, ⟨q0, q1⟩, z1⟩ := blk2 g0; clear g0)))
              all_goals (
                have g0 := VD.out.at 4 rfl
                obtain ⟨⟨p0, p1⟩, ⟨q0, q1⟩, z1⟩ := blk2 g0
                go_wp2
                refine bodyPost_ret (v := _) (by (simp [results, Try.results10, go_sem, *]) <;> rfl) rfl (and_below ?_ fun hB => ?_)
                · repeat (first | (with_reducible exact VD.out.below) | refine Below.setCell ?_ (by simp) _ | refine Below.drew ?_)
                · have k0 := fun u0 u1 => Rr.upd (S := (· = w.heap.size)) (VD.out.at 0 rfl) (fun k hk => TwoS.of g0 hk) (upd_two _ _ u0 u1)
                  have k1 := fun u0 u1 => Rr.upd (S := (· = w.heap.size)) (VD.out.at 1 rfl) (fun k hk => TwoS.of g0 hk) (upd_two _ _ u0 u1)
                  exact ⟨_, _, _, _, rfl, (by first | exact k0 _ _ | exact k1 _ _), (by first | exact k0 _ _ | exact k1 _ _)⟩)
            · obtain ⟨ad, rfl⟩ : ∃ ad, A = some ad := by
                cases A with
                | none =>
                  obtain ⟨_, _, _, e, h⟩ := HA.out.rw
                  cases e
                  rcases h with ⟨_, h⟩ | ⟨_, _, h, _⟩
                  · exact absurd (h rfl) hca
                  · cases h
                | some ad => exact ⟨ad, rfl⟩
              have r1 := HA.out
              have r2 := HA.out
              go_enter Try.func10, Try.ntmps10
              go_wp2_with fail
              refine (rall_any _ _ _ (HA.out.row.below V.out.below) lm).mono ?_
              rintro e w2 ⟨rfl, hb⟩
              rw [ha]
              replace r1 := r1.below (V.out.below.trans (hb.mono V.out.below.size))
              replace r2 := r2.below (V.out.below.trans (hb.mono V.out.below.size))
              replace V := Lib.hid (V.out.call hb)
              clear hb
              obtain ⟨⟨c0, c1⟩, ⟨f0, f1⟩, hz1⟩ := blk2 (V.out.at 0 rfl)
              replace V := Lib.hid (((V.out.add _ r1 (Stb.rr _ _)).add _ r2 (Stb.rr _ _)).drew)
              have VD := V
              clear V r1 r2
              go_wp2
              go_region_with (first | (go_at_call 28; have t0 := VD.out.at 0 rfl; have t1 := VD.out.at 1 rfl; have t2 := VD.out.at 2 rfl; (try dsimp only at t0 t1 t2); refine (copy_any _ [] _ (by first | exact t0 | exact t1 | exact t2 | exact Rr.empty _ _ _) (by first | exact lx | exact ly | exact l0)).mono ?_; clear t0 t1 t2; rintro e w3 ⟨⟨U, c, rfl, hr⟩, hb⟩; replace VD := Lib.hid ((VD.out.call hb).add _ hr (Stb.rr _ _)); clear hb hr; first | (have g0 := VD.out.at 3 rfl; obtain ⟨⟨p0, p1⟩, ⟨q0, q1⟩, z1⟩ := blk2 g0; clear g0) | (have g0 := VD.out.at 4 rfl; obtain ⟨⟨p0, p1⟩, ⟨q0, q1⟩, z1⟩ := blk2 g0; clear g0)))
              all_goals (
                have g0 := VD.out.at 4 rfl
                obtain ⟨⟨p0, p1⟩, ⟨q0, q1⟩, z1⟩ := blk2 g0
                go_wp2
                refine bodyPost_ret (v := _) (by (simp [results, Try.results10, go_sem, *]) <;> rfl) rfl (and_below ?_ fun hB => ?_)
                · repeat (first | (with_reducible exact VD.out.below) | refine Below.setCell ?_ (by simp) _ | refine Below.drew ?_)
                · have k0 := fun u0 u1 => Rr.upd (S := (· = w.heap.size)) (VD.out.at 0 rfl) (fun k hk => TwoS.of g0 hk) (upd_two _ _ u0 u1)
                  have k1 := fun u0 u1 => Rr.upd (S := (· = w.heap.size)) (VD.out.at 1 rfl) (fun k hk => TwoS.of g0 hk) (upd_two _ _ u0 u1)
                  exact ⟨_, _, _, _, rfl, (by first | exact k0 _ _ | exact k1 _ _), (by first | exact k0 _ _ | exact k1 _ _)⟩)
          · obtain ⟨g, o, rfl⟩ := HA.out.plain (by omega)
            have r1 := HA.out.head m hm
            rw [HX.out.1] at r1
            by_cases hcn : ca = m
            · obtain rfl : m = l.length := by omega
              subst hcn
              have hy : y = [] := by rw [← HX.out.2]; exact List.drop_length
              subst hy
              have r2 := Rr.empty w ⟨g, o, none⟩ 0
              go_enter Try.func10, Try.ntmps10
              go_wp2_with fail
              refine (rall_any _ _ _ (HA.out.row.below V.out.below) lm).mono ?_
              rintro e w2 ⟨rfl, hb⟩
              rw [ha]
              replace r1 := r1.below (V.out.below.trans (hb.mono V.out.below.size))
              replace r2 := r2.below (V.out.below.trans (hb.mono V.out.below.size))
              replace V := Lib.hid (V.out.call hb)
              clear hb
              obtain ⟨⟨c0, c1⟩, ⟨f0, f1⟩, hz1⟩ := blk2 (V.out.at 0 rfl)
              replace V := Lib.hid (((V.out.add _ r1 (Stb.rr _ _)).add _ r2 (Stb.rr _ _)).drew)
              have VD := V
              clear V r1 r2
              go_wp2
              go_region_with (first | (go_at_call 28; have t0 := VD.out.at 0 rfl; have t1 := VD.out.at 1 rfl; have t2 := VD.out.at 2 rfl; (try dsimp only at t0 t1 t2); refine (copy_any _ x _ (by first | exact t0 | exact t1 | exact t2 | exact Rr.empty _ _ _) (by first | exact lx | exact ly | exact l0)).mono ?_; clear t0 t1 t2; rintro e w3 ⟨⟨U, c, rfl, hr⟩, hb⟩; replace VD := Lib.hid ((VD.out.call hb).add _ hr (Stb.rr _ _)); clear hb hr; first | (have g0 := VD.out.at 3 rfl; obtain ⟨⟨p0, p1⟩, ⟨q0, q1⟩, z1⟩ := blk2 g0; clear g0) | (have g0 := VD.out.at 4 rfl; obtain ⟨⟨p0, p1⟩, ⟨q0, q1⟩, z1⟩ := blk2 g0; clear g0)) | (go_at_call 28; have t0 := VD.out.at 0 rfl; have t1 := VD.out.at 1 rfl; have t2 := VD.out.at 2 rfl; (try dsimp only at t0 t1 t2); refine (copy_any _ [] _ (by first | exact t0 | exact t1 | exact t2 | exact Rr.empty _ _ _) (by first | exact lx | exact ly | exact l0)).mono ?_; clear t0 t1 t2; rintro e w3 ⟨⟨U, c, rfl, hr⟩, hb⟩; replace VD := Lib.hid ((VD.out.call hb).add _ hr (Stb.rr _ _)); clear hb hr; first | (have g0 := VD.out.at 3 rfl; obtain ⟨⟨p0, p1⟩, ⟨q0, q1⟩, z1⟩ := blk2 g0; clear g0) | (have g0 := VD.out.at 4 rfl; obtain ⟨⟨p0, p1⟩, ⟨q0, q1⟩, z1⟩ := blk2 g0; clear g0)))
              all_goals (
                have g0 := VD.out.at 4 rfl
                obtain ⟨⟨p0, p1⟩, ⟨q0, q1⟩, z1⟩ := blk2 g0
                go_wp2
                refine bodyPost_ret (v := _) (by (simp [results, Try.results10, go_sem, *]) <;> rfl) rfl (and_below ?_ fun hB => ?_)
                · repeat (first | (with_reducible exact VD.out.below) | refine Below.setCell ?_ (by simp) _ | refine Below.drew ?_)
                · have k0 := fun u0 u1 => Rr.upd (S := (· = w.heap.size)) (VD.out.at 0 rfl) (fun k hk => TwoS.of g0 hk) (upd_two _ _ u0 u1)
                  have k1 := fun u0 u1 => Rr.upd (S := (· = w.heap.size)) (VD.out.at 1 rfl) (fun k hk => TwoS.of g0 hk) (upd_two _ _ u0 u1)
                  exact ⟨_, _, _, _, rfl, (by first | exact k0 _ _ | exact k1 _ _), (by first | exact k0 _ _ | exact k1 _ _)⟩)
            · have r2 := HA.out.rest m hm hcn
              rw [HX.out.2] at r2
              go_enter Try.func10, Try.ntmps10
              go_wp2_with fail
              refine (rall_any _ _ _ (HA.out.row.below V.out.below) lm).mono ?_
              rintro e w2 ⟨rfl, hb⟩
              rw [ha]
              replace r1 := r1.below (V.out.below.trans (hb.mono V.out.below.size))
              replace r2 := r2.below (V.out.below.trans (hb.mono V.out.below.size))
              replace V := Lib.hid (V.out.call hb)
              clear hb
              obtain ⟨⟨c0, c1⟩, ⟨f0, f1⟩, hz1⟩ := blk2 (V.out.at 0 rfl)
              replace V := Lib.hid (((V.out.add _ r1 (Stb.rr _ _)).add _ r2 (Stb.rr _ _)).drew)
              have VD := V
              clear V r1 r2
              go_wp2
              go_region_with (first | (go_at_call 28; have t0 := VD.out.at 0 rfl; have t1 := VD.out.at 1 rfl; have t2 := VD.out.at 2 rfl; (try dsimp only at t0 t1 t2); refine (copy_any _ x _ (by first | exact t0 | exact t1 | exact t2 | exact Rr.empty _ _ _) (by first | exact lx | exact ly | exact l0)).mono ?_; clear t0 t1 t2; rintro e w3 ⟨⟨U, c, rfl, hr⟩, hb⟩; replace VD := Lib.hid ((VD.out.call hb).add _ hr (Stb.rr _ _)); clear hb hr; first | (have g0 := VD.out.at 3 rfl; obtain ⟨⟨p0, p1⟩, ⟨q0, q1⟩, z1⟩ := blk2 g0; clear g0) | (have g0 := VD.out.at 4 rfl; obtain ⟨⟨p0, p1⟩, ⟨q0, q1⟩, z1⟩ := blk2 g0; clear g0)) | (go_at_call 28; have t0 := VD.out.at 0 rfl; have t1 := VD.out.at 1 rfl; have t2 := VD.out.at 2 rfl; (try dsimp only at t0 t1 t2); refine (copy_any _ y _ (by first | exact t0 | exact t1 | exact t2 | exact Rr.empty _ _ _) (by first | exact lx | exact ly | exact l0)).mono ?_; clear t0 t1 t2; rintro e w3 ⟨⟨U, c, rfl, hr⟩, hb⟩; replace VD := Lib.hid ((VD.out.call hb).add _ hr (Stb.rr _ _)); clear hb hr; first | (have g0 := VD.out.at 3 rfl; obtain ⟨⟨p0, p1⟩, ⟨q0, q1⟩, z1⟩ := blk2 g0; clear g0) | (have g0 := VD.out.at 4 rfl; obtain ⟨⟨p0, p1⟩, ⟨q0, q1⟩, z1⟩ := blk2 g0; clear g0)))
              all_goals (
                have g0 := VD.out.at 4 rfl
                obtain ⟨⟨p0, p1⟩, ⟨q0, q1⟩, z1⟩ := blk2 g0
                go_wp2
                refine bodyPost_ret (v := _) (by (simp [results, Try.results10, go_sem, *]) <;> rfl) rfl (and_below ?_ fun hB => ?_)
                · repeat (first | (with_reducible exact VD.out.below) | refine Below.setCell ?_ (by simp) _ | refine Below.drew ?_)
                · have k0 := fun u0 u1 => Rr.upd (S := (· = w.heap.size)) (VD.out.at 0 rfl) (fun k hk => TwoS.of g0 hk) (upd_two _ _ u0 u1)
                  have k1 := fun u0 u1 => Rr.upd (S := (· = w.heap.size)) (VD.out.at 1 rfl) (fun k hk => TwoS.of g0 hk) (upd_two _ _ u0 u1)
                  exact ⟨_, _, _, _, rfl, (by first | exact k0 _ _ | exact k1 _ _), (by first | exact k0 _ _ | exact k1 _ _)⟩)
end Go.Proofs.Ytogfnhhgbmnbpaa
