/- Lines with a point: Insert of the program; an append of nothing. -/
import Derived.Test.YtogfnhhgbmnbpaaGaF
set_option linter.unusedVariables false
namespace Go.Proofs.Ytogfnhhgbmnbpaa
open Go.RowKit Go.PlainAid Gl L Gp
theorem run_append_zero {P : Program} (w : World) (t ty e : TypeId) (i : TypeInfo) (ht : P.underlying t = some (.slice e)) (hi : P.info? e = some i) (A C : Option Addr) (n cap cc : Nat) (hn : n ≤ cap) :
    (Builtin.append_ #[t, t] ty #[.slice A n cap, .slice C 0 cc]).run P w = .ok (.slice A n cap) w := by
  cases A <;> cases C <;> simp [Builtin.append_, run_underlying ht, sizeOf, typeInfo, hi, Builtin.lenOf, hn, Builtin.firstCells, storeCells, loadCells, loadCellsFrom]
/-- An append of nothing. -/
theorem wpList_append_zero {P : Program} {w : World} {ops : Array Oper} {rest : List Oper} {o : Oper} {a : Act} {Q : Exit → Act → World → Prop} (hgd : o.guard = none) (s x : Operand) (t : TypeId)
    (ho : o.op = .call { callee := .builtin .append, args := #[s, x], argTypes := #[t, t] })
    (e : TypeId) (i : TypeInfo) (ht : P.underlying t = some (.slice e)) (hi : P.info? e = some i) (A C : Option Addr) (n cap cc : Nat) (hn : n ≤ cap) (v v2 : Value) (hs : a.eval s = v) (hv : v = .slice A n cap) (hx : a.eval x = v2) (hv2 : v2 = .slice C 0 cc)
    (h : wpList P ops Q rest (a.put o.dst v) w) : wpList P ops Q (o :: rest) a w := by
  subst hv hv2
  refine wpList_plain hgd fun K hK => ?_
  have hr := run_append_zero (P := P) w t o.type e i ht hi A C n cap cc hn
  unfold Oper.wp execOp
  simp only [ho, resolve, invoke, builtin, Sem.run_bind, Sem.run_pure, Result.andThen_ok, List.map_toArray, List.map_cons, List.map_nil, hs, hx, hr]
  exact hK _ _ h
theorem Rr.full {w : World} {A : Option Addr} {cap : Nat} {l : List Int} (h : Rr w (.slice A l.length cap) l) : Rr w (.slice A l.length l.length) l := by
  refine ⟨⟨h.rw.1, A, l.length, rfl, ?_⟩, A, _, rfl, Nat.le_refl _⟩
  obtain ⟨_, A', c, e, hc⟩ := h.rw
  cases e
  rcases hc with ⟨h1, _⟩ | hc
  · exact .inl ⟨h1, fun _ => h1⟩
  · exact .inr hc
theorem Rr.plain {w : World} {A : Option Addr} {cap : Nat} {l : List Int} (h : Rr w (.slice A l.length cap) l) (h0 : 0 < l.length) : ∃ g o, A = some ⟨g, o, none⟩ := by
  obtain ⟨_, A', c, e, hc⟩ := h.rw
  cases e
  rcases hc with ⟨h1, _⟩ | ⟨g, o, rfl, _⟩
  · omega
  · exact ⟨g, o, rfl⟩
theorem upd_of {S : Nat → Prop} {w w' : World} (h : Upd S w w') (b o : Nat) (hb : S b) (u : Value) : Upd S w (w'.setCell ⟨b, o, none⟩ u) := Upd.setCell (p := ⟨b, o, none⟩) h (Or.inl hb) u
set_option maxHeartbeats 4000000 in
theorem gin_any (A B C : Option Addr) (ca cb cc : Nat) (a b l : List Int) (x y : List Int) (w : World) (ha : Rr w (.slice A a.length ca) a) (hb : Rr w (.slice B b.length cb) b) (hc : Rr w (.slice C l.length cc) l) (la : a.length ≤ 1000) (lb : b.length ≤ 1000) (ll : l.length ≤ 1000) (hx : inV (a, b) l = (x, y)) :
    Calls Try.prog 20 #[.agg #[.slice A a.length ca, .slice B b.length cb], .slice C l.length cc] w fun e w' => OutE w e w' x y (inE (a, b) l) := by
  have V := Lib.hid (((La.start w).box #[.slice A a.length ca, .slice B b.length cb] 24).box #[.slice none 0 0, .slice none 0 0] 24)
  have HA := Lib.hid ha
  have HB := Lib.hid hb
  have HC := Lib.hid hc
  have lm : l.length ≤ maxLen := by unfold maxLen; omega
  obtain ⟨_, _, e, hcap⟩ := ha.room
  cases e
  clear ha hb hc
  cases hg : rt (a, b)
  · skip
    have e0 : inE (a, b) l = 1 := if_neg (by rw [hg]; simp)
    obtain ⟨rfl, rfl⟩ : x = [] ∧ y = [] := by
      have e1 : inV (a, b) l = ([], []) := in_no (by rw [e0]; decide)
      rw [e1] at hx
      injection hx with h1 h2
      exact ⟨h1.symm, h2.symm⟩
    rw [e0]
    clear e0 hx
    go_enter Try.func20, Try.ntmps20
    go_wp2_with fail
    refine (gis_any A B ca cb a b _ (HA.out.below V.out.below) (HB.out.below V.out.below) la lb).mono ?_
    rintro e w1 ⟨rfl, hb⟩
    rw [hg]
    replace V := Lib.hid (V.out.call hb)
    clear hb
    have g0 := V.out.at 0 rfl
    rw [one_size] at g0
    obtain ⟨⟨c0, c1⟩, ⟨f0, f1⟩, hz1⟩ := blk2 g0
    obtain ⟨⟨d0, d1⟩, ⟨k0, k1⟩, hz2⟩ := blk2 (V.out.at 1 rfl)
    clear g0
    go_wp2
    refine bodyPost_ret (v := .tuple #[.agg #[.slice none 0 0, .slice none 0 0], .int .i64 1]) (by simp [results, Try.results20, go_sem, *]) rfl (and_below ?_ fun hB => ?_)
    · repeat (first | (with_reducible exact V.out.below) | refine Below.setCell ?_ (by simp) _)
    · exact ⟨none, none, 0, 0, rfl, Gr.nil _⟩
  · cases hl : al l
    · skip
      have e0 : inE (a, b) l = 1 := if_neg (by rw [hl]; simp)
      obtain ⟨rfl, rfl⟩ : x = [] ∧ y = [] := by
        have e1 : inV (a, b) l = ([], []) := in_no (by rw [e0]; decide)
        rw [e1] at hx
        injection hx with h1 h2
        exact ⟨h1.symm, h2.symm⟩
      rw [e0]
      clear e0 hx
      go_enter Try.func20, Try.ntmps20
      go_wp2_with fail
      refine (gis_any A B ca cb a b _ (HA.out.below V.out.below) (HB.out.below V.out.below) la lb).mono ?_
      rintro e w1 ⟨rfl, hb⟩
      rw [hg]
      replace V := Lib.hid (V.out.call hb)
      clear hb
      have g0 := V.out.at 0 rfl
      rw [one_size] at g0
      obtain ⟨⟨c0, c1⟩, ⟨f0, f1⟩, hz1⟩ := blk2 g0
      obtain ⟨⟨d0, d1⟩, ⟨k0, k1⟩, hz2⟩ := blk2 (V.out.at 1 rfl)
      clear g0
      go_wp2_with fail
      refine (signs_any _ l _ (HC.out.row.below V.out.below) lm).mono ?_
      rintro e w2 ⟨rfl, hb⟩
      rw [hl]
      replace V := Lib.hid (V.out.call hb)
      clear hb c0 c1 f0 f1 hz1 d0 d1 k0 k1 hz2
      have g0 := V.out.at 0 rfl
      rw [one_size] at g0
      obtain ⟨⟨c0, c1⟩, ⟨f0, f1⟩, hz1⟩ := blk2 g0
      obtain ⟨⟨d0, d1⟩, ⟨k0, k1⟩, hz2⟩ := blk2 (V.out.at 1 rfl)
      clear g0
      go_wp2
      refine bodyPost_ret (v := .tuple #[.agg #[.slice none 0 0, .slice none 0 0], .int .i64 1]) (by simp [results, Try.results20, go_sem, *]) rfl (and_below ?_ fun hB => ?_)
      · repeat (first | (with_reducible exact V.out.below) | refine Below.setCell ?_ (by simp) _)
      · exact ⟨none, none, 0, 0, rfl, Gr.nil _⟩
    · by_cases hz : 200 < a.length + b.length + l.length
      · have hz1 : (200 : Int) < (a.length : Int) + (b.length : Int) + (l.length : Int) := by omega
        have e0 : inE (a, b) l = 5 := by unfold inE; rw [if_pos ⟨hg, hl⟩, if_pos hz]
        obtain ⟨rfl, rfl⟩ : x = [] ∧ y = [] := by
          have e1 : inV (a, b) l = ([], []) := in_no (by rw [e0]; decide)
          rw [e1] at hx
          injection hx with h1 h2
          exact ⟨h1.symm, h2.symm⟩
        rw [e0]
        clear e0 hx
        clear hz
        go_enter Try.func20, Try.ntmps20
        go_wp2_with fail
        refine (gis_any A B ca cb a b _ (HA.out.below V.out.below) (HB.out.below V.out.below) la lb).mono ?_
        rintro e w1 ⟨rfl, hb⟩
        rw [hg]
        replace V := Lib.hid (V.out.call hb)
        clear hb
        have g0 := V.out.at 0 rfl
        rw [one_size] at g0
        obtain ⟨⟨c0, c1⟩, ⟨f0, f1⟩, hz1⟩ := blk2 g0
        obtain ⟨⟨d0, d1⟩, ⟨k0, k1⟩, hz2⟩ := blk2 (V.out.at 1 rfl)
        clear g0
        go_wp2_with fail
        refine (signs_any _ l _ (HC.out.row.below V.out.below) lm).mono ?_
        rintro e w2 ⟨rfl, hb⟩
        rw [hl]
        replace V := Lib.hid (V.out.call hb)
        clear hb c0 c1 f0 f1 hz1 d0 d1 k0 k1 hz2
        have g0 := V.out.at 0 rfl
        rw [one_size] at g0
        obtain ⟨⟨c0, c1⟩, ⟨f0, f1⟩, hz1⟩ := blk2 g0
        obtain ⟨⟨d0, d1⟩, ⟨k0, k1⟩, hz2⟩ := blk2 (V.out.at 1 rfl)
        clear g0
        go_wp2
        refine bodyPost_ret (v := .tuple #[.agg #[.slice none 0 0, .slice none 0 0], .int .i64 5]) (by simp [results, Try.results20, go_sem, *]) rfl (and_below ?_ fun hB => ?_)
        · repeat (first | (with_reducible exact V.out.below) | refine Below.setCell ?_ (by simp) _)
        · exact ⟨none, none, 0, 0, rfl, Gr.nil _⟩
      · have hzn : ¬ (200 : Int) < (a.length : Int) + (b.length : Int) + (l.length : Int) := by omega
        have hz : a.length + b.length + l.length ≤ 200 := by omega
        obtain ⟨e0, e1⟩ := in_yes (g := (a, b)) hg hl hz
        rw [e1] at hx
        rw [e0]
        clear e0 e1
        injection hx with hx1 hx2
        subst hx2
        have HF := Lib.hid HA.out.full
        have i1 : (0 : Int) ≤ (a.length : Int) := by omega
        have i2 : (a.length : Int) ≤ (ca : Int) := by omega
        have hgl := Lib.hid (And.intro hg hl)
        obtain ⟨i0, hi, hz0, hz10, hz20⟩ := info_parts Try.infoI
        by_cases ha0 : a.length = 0
        · obtain rfl : a = [] := List.eq_nil_of_length_eq_zero ha0
          clear ha0
          by_cases hl0 : l.length = 0
          · obtain rfl : l = [] := List.eq_nil_of_length_eq_zero hl0
            rw [List.append_nil] at hx1
            subst hx1
            clear hl0
            simp only [List.length_nil] at *
            go_enter Try.func20, Try.ntmps20
            go_wp2_with fail
            refine (gis_any A B ca cb [] b _ (HA.out.below V.out.below) (HB.out.below V.out.below) la lb).mono ?_
            rintro e w1 ⟨rfl, hb⟩
            rw [hg]
            replace V := Lib.hid (V.out.call hb)
            clear hb
            have g0 := V.out.at 0 rfl
            rw [one_size] at g0
            obtain ⟨⟨c0, c1⟩, ⟨f0, f1⟩, hz1⟩ := blk2 g0
            obtain ⟨⟨d0, d1⟩, ⟨k0, k1⟩, hz2⟩ := blk2 (V.out.at 1 rfl)
            clear g0
            go_wp2_with fail
            refine (signs_any _ [] _ (HC.out.row.below V.out.below) lm).mono ?_
            rintro e w2 ⟨rfl, hb⟩
            rw [hl]
            replace V := Lib.hid (V.out.call hb)
            clear hb c0 c1 f0 f1 hz1 d0 d1 k0 k1 hz2
            have g0 := V.out.at 0 rfl
            rw [one_size] at g0
            obtain ⟨⟨c0, c1⟩, ⟨f0, f1⟩, hz1⟩ := blk2 g0
            obtain ⟨⟨d0, d1⟩, ⟨k0, k1⟩, hz2⟩ := blk2 (V.out.at 1 rfl)
            clear g0
            go_wp2_with (at_builtin; refine wpList_append_zero rfl _ _ 22 rfl 21 i0 Try.underlying22 hi _ _ _ _ _ (Nat.le_refl _) _ _ rfl rfl rfl rfl ?_)
            go_wp2
            refine bodyPost_ret (v := .tuple #[.agg #[.slice A 0 0, .slice B b.length cb], .int .i64 0]) (by simp [results, Try.results20, go_sem, *]) rfl (and_below ?_ fun hB => ?_)
            · repeat (first | (with_reducible exact V.out.below) | refine Below.setCell ?_ (by simp) _)
            · exact ⟨_, _, _, _, rfl, HF.out.below hB, HB.out.below hB⟩
          · have HX := Lib.hid hx1
            clear hx1
            simp only [List.length_nil] at *
            go_enter Try.func20, Try.ntmps20
            go_wp2_with fail
            refine (gis_any A B ca cb [] b _ (HA.out.below V.out.below) (HB.out.below V.out.below) la lb).mono ?_
            rintro e w1 ⟨rfl, hb⟩
            rw [hg]
            replace V := Lib.hid (V.out.call hb)
            clear hb
            have g0 := V.out.at 0 rfl
            rw [one_size] at g0
            obtain ⟨⟨c0, c1⟩, ⟨f0, f1⟩, hz1⟩ := blk2 g0
            obtain ⟨⟨d0, d1⟩, ⟨k0, k1⟩, hz2⟩ := blk2 (V.out.at 1 rfl)
            clear g0
            go_wp2_with fail
            refine (signs_any _ l _ (HC.out.row.below V.out.below) lm).mono ?_
            rintro e w2 ⟨rfl, hb⟩
            rw [hl]
            replace V := Lib.hid (V.out.call hb)
            clear hb c0 c1 f0 f1 hz1 d0 d1 k0 k1 hz2
            have g0 := V.out.at 0 rfl
            rw [one_size] at g0
            obtain ⟨⟨c0, c1⟩, ⟨f0, f1⟩, hz1⟩ := blk2 g0
            obtain ⟨⟨d0, d1⟩, ⟨k0, k1⟩, hz2⟩ := blk2 (V.out.at 1 rfl)
            clear g0
            go_wp2_with (at_builtin; refine wpList_append_full rfl _ _ 22 rfl 21 i0 (.int .i32 0) 1 4 Try.underlying22 hi hz0 hz10 hz20 rfl (by decide) A 0 (ints .i32 []) rfl (HF.out.rw.below V.out.below) _ l.length (ints .i32 l) rfl (HC.out.rw.below V.out.below) (by omega) (ints_one _ _) ?c3 ?c4 ?_)
            case c3 => unfold maxLen; omega
            case c4 => omega
            intro ng nc w3 hown hcn hb3
            rw [ints_append, HX.out] at hown
            have e9 : l.length = x.length := by rw [← HX.out]; simp
            rw [e9] at hown hcn ⊢
            have HN := Lib.hid (Rr.of_owns hown rfl)
            replace V := Lib.hid (V.out.call hb3)
            clear hown hb3 e9 c0 c1 f0 f1 hz1 d0 d1 k0 k1 hz2
            have g0 := V.out.at 0 rfl
            rw [one_size] at g0
            obtain ⟨⟨c0, c1⟩, ⟨f0, f1⟩, hz1⟩ := blk2 g0
            obtain ⟨⟨d0, d1⟩, ⟨k0, k1⟩, hz2⟩ := blk2 (V.out.at 1 rfl)
            clear g0
            go_wp2
            refine bodyPost_ret (v := .tuple #[.agg #[.slice (some ⟨ng, 0, none⟩) x.length nc, .slice B b.length cb], .int .i64 0]) (by simp [results, Try.results20, go_sem, *]) rfl (and_below ?_ fun hB => ?_)
            · repeat (first | (with_reducible exact V.out.below) | refine Below.setCell ?_ (by simp) _)
            · have g0 := V.out.at 0 rfl
              have g1 := V.out.at 1 rfl
              rw [one_size] at g0
              refine ⟨_, _, _, _, rfl, HN.out.upd (S := fun k => k = w.heap.size ∨ k = w.heap.size + 1) (fun k hk => hk.elim (fun e => TwoS.of g1 e) (fun e => TwoS.of g0 e)) ?_, HB.out.below hB⟩
              exact upd_of (upd_of (upd_of (Upd.refl _ _) _ _ (.inl rfl) _) _ _ (.inr rfl) _) _ _ (.inr rfl) _
        · obtain ⟨ag, ao, rfl⟩ := HA.out.plain (by omega)
          by_cases hl0 : l.length = 0
          · obtain rfl : l = [] := List.eq_nil_of_length_eq_zero hl0
            rw [List.append_nil] at hx1
            subst hx1
            clear hl0
            simp only [List.length_nil] at *
            go_enter Try.func20, Try.ntmps20
            go_wp2_with fail
            refine (gis_any (some ⟨ag, ao, none⟩) B ca cb a b _ (HA.out.below V.out.below) (HB.out.below V.out.below) la lb).mono ?_
            rintro e w1 ⟨rfl, hb⟩
            rw [hg]
            replace V := Lib.hid (V.out.call hb)
            clear hb
            have g0 := V.out.at 0 rfl
            rw [one_size] at g0
            obtain ⟨⟨c0, c1⟩, ⟨f0, f1⟩, hz1⟩ := blk2 g0
            obtain ⟨⟨d0, d1⟩, ⟨k0, k1⟩, hz2⟩ := blk2 (V.out.at 1 rfl)
            clear g0
            go_wp2_with fail
            refine (signs_any _ [] _ (HC.out.row.below V.out.below) lm).mono ?_
            rintro e w2 ⟨rfl, hb⟩
            rw [hl]
            replace V := Lib.hid (V.out.call hb)
            clear hb c0 c1 f0 f1 hz1 d0 d1 k0 k1 hz2
            have g0 := V.out.at 0 rfl
            rw [one_size] at g0
            obtain ⟨⟨c0, c1⟩, ⟨f0, f1⟩, hz1⟩ := blk2 g0
            obtain ⟨⟨d0, d1⟩, ⟨k0, k1⟩, hz2⟩ := blk2 (V.out.at 1 rfl)
            clear g0
            go_wp2_with (at_builtin; refine wpList_append_zero rfl _ _ 22 rfl 21 i0 Try.underlying22 hi _ _ _ _ _ (Nat.le_refl _) _ _ rfl rfl rfl rfl ?_)
            go_wp2
            refine bodyPost_ret (v := .tuple #[.agg #[.slice (some ⟨ag, ao, none⟩) a.length a.length, .slice B b.length cb], .int .i64 0]) (by simp [results, Try.results20, go_sem, *]) rfl (and_below ?_ fun hB => ?_)
            · repeat (first | (with_reducible exact V.out.below) | refine Below.setCell ?_ (by simp) _)
            · exact ⟨_, _, _, _, rfl, HF.out.below hB, HB.out.below hB⟩
          · have HX := Lib.hid hx1
            clear hx1
            go_enter Try.func20, Try.ntmps20
            go_wp2_with fail
            refine (gis_any (some ⟨ag, ao, none⟩) B ca cb a b _ (HA.out.below V.out.below) (HB.out.below V.out.below) la lb).mono ?_
            rintro e w1 ⟨rfl, hb⟩
            rw [hg]
            replace V := Lib.hid (V.out.call hb)
            clear hb
            have g0 := V.out.at 0 rfl
            rw [one_size] at g0
            obtain ⟨⟨c0, c1⟩, ⟨f0, f1⟩, hz1⟩ := blk2 g0
            obtain ⟨⟨d0, d1⟩, ⟨k0, k1⟩, hz2⟩ := blk2 (V.out.at 1 rfl)
            clear g0
            go_wp2_with fail
            refine (signs_any _ l _ (HC.out.row.below V.out.below) lm).mono ?_
            rintro e w2 ⟨rfl, hb⟩
            rw [hl]
            replace V := Lib.hid (V.out.call hb)
            clear hb c0 c1 f0 f1 hz1 d0 d1 k0 k1 hz2
            have g0 := V.out.at 0 rfl
            rw [one_size] at g0
            obtain ⟨⟨c0, c1⟩, ⟨f0, f1⟩, hz1⟩ := blk2 g0
            obtain ⟨⟨d0, d1⟩, ⟨k0, k1⟩, hz2⟩ := blk2 (V.out.at 1 rfl)
            clear g0
            go_wp2_with (at_builtin; refine wpList_append_full rfl _ _ 22 rfl 21 i0 (.int .i32 0) 1 4 Try.underlying22 hi hz0 hz10 hz20 rfl (by decide) (some ⟨ag, ao, none⟩) a.length (ints .i32 a) rfl (HF.out.rw.below V.out.below) _ l.length (ints .i32 l) rfl (HC.out.rw.below V.out.below) (by omega) (ints_one _ _) ?c3 ?c4 ?_)
            case c3 => unfold maxLen; omega
            case c4 => omega
            intro ng nc w3 hown hcn hb3
            rw [ints_append, HX.out] at hown
            have e9 : a.length + l.length = x.length := by rw [← HX.out]; simp
            rw [e9] at hown hcn ⊢
            have HN := Lib.hid (Rr.of_owns hown rfl)
            replace V := Lib.hid (V.out.call hb3)
            clear hown hb3 e9 c0 c1 f0 f1 hz1 d0 d1 k0 k1 hz2
            have g0 := V.out.at 0 rfl
            rw [one_size] at g0
            obtain ⟨⟨c0, c1⟩, ⟨f0, f1⟩, hz1⟩ := blk2 g0
            obtain ⟨⟨d0, d1⟩, ⟨k0, k1⟩, hz2⟩ := blk2 (V.out.at 1 rfl)
            clear g0
            go_wp2
            refine bodyPost_ret (v := .tuple #[.agg #[.slice (some ⟨ng, 0, none⟩) x.length nc, .slice B b.length cb], .int .i64 0]) (by simp [results, Try.results20, go_sem, *]) rfl (and_below ?_ fun hB => ?_)
            · repeat (first | (with_reducible exact V.out.below) | refine Below.setCell ?_ (by simp) _)
            · have g0 := V.out.at 0 rfl
              have g1 := V.out.at 1 rfl
              rw [one_size] at g0
              refine ⟨_, _, _, _, rfl, HN.out.upd (S := fun k => k = w.heap.size ∨ k = w.heap.size + 1) (fun k hk => hk.elim (fun e => TwoS.of g1 e) (fun e => TwoS.of g0 e)) ?_, HB.out.below hB⟩
              exact upd_of (upd_of (upd_of (Upd.refl _ _) _ _ (.inl rfl) _) _ _ (.inr rfl) _) _ _ (.inr rfl) _
end Go.Proofs.Ytogfnhhgbmnbpaa
