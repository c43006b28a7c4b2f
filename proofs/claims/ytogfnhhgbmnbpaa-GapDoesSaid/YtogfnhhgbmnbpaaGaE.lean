/- Lines with a point: Of, Go, Insert and Cut of the program. -/
import Derived.Test.YtogfnhhgbmnbpaaGaD
import Derived.Test.YtogfnhhgbmnbpaaAnT
import Derived.BigQuiet
import Derived.Deep.QuietTactic
set_option linter.unusedVariables false
namespace Go.Proofs.Ytogfnhhgbmnbpaa
open Go.RowKit Go.PlainAid Gl L Gp
/-- A line in memory: the signs ahead of its point, and behind it. -/
def Gr (w : World) (A B : Option Addr) (ca cb : Nat) (a b : List Int) : Prop := Rr w (.slice A a.length ca) a ∧ Rr w (.slice B b.length cb) b
theorem Gr.below {w w' : World} {A B : Option Addr} {ca cb : Nat} {a b : List Int} (h : Gr w A B ca cb a b) (hb : Below w.heap.size w w') : Gr w' A B ca cb a b := ⟨h.1.below hb, h.2.below hb⟩
theorem Stb.gr (A B : Option Addr) (ca cb : Nat) (a b : List Int) : Stb fun w => Gr w A B ca cb a b := fun w w' h hb => h.below hb
theorem Gr.upd {w w' : World} {S : Nat → Prop} {A B : Option Addr} {ca cb : Nat} {a b : List Int} (h : Gr w A B ca cb a b) (hs : ∀ k, S k → Rr.TwoS w k) (hu : Upd S w w') : Gr w' A B ca cb a b := ⟨h.1.upd hs hu, h.2.upd hs hu⟩
theorem Gr.nil (w : World) : Gr w none none 0 0 [] [] := ⟨Rr.nil w, Rr.nil w⟩
theorem upd_two (w : World) (b : Nat) (u0 u1 : Value) : Upd (· = b) w ((w.setCell ⟨b, 0, none⟩ u0).setCell ⟨b, 1, none⟩ u1) := by
  have h0 : Upd (· = b) w (w.setCell ⟨b, 0, none⟩ u0) := Upd.setCell (S := fun x => x = b) (p := ⟨b, 0, none⟩) (Upd.refl _ _) (Or.inl rfl) _
  exact Upd.setCell (S := fun x => x = b) (p := ⟨b, 1, none⟩) h0 (Or.inl rfl) _
/-- A line and an error are returned. -/
def OutE (w : World) (e : Ending) (w' : World) (x y : List Int) (k : Int) : Prop :=
  (∃ U V c d, e = .returned (.tuple #[.agg #[.slice U x.length c, .slice V y.length d], .int .i64 k]) ∧ Gr w' U V c d x y) ∧ Below w.heap.size w w'
/-- A line is returned. -/
def OutG (w : World) (e : Ending) (w' : World) (x y : List Int) : Prop :=
  (∃ U V c d, e = .returned (.agg #[.slice U x.length c, .slice V y.length d]) ∧ Gr w' U V c d x y) ∧ Below w.heap.size w w'
/-- A line and a row are returned. -/
def OutR (w : World) (e : Ending) (w' : World) (x y z : List Int) : Prop :=
  (∃ U V c d Z k, e = .returned (.tuple #[.agg #[.slice U x.length c, .slice V y.length d], .slice Z z.length k]) ∧ Gr w' U V c d x y ∧ Rr w' (.slice Z z.length k) z) ∧ Below w.heap.size w w'

theorem gof_any (A : Option Addr) (ca : Nat) (l : List Int) (n : Int) (x y : List Int) (w : World) (hr : Rr w (.slice A l.length ca) l) (ll : l.length ≤ 1000) (hx : ofV l n = (x, y)) :
    Calls Try.prog 9 #[.slice A l.length ca, .int .i64 n] w fun e w' => OutE w e w' x y (ofE l n) := by
  have V := Lib.hid ((La.start w).box #[.slice none 0 0, .slice none 0 0] 24)
  have HA := Lib.hid hr
  have lm : l.length ≤ maxLen := by unfold maxLen; omega
  clear hr
  by_cases h0 : n < 0
  · skip
    have e0 : ofE l n = 1 := if_neg (by omega)
    obtain ⟨rfl, rfl⟩ : x = [] ∧ y = [] := by
      have e1 : ofV l n = ([], []) := if_neg (by rw [e0]; decide)
      rw [e1] at hx
      injection hx with h1 h2
      exact ⟨h1.symm, h2.symm⟩
    rw [e0]
    clear e0 hx
    go_enter Try.func9, Try.ntmps9
    go_wp2
    refine bodyPost_ret (v := .tuple #[.agg #[.slice none 0 0, .slice none 0 0], .int .i64 1]) (by simp [results, Try.results9, go_sem, *]) rfl (and_below ?_ fun hB => ?_)
    · repeat (first | (with_reducible exact V.out.below) | refine Below.setCell ?_ (by simp) _)
    · exact ⟨none, none, 0, 0, rfl, Gr.nil _⟩
  · by_cases h1 : (l.length : Int) < n
    · skip
      have e0 : ofE l n = 1 := if_neg (by omega)
      obtain ⟨rfl, rfl⟩ : x = [] ∧ y = [] := by
        have e1 : ofV l n = ([], []) := if_neg (by rw [e0]; decide)
        rw [e1] at hx
        injection hx with h1 h2
        exact ⟨h1.symm, h2.symm⟩
      rw [e0]
      clear e0 hx
      go_enter Try.func9, Try.ntmps9
      go_wp2
      refine bodyPost_ret (v := .tuple #[.agg #[.slice none 0 0, .slice none 0 0], .int .i64 1]) (by simp [results, Try.results9, go_sem, *]) rfl (and_below ?_ fun hB => ?_)
      · repeat (first | (with_reducible exact V.out.below) | refine Below.setCell ?_ (by simp) _)
      · exact ⟨none, none, 0, 0, rfl, Gr.nil _⟩
    · cases ha : al l
      · skip
        have e0 : ofE l n = 1 := if_neg (by rw [ha]; simp)
        obtain ⟨rfl, rfl⟩ : x = [] ∧ y = [] := by
          have e1 : ofV l n = ([], []) := if_neg (by rw [e0]; decide)
          rw [e1] at hx
          injection hx with h1 h2
          exact ⟨h1.symm, h2.symm⟩
        rw [e0]
        clear e0 hx
        go_enter Try.func9, Try.ntmps9
        go_wp2_with fail
        refine (signs_any _ l _ (HA.out.row.below V.out.below) lm).mono ?_
        rintro e w1 ⟨rfl, hb⟩
        rw [ha]
        replace V := Lib.hid (V.out.call hb)
        clear hb
        obtain ⟨⟨c0, c1⟩, ⟨f0, f1⟩, hz1⟩ := blk2 (V.out.at 0 rfl)
        go_wp2
        refine bodyPost_ret (v := .tuple #[.agg #[.slice none 0 0, .slice none 0 0], .int .i64 1]) (by simp [results, Try.results9, go_sem, *]) rfl (and_below ?_ fun hB => ?_)
        · repeat (first | (with_reducible exact V.out.below) | refine Below.setCell ?_ (by simp) _)
        · exact ⟨none, none, 0, 0, rfl, Gr.nil _⟩
      · by_cases h2 : 200 < l.length
        · have h3 : (200 : Int) < (l.length : Int) := by omega
          have e0 : ofE l n = 5 := by unfold ofE; rw [if_pos ⟨ha, by omega, by omega⟩, if_pos h2]
          obtain ⟨rfl, rfl⟩ : x = [] ∧ y = [] := by
            have e1 : ofV l n = ([], []) := if_neg (by rw [e0]; decide)
            rw [e1] at hx
            injection hx with h1 h2
            exact ⟨h1.symm, h2.symm⟩
          rw [e0]
          clear e0 hx
          go_enter Try.func9, Try.ntmps9
          go_wp2_with fail
          refine (signs_any _ l _ (HA.out.row.below V.out.below) lm).mono ?_
          rintro e w1 ⟨rfl, hb⟩
          rw [ha]
          replace V := Lib.hid (V.out.call hb)
          clear hb
          obtain ⟨⟨c0, c1⟩, ⟨f0, f1⟩, hz1⟩ := blk2 (V.out.at 0 rfl)
          go_wp2
          refine bodyPost_ret (v := .tuple #[.agg #[.slice none 0 0, .slice none 0 0], .int .i64 5]) (by simp [results, Try.results9, go_sem, *]) rfl (and_below ?_ fun hB => ?_)
          · repeat (first | (with_reducible exact V.out.below) | refine Below.setCell ?_ (by simp) _)
          · exact ⟨none, none, 0, 0, rfl, Gr.nil _⟩
        · have h3 : ¬ (200 : Int) < (l.length : Int) := by omega
          obtain ⟨m, rfl⟩ := Int.eq_ofNat_of_zero_le (Int.not_lt.1 h0)
          have e0 : ofE l (m : Int) = 0 := by unfold ofE; rw [if_pos ⟨ha, by omega, by omega⟩, if_neg h2]
          have e1 : ofV l (m : Int) = (l.take m, l.drop m) := if_pos e0
          rw [e1] at hx
          injection hx with hx1 hx2
          have HX := Lib.hid (And.intro hx1 hx2)
          rw [e0]
          have hm : m ≤ l.length := by omega
          clear e0 e1 hx1 hx2
          go_enter Try.func9, Try.ntmps9
          go_wp2_with fail
          refine (signs_any _ l _ (HA.out.row.below V.out.below) lm).mono ?_
          rintro e w1 ⟨rfl, hb⟩
          rw [ha]
          replace V := Lib.hid (V.out.call hb)
          clear hb
          obtain ⟨⟨c0, c1⟩, ⟨f0, f1⟩, hz1⟩ := blk2 (V.out.at 0 rfl)
          go_wp2_with fail
          refine (joined_any A none ca 0 l [] _ (HA.out.below V.out.below) (Rr.nil _) ll (by simp) l (by simp)).mono ?_
          rintro e w2 ⟨⟨U, c, rfl, hr⟩, hb⟩
          replace V := Lib.hid (V.out.call hb)
          have HR := Lib.hid hr
          clear hb hr c0 c1 f0 f1 hz1
          go_wp2_with fail
          have HP := parted_any U c l m _ HR.out ll hm
          rw [HX.out.1, HX.out.2] at HP
          refine HP.mono ?_
          clear HP
          rintro e w3 ⟨⟨U1, U2, k1, k2, rfl, hr⟩, hb⟩
          replace V := Lib.hid (V.out.call hb)
          have HR2 := Lib.hid hr
          clear hb hr HR
          obtain ⟨⟨c0, c1⟩, ⟨f0, f1⟩, hz1⟩ := blk2 (V.out.at 0 rfl)
          go_wp2
          refine bodyPost_ret (v := .tuple #[.agg #[.slice U1 x.length k1, .slice U2 y.length k2], .int .i64 0]) (by simp [results, Try.results9, go_sem, *]) rfl (and_below ?_ fun hB => ?_)
          · repeat (first | (with_reducible exact V.out.below) | refine Below.setCell ?_ (by simp) _)
          · exact ⟨U1, U2, k1, k2, rfl, Gr.upd (S := (· = w.heap.size)) HR2.out (fun k hk => by cases hk; exact ⟨_, _, _, _, _, _, _, V.out.at 0 rfl⟩) (upd_two _ _ _ _)⟩
end Go.Proofs.Ytogfnhhgbmnbpaa
