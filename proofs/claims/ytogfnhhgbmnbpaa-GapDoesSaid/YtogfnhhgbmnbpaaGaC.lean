/- Lines with a point: Is (the program's, and the reference's), Same, what is too much. -/
import Derived.Test.YtogfnhhgbmnbpaaGaB
set_option linter.unusedVariables false
namespace Go.Proofs.Ytogfnhhgbmnbpaa
open Go.RowKit Go.PlainAid Gl L Gp
theorem Gp.rt_no {a b : List Int} (h : ¬ a.length + b.length ≤ 200) : rt (a, b) = false := by
  unfold rt; rw [decide_eq_false h]; rfl
theorem Gp.rt_al {a b : List Int} (h : a.length + b.length ≤ 200) : rt (a, b) = (al a && al b) := by
  unfold rt; rw [decide_eq_true h]; rfl
theorem gis_any (A B : Option Addr) (ca cb : Nat) (a b : List Int) (w : World) (ha : Rr w (.slice A a.length ca) a) (hb : Rr w (.slice B b.length cb) b) (la : a.length ≤ 1000) (lb : b.length ≤ 1000) :
    Calls Try.prog 13 #[.agg #[.slice A a.length ca, .slice B b.length cb]] w fun e w' => e = .returned (.bool (rt (a, b))) ∧ Below w.heap.size w w' := by
  have V := Lib.hid ((La.start w).box #[.slice A a.length ca, .slice B b.length cb] 24)
  have HA := Lib.hid ha.row
  have HB := Lib.hid hb.row
  have am : a.length ≤ maxLen := by unfold maxLen; omega
  have bm : b.length ≤ maxLen := by unfold maxLen; omega
  clear ha hb
  by_cases hz : a.length + b.length ≤ 200
  · have HR := Lib.hid (rt_al hz)
    cases e1 : al a
    · have h2 : ((a.length : Int) + (b.length : Int) ≤ 200) := by omega
      clear hz
      go_enter Try.func13, Try.ntmps13
      go_wp2_with fail
      refine (signs_any _ a _ (HA.out.below V.out.below) am).mono ?_
      rintro e w1 ⟨rfl, hb⟩
      rw [e1]
      replace V := Lib.hid (V.out.call hb)
      clear hb
      go_wp2
      go_ret
      exact ⟨ret_bool (by rw [HR.out, e1]; rfl), V.out.below⟩
    · have h2 : ((a.length : Int) + (b.length : Int) ≤ 200) := by omega
      clear hz
      go_enter Try.func13, Try.ntmps13
      go_wp2_with fail
      refine (signs_any _ a _ (HA.out.below V.out.below) am).mono ?_
      rintro e w1 ⟨rfl, hb⟩
      rw [e1]
      replace V := Lib.hid (V.out.call hb)
      clear hb
      obtain ⟨⟨c0, c1⟩, -, hz1⟩ := blk2 (V.out.at 0 rfl)
      go_wp2_with fail
      refine (signs_any _ b _ (HB.out.below V.out.below) bm).mono ?_
      rintro e w2 ⟨rfl, hb⟩
      replace V := Lib.hid (V.out.call hb)
      clear hb
      go_wp2
      go_ret
      exact ⟨ret_bool (by rw [HR.out, e1]; simp), V.out.below⟩
  · have HR := Lib.hid (rt_no hz)
    have h2 : ¬ ((a.length : Int) + (b.length : Int) ≤ 200) := by omega
    clear hz
    go_enter Try.func13, Try.ntmps13
    go_wp2
    go_ret
    exact ⟨ret_bool HR.out.symm, V.out.below⟩
theorem rgis_any (A B : Option Addr) (ca cb : Nat) (a b : List Int) (w : World) (ha : Rr w (.slice A a.length ca) a) (hb : Rr w (.slice B b.length cb) b) (la : a.length ≤ 1000) (lb : b.length ≤ 1000) :
    Calls Try.prog 14 #[.agg #[.slice A a.length ca, .slice B b.length cb]] w fun e w' => e = .returned (.bool (rt (a, b))) ∧ Below w.heap.size w w' := by
  have V := Lib.hid ((La.start w).box #[.slice A a.length ca, .slice B b.length cb] 24)
  have HA := Lib.hid ha.row
  have HB := Lib.hid hb.row
  have am : a.length ≤ maxLen := by unfold maxLen; omega
  have bm : b.length ≤ maxLen := by unfold maxLen; omega
  clear ha hb
  by_cases hz : a.length + b.length ≤ 200
  · have HR := Lib.hid (rt_al hz)
    cases e1 : al a
    · have h1 : a.length ≤ 200 := by omega
      have h2 : ((b.length : Int) ≤ 200 - (a.length : Int)) := by omega
      clear hz
      go_enter Try.func14, Try.ntmps14
      go_wp2_with fail
      refine (rall_any _ a _ (HA.out.below V.out.below) am).mono ?_
      rintro e w1 ⟨rfl, hb⟩
      rw [e1]
      replace V := Lib.hid (V.out.call hb)
      clear hb
      go_wp2
      go_ret
      exact ⟨ret_bool (by rw [HR.out, e1]; rfl), V.out.below⟩
    · have h1 : a.length ≤ 200 := by omega
      have h2 : ((b.length : Int) ≤ 200 - (a.length : Int)) := by omega
      clear hz
      go_enter Try.func14, Try.ntmps14
      go_wp2_with fail
      refine (rall_any _ a _ (HA.out.below V.out.below) am).mono ?_
      rintro e w1 ⟨rfl, hb⟩
      rw [e1]
      replace V := Lib.hid (V.out.call hb)
      clear hb
      obtain ⟨⟨c0, c1⟩, -, hz1⟩ := blk2 (V.out.at 0 rfl)
      go_wp2_with fail
      refine (rall_any _ b _ (HB.out.below V.out.below) bm).mono ?_
      rintro e w2 ⟨rfl, hb⟩
      replace V := Lib.hid (V.out.call hb)
      clear hb
      go_wp2
      go_ret
      exact ⟨ret_bool (by rw [HR.out, e1]; simp), V.out.below⟩
  · have HR := Lib.hid (rt_no hz)
    by_cases hz1 : a.length ≤ 200
    · have h2 : ¬ ((b.length : Int) ≤ 200 - (a.length : Int)) := by omega
      clear hz
      go_enter Try.func14, Try.ntmps14
      go_wp2
      go_ret
      exact ⟨ret_bool HR.out.symm, V.out.below⟩
    · clear hz
      go_enter Try.func14, Try.ntmps14
      go_wp2
      go_ret
      exact ⟨ret_bool HR.out.symm, V.out.below⟩
theorem gsame_any (A B C D : Option Addr) (ca cb cc cd : Nat) (a b c d : List Int) (w : World) (ha : Rr w (.slice A a.length ca) a) (hb : Rr w (.slice B b.length cb) b) (hc : Rr w (.slice C c.length cc) c) (hd : Rr w (.slice D d.length cd) d)
    (la : a.length ≤ 1000) (lb : b.length ≤ 1000) (lc : c.length ≤ 1000) (ld : d.length ≤ 1000) :
    Calls Try.prog 12 #[.agg #[.slice A a.length ca, .slice B b.length cb], .agg #[.slice C c.length cc, .slice D d.length cd]] w fun e w' => e = .returned (.bool (decide ((a, b) = (c, d)))) ∧ Below w.heap.size w w' := by
  have V := Lib.hid (((La.start w).box #[.slice A a.length ca, .slice B b.length cb] 24).box #[.slice C c.length cc, .slice D d.length cd] 24)
  have HA := Lib.hid ha.row
  have HB := Lib.hid hb.row
  have HC := Lib.hid hc.row
  have HD := Lib.hid hd.row
  clear ha hb hc hd
  by_cases he : a = c
  · have e1 : decide (a = c) = true := decide_eq_true he
    have HE := Lib.hid he
    clear he
    go_enter Try.func12, Try.ntmps12
    go_wp2_with fail
    refine (same_any _ _ a c _ (HA.out.below V.out.below) (HC.out.below V.out.below) (by omega) (by omega)).mono ?_
    rintro e w1 ⟨rfl, hb⟩
    rw [e1]
    replace V := Lib.hid (V.out.call hb)
    clear hb
    have g0 := V.out.at 0 rfl
    rw [one_size] at g0
    obtain ⟨⟨c0, c1⟩, -, hz1⟩ := blk2 g0
    obtain ⟨⟨d0, d1⟩, -, hz2⟩ := blk2 (V.out.at 1 rfl)
    go_wp2_with fail
    refine (same_any _ _ b d _ (HB.out.below V.out.below) (HD.out.below V.out.below) (by omega) (by omega)).mono ?_
    rintro e w2 ⟨rfl, hb⟩
    replace V := Lib.hid (V.out.call hb)
    clear hb
    go_wp2
    go_ret
    refine ⟨ret_bool ?_, V.out.below⟩
    have hac := HE.out
    subst hac
    simp
  · have e1 : decide (a = c) = false := decide_eq_false he
    have HE := Lib.hid he
    clear he
    go_enter Try.func12, Try.ntmps12
    go_wp2_with fail
    refine (same_any _ _ a c _ (HA.out.below V.out.below) (HC.out.below V.out.below) (by omega) (by omega)).mono ?_
    rintro e w1 ⟨rfl, hb⟩
    rw [e1]
    replace V := Lib.hid (V.out.call hb)
    clear hb
    go_wp2
    go_ret
    refine ⟨ret_bool ?_, V.out.below⟩
    symm
    rw [decide_eq_false_iff_not]
    intro h
    injection h with h1 h2
    exact HE.out h1
theorem big_any (A B C : Option Addr) (na nb nc ca cb cc : Nat) (w : World) (la : na ≤ maxLen) (lb : nb ≤ maxLen) (lc : nc ≤ maxLen) :
    Calls Try.prog 8 #[.agg #[.slice A na ca, .slice B nb cb], .slice C nc cc] w fun e w' => e = .returned (.bool (!decide (na ≤ 1000 ∧ nb ≤ 1000 ∧ nc ≤ 1000))) ∧ Below w.heap.size w w' := by
  have hb := (La.start w).box #[.slice A na ca, .slice B nb cb] 24
  have V := Lib.hid hb
  clear hb
  unfold maxLen at la lb lc
  by_cases h1 : na ≤ 1000
  · by_cases h2 : nb ≤ 1000
    · by_cases h3 : nc ≤ 1000
      · have e : (!decide (na ≤ 1000 ∧ nb ≤ 1000 ∧ nc ≤ 1000)) = false := by simp; omega
        rw [e]
        clear e
        have k1 : decide ((1000 : Int) < (nc : Int)) = false := by simp; omega
        have k2 : decide (1000 < nc) = false := by simp; omega
        go_enter Try.func8, Try.ntmps8
        go_wp2
        go_ret
        refine ⟨?_, V.out.below⟩
        simp
        omega
      · have e : (!decide (na ≤ 1000 ∧ nb ≤ 1000 ∧ nc ≤ 1000)) = true := by simp; omega
        rw [e]
        clear e
        have k1 : decide ((1000 : Int) < (nc : Int)) = true := by simp; omega
        have k2 : decide (1000 < nc) = true := by simp; omega
        go_enter Try.func8, Try.ntmps8
        go_wp2
        go_ret
        exact ⟨rfl, V.out.below⟩
    · have e : (!decide (na ≤ 1000 ∧ nb ≤ 1000 ∧ nc ≤ 1000)) = true := by simp; omega
      rw [e]
      clear e
      have k1 : decide ((1000 : Int) < (nb : Int)) = true := by simp; omega
      have k2 : decide (1000 < nb) = true := by simp; omega
      go_enter Try.func8, Try.ntmps8
      go_wp2
      go_ret
      exact ⟨rfl, V.out.below⟩
  · have e : (!decide (na ≤ 1000 ∧ nb ≤ 1000 ∧ nc ≤ 1000)) = true := by simp; omega
    rw [e]
    clear e
    have k1 : decide ((1000 : Int) < (na : Int)) = true := by simp; omega
    have k2 : decide (1000 < na) = true := by simp; omega
    go_enter Try.func8, Try.ntmps8
    go_wp2
    go_ret
    exact ⟨rfl, V.out.below⟩
end Go.Proofs.Ytogfnhhgbmnbpaa
