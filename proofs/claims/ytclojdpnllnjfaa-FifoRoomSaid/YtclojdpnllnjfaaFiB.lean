/- The program's Pop; stamped bytes, as cells. -/
import Derived.Test.YtclojdpnllnjfaaFiA
set_option linter.unusedVariables false
namespace Go.Proofs.Ytclojdpnllnjfaa
open Go.RowKit L
set_option maxHeartbeats 4000000 in
theorem fpop_any (w : World) (p g room : Nat) (s : Fo) (hi : Fi w p g room s) : Calls Try.prog 8 #[.pointer (some ⟨p, 0, none⟩)] w fun e w' => e = .returned (.tuple #[.agg #[.int .u8 s.ov.1, .int .i64 s.ov.2], .int .i64 s.oe]) ∧ Fi w' p g room s.os ∧ Upd (S2 p g) w w' := by
  obtain ⟨q, last, lost⟩ := s
  obtain ⟨first, cur, hp, hg, hc, hpg, hf, hq, hr, ring⟩ := hi
  dsimp only at hp hq ring
  have hp1 := carryA (.cells #[.int .u8 0, .int .i64 0] 31) hp
  have hg1 := carryA (.cells #[.int .u8 0, .int .i64 0] 31) hg
  have hu1 := (Upd.refl (S2 p g) w).alloc (.cells #[.int .u8 0, .int .i64 0] 31)
  have zp := lt_of_block hp
  have zg := lt_of_block hg
  cases q with
  | nil =>
    have HI := Lib.hid (show Fi w p g room ⟨[], last, lost⟩ from ⟨first, cur, hp, hg, hc, hpg, hf, hq, hr, ring⟩)
    have HP1 := Lib.hid hp1
    clear hp hg hc hq ring hp1 hg1 hu1
    go_enter Try.func8, Try.ntmps8
    go_wp2_with fail
    refine (isempty_any _ p 0 _ _ _ _ HP1.out).mono ?_
    rintro e w1 ⟨rfl, rfl⟩
    rw [decide_eq_true (rfl : (0 : Nat) = 0)]
    go_wp2
    refine bodyPost_ret (v := .tuple #[.agg #[.int .u8 0, .int .i64 0], .int .i64 6]) (by simp [results, Try.results8, go_sem]) rfl ⟨rfl, ?_, (Upd.refl _ _).alloc _⟩
    have hU := (Upd.refl (fun _ => False) w).alloc (.cells #[.int .u8 0, .int .i64 0] 31)
    exact HI.out.keep hU (fun h => h) (fun h => h)
  | cons x q =>
    obtain ⟨b, a⟩ := x
    have hq1 : q.length < room := by simp at hq; omega
    obtain ⟨h0, h1⟩ := ring 0 (b, a) rfl
    simp only [Nat.add_zero, Nat.mod_eq_of_lt hf] at h0 h1
    have e1 : ((((b, a) :: q).length : Nat) : Int) = ((q.length + 1 : Nat) : Int) := rfl
    rw [e1] at hp1
    have HP1 := Lib.hid hp1
    have HG1 := Lib.hid hg1
    have HU1 := Lib.hid hu1
    have HR := Lib.hid (heap_alloc_new w (.cells #[.int .u8 0, .int .i64 0] 31))
    have HRG := Lib.hid ring
    have HC := Lib.hid hc
    have HN := Lib.hid hpg
    have H0 := Lib.hid h0
    have H1 := Lib.hid h1
    have HF := Lib.hid (decide_eq_false (show ¬ (q.length + 1 = 0) by omega))
    clear hp hg hc hq ring hp1 hg1 hu1 hpg h0 h1 e1
    go_enter Try.func8, Try.ntmps8
    go_wp2_with fail
    refine (isempty_any _ p (q.length + 1) _ _ _ _ HP1.out).mono ?_
    rintro e w1 ⟨rfl, rfl⟩
    rw [HF.out]
    go_wp2_with fail
    refine (take_any _ p g room first q.length b a _ _ cur HP1.out HG1.out HC.out HN.out hf hq1 hr H0.out H1.out).mono ?_
    rintro e w1 ⟨rfl, hp2, hg2, hu2⟩
    have HP2 := Lib.hid hp2
    have HG2 := Lib.hid hg2
    have HU2 := Lib.hid (HU1.out.trans hu2)
    have hr2 := hu2.keep HR.out (by rintro (h | h) <;> omega)
    clear hp2 hg2 hu2
    obtain ⟨⟨r0, r1⟩, ⟨s0, s1⟩, z2⟩ := blk2 hr2
    clear hr2
    go_wp2
    refine bodyPost_ret (v := .tuple #[.agg #[.int .u8 b, .int .i64 a], .int .i64 0]) (by simp [results, Try.results8, go_sem, *]) rfl ⟨rfl, ⟨_, _, ?_, ?_, by simp [cleared, HC.out], HN.out, Nat.mod_lt _ (by omega), by show q.length ≤ room; omega, hr, HRG.out.take HC.out hf hq1⟩, ?_⟩
    · exact setCell_ne (setCell_ne HP2.out (by omega)) (by omega)
    · exact setCell_ne (setCell_ne HG2.out (by omega)) (by omega)
    · exact (HU2.out.setCell (.inr (Nat.le_refl _)) _).setCell (.inr (Nat.le_refl _)) _
/-- Stamped bytes, as cells. -/
def flS (l : List (Int × Int)) : List Value := l.flatMap fun a => [.int .u8 a.1, .int .i64 a.2]
theorem flS_len (l : List (Int × Int)) : (flS l).length = l.length * 2 := by
  induction l with
  | nil => rfl
  | cons a l ih => have e : flS (a :: l) = .int .u8 a.1 :: .int .i64 a.2 :: flS l := rfl; rw [e]; simp [ih]; omega
theorem flS_append (l m : List (Int × Int)) : flS (l ++ m) = flS l ++ flS m := by simp [flS]
theorem flS_one (l : List (Int × Int)) : ∀ u ∈ flS l, u.oneCell' = true := by
  intro u hu
  simp only [flS, List.mem_flatMap] at hu
  obtain ⟨a, _, hu⟩ := hu
  simp at hu
  rcases hu with rfl | rfl <;> rfl
theorem flS_at (l : List (Int × Int)) (i : Nat) (x : Int × Int) (h : l[i]? = some x) : (flS l)[i * 2]? = some (.int .u8 x.1) ∧ (flS l)[i * 2 + 1]? = some (.int .i64 x.2) := by
  induction l generalizing i with
  | nil => simp at h
  | cons a l ih =>
    have e : flS (a :: l) = .int .u8 a.1 :: .int .i64 a.2 :: flS l := rfl
    cases i with
    | zero => simp at h; subst h; rw [e]; exact ⟨rfl, rfl⟩
    | succ i =>
      obtain ⟨h1, h2⟩ := ih i (by simpa using h)
      rw [e, show (i + 1) * 2 = i * 2 + 1 + 1 by omega]
      exact ⟨by simpa using h1, by simpa using h2⟩
end Go.Proofs.Ytclojdpnllnjfaa
