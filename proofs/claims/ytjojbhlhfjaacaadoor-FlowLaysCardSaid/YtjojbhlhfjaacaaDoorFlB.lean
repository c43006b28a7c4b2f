/- The contracts of flow Next, and of the reference step and Next. -/
import Derived.Test.YtjojbhlhfjaacaaDoorFlA
set_option linter.unusedVariables false
namespace Go.Proofs.YtjojbhlhfjaacaaDoor
open Go.RowKit Gl L Wd Fl
namespace Fl
def p1 (a b r : Int) : Int := if ck a b = 0 then nx a.toNat b.toNat r else 0
def p2 (a b r : Int) : Int := if ck a b = 0 then (nx a.toNat b.toNat r + (cl r).length : Nat) else 0
theorem ck_ok {a b : Int} (h : ck a b = 0) : ∃ w p : Nat, a = w ∧ b = p ∧ 2 ≤ w ∧ w ≤ 80 ∧ p ≤ 9999 := by
  unfold ck at h
  split at h
  · cases h
  split at h
  · cases h
  exact ⟨a.toNat, b.toNat, by omega, by omega, by omega, by omega, by omega⟩
theorem ck_or (a b : Int) : ck a b = 0 ∨ ck a b = 1 ∨ ck a b = 4 := by
  unfold ck; split
  · right; right; rfl
  split
  · right; left; rfl
  · left; rfl
end Fl
theorem alloc_keep {w : World} {b : Nat} {o : Obj} (h : w.heap[b]? = some o) (x : Obj) : (w.alloc x).heap[b]? = some o :=
  (((Below.refl w.heap.size w).alloc (Nat.le_refl _) x).block b (lt_of_block h)).trans h
theorem alloc_next (w : World) (x y : Obj) : ((w.alloc x).alloc y).heap[w.heap.size + 1]? = some y := by
  have h := heap_alloc_new (w.alloc x) y
  have e : (w.alloc x).heap.size = w.heap.size + 1 := by simp
  rw [e] at h
  exact h
set_option maxHeartbeats 1000000 in
theorem next_any (a b r : Int) (w : World) (S : Spans w 1) : Calls Tryd.prog 9 #[.int .i64 a, .int .i64 b, .int .i32 r] w fun e w' => e = .returned (.tuple #[.int .i64 (p1 a b r), .int .i64 (p2 a b r), .int .i64 (ck a b)]) ∧ Below w.heap.size w w' := by
  unfold p1 p2
  have HC := Lib.hid (check_any a b)
  rcases ck_or a b with h | h | h
  · obtain ⟨m, p, rfl, rfl, h1, h2, h3⟩ := ck_ok h
    rw [if_pos h, if_pos h, h]
    have HK := Lib.hid h
    clear h
    simp only [Int.toNat_natCast]
    go_enter Tryd.func9, Tryd.ntmps9
    go_wp2_with fail
    refine (HC.out _).mono ?_
    rintro e w1 ⟨rfl, rfl⟩
    rw [HK.out]
    go_wp2_with fail
    refine (laying_any _ _ _).mono ?_
    rintro e w1 ⟨rfl, rfl⟩
    have b1 : Below w.heap.size w (w.alloc (.cells #[.int .i64 m] 3)) := (Below.refl _ _).alloc (Nat.le_refl _) _
    have hb := b1.alloc (by simp) (.cells #[.int .i64 p] 3)
    have HB := Lib.hid hb
    have HA1 : ((w.alloc (.cells #[.int .i64 m] 3)).alloc (.cells #[.int .i64 p] 3)).heap[w.heap.size]? = some (.cells #[.int .i64 m] 3 (0, 0)) := by
      exact alloc_keep (heap_alloc_new w _) _
    have HA2 : ((w.alloc (.cells #[.int .i64 m] 3)).alloc (.cells #[.int .i64 p] 3)).heap[w.heap.size + 1]? = some (.cells #[.int .i64 p] 3 (0, 0)) := by
      exact alloc_next w _ _
    have HX := Lib.hid (lays_any r w.heap.size (w.heap.size + 1) m p _ (S.below hb) h1 h2 (by omega) HA1 HA2)
    clear HA1 HA2 hb b1
    go_wp2_with fail
    refine HX.out.mono ?_
    rintro e w1 ⟨rfl, hh⟩
    have hb := HB.out.trans (hh.below (B := w.heap.size) (by omega) HB.out.size)
    go_wp2
    go_ret3
    exact ⟨rfl, hb⟩
  all_goals
    rw [if_neg (by omega), if_neg (by omega), h]
    have HK := Lib.hid h
    clear h
    go_enter Tryd.func9, Tryd.ntmps9
    go_wp2_with fail
    refine (HC.out _).mono ?_
    rintro e w1 ⟨rfl, rfl⟩
    rw [HK.out]
    go_wp2
    go_ret3
    exact ⟨rfl, Below.refl _ _⟩
theorem step_any (w p : Nat) (r : Int) (W : World) (hw : 2 ≤ w) (hw2 : w ≤ 80) (hp : p ≤ 1000000) : Calls Tryd.prog 23 #[.int .i64 w, .int .i64 p, .int .i32 r] W fun e w' => e = .returned (.tuple #[.int .i64 (nx w p r : Nat), .int .i64 (nx w p r + (cl r).length : Nat)]) ∧ Below W.heap.size W w' := by
  have hm := Nat.mod_lt p (show 0 < w by omega)
  have hq := Nat.div_add_mod p w
  have hcl := cl_len r
  have hwd : wd r = (cl r).length := rfl
  have HN := Lib.hid (show nx w p r = if w < p % w + (cl r).length then (p / w + 1) * w else p from rfl)
  generalize hk : (cl r).length = n at *
  have hme : ((p % w : Nat) : Int) = (p : Int) % (w : Int) := rfl
  have hdv : ((p / w : Nat) : Int) = (p : Int) / (w : Int) := rfl
  by_cases hgt : w < p % w + n
  · rw [if_pos hgt] at HN
    have d1 : decide ((w : Int) < (p : Int) % (w : Int) + (n : Int)) = true := by simp; omega
    have hmul : (p / w + 1) * w = p + (w - p % w) := by rw [Nat.add_mul, Nat.mul_comm (p / w) w]; omega
    have hmi : ((p : Int) / (w : Int) + 1) * (w : Int) = (p : Int) + ((w : Int) - (p : Int) % (w : Int)) := by
      have : (((p / w + 1) * w : Nat) : Int) = ((p + (w - p % w) : Nat) : Int) := by rw [hmul]
      have h3 : ((p / w + 1 : Nat) : Int) = (p : Int) / (w : Int) + 1 := rfl
      rw [Int.natCast_mul, h3] at this
      omega
    have hd0 : (0 : Int) ≤ (p : Int) / (w : Int) := by rw [← hdv]; exact Int.natCast_nonneg _
    have hd1 : (p : Int) / (w : Int) ≤ (p : Int) := by have := Nat.div_le_self p w; rw [← hdv]; omega
    go_enter Tryd.func23, Tryd.ntmps23
    go_wp2_with fail
    refine (rwidth_any _ _).mono ?_
    rintro e w1 ⟨rfl, hw1⟩
    rw [hwd]
    go_wp2
    go_ret2
    rw [HN.out]
    exact ⟨ret_2 (v_int (by omega)) (v_int (by omega)), hw1⟩
  · rw [if_neg hgt] at HN
    have d1 : decide ((w : Int) < (p : Int) % (w : Int) + (n : Int)) = false := by simp; omega
    go_enter Tryd.func23, Tryd.ntmps23
    go_wp2_with fail
    refine (rwidth_any _ _).mono ?_
    rintro e w1 ⟨rfl, hw1⟩
    rw [hwd]
    go_wp2
    go_ret2
    rw [HN.out]
    exact ⟨ret_2 rfl (v_int (by omega)), hw1⟩
theorem rnext_any (a b r : Int) (w : World) : Calls Tryd.prog 10 #[.int .i64 a, .int .i64 b, .int .i32 r] w fun e w' => e = .returned (.tuple #[.int .i64 (p1 a b r), .int .i64 (p2 a b r), .int .i64 (ck a b)]) ∧ Below w.heap.size w w' := by
  unfold p1 p2
  rcases (show a < 2 ∨ 80 < a ∨ 2 ≤ a ∧ a ≤ 80 ∧ b < 0 ∨ 2 ≤ a ∧ a ≤ 80 ∧ 9999 < b ∨ 2 ≤ a ∧ a ≤ 80 ∧ 0 ≤ b ∧ b ≤ 9999 by omega) with h | h | h | h | h
  · have e : ck a b = 4 := by unfold ck; rw [if_pos (by omega)]
    rw [e, if_neg (by decide), if_neg (by decide)]
    go_enter Tryd.func10, Tryd.ntmps10
    go_wp2
    go_ret3
    exact ⟨rfl, Below.refl _ _⟩
  · have e : ck a b = 4 := by unfold ck; rw [if_pos (by omega)]
    rw [e, if_neg (by decide), if_neg (by decide)]
    have h2 : 2 ≤ a := by omega
    go_enter Tryd.func10, Tryd.ntmps10
    go_wp2
    go_ret3
    exact ⟨rfl, Below.refl _ _⟩
  · have e : ck a b = 1 := by unfold ck; rw [if_neg (by omega), if_pos (by omega)]
    rw [e, if_neg (by decide), if_neg (by decide)]
    obtain ⟨h1, h2, h3⟩ := h
    have d1 : decide (a < 2) = false := by simp; omega
    have d2 : decide (80 < a) = false := by simp; omega
    go_enter Tryd.func10, Tryd.ntmps10
    go_wp2
    go_ret3
    exact ⟨rfl, Below.refl _ _⟩
  · have e : ck a b = 1 := by unfold ck; rw [if_neg (by omega), if_pos (by omega)]
    rw [e, if_neg (by decide), if_neg (by decide)]
    obtain ⟨h1, h2, h3⟩ := h
    have d1 : decide (a < 2) = false := by simp; omega
    have d2 : decide (80 < a) = false := by simp; omega
    have d3 : decide (b < 0) = false := by simp; omega
    go_enter Tryd.func10, Tryd.ntmps10
    go_wp2
    go_ret3
    exact ⟨rfl, Below.refl _ _⟩
  · have e : ck a b = 0 := by unfold ck; rw [if_neg (by omega), if_neg (by omega)]
    rw [e, if_pos rfl, if_pos rfl]
    obtain ⟨m, p, rfl, rfl, h1, h2, h3⟩ := ck_ok e
    clear e h
    simp only [Int.toNat_natCast]
    have d1 : decide ((m : Int) < 2) = false := by simp; omega
    have d2 : decide ((80 : Int) < m) = false := by simp; omega
    have d3 : decide ((p : Int) < 0) = false := by simp
    have d4 : decide ((9999 : Int) < p) = false := by simp; omega
    have HX := Lib.hid (fun wz => step_any m p r wz h1 h2 (by omega))
    go_enter Tryd.func10, Tryd.ntmps10
    go_wp2_with fail
    refine (HX.out _).mono ?_
    rintro e w1 ⟨rfl, hb⟩
    go_wp2
    go_ret3
    exact ⟨rfl, hb⟩
end Go.Proofs.YtjojbhlhfjaacaaDoor
