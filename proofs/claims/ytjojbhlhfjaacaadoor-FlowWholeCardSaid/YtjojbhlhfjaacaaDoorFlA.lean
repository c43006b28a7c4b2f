/- The contracts of flow: check, laying, and the closure that laying tells. -/
import Derived.Test.YtjojbhlhfjaacaaDoorFlP
import Derived.BigQuiet
set_option linter.unusedVariables false
namespace Go.Proofs.YtjojbhlhfjaacaaDoor
open Go.RowKit Gl L Wd Fl
namespace Fl
/-- What is wrong with a width, or a place. -/
def ck (w a : Int) : Int := if w < 2 ∨ 80 < w then 4 else if a < 0 ∨ 9999 < a then 1 else 0
end Fl
/-- A block of one cell that the call may write holds u; all else that was there stays. -/
def Held (W : World) (b : Nat) (t : TypeId) (u : Value) (w : World) : Prop := w.heap[b]? = some (.cells #[u] t (0, 0)) ∧ W.grownBy w (some b)
theorem Held.of {W w : World} {b : Nat} {t : TypeId} {u : Value} (hc : W.heap[b]? = some (.cells #[u] t (0, 0))) (hb : Below W.heap.size W w) : Held W b t u w :=
  ⟨by rw [hb.block _ (lt_of_block hc)]; exact hc, hb.os, hb.tape, hb.output, hb.size, fun k hk _ => hb.block k hk⟩
theorem Held.set {W w : World} {b : Nat} {t : TypeId} {u : Value} (h : Held W b t u w) (v : Value) : Held W b t v (w.setCell ⟨b, 0, none⟩ v) :=
  ⟨one_setCell h.1, h.2.os, h.2.tape, h.2.output, by have := h.2.size; simpa using this, fun k hk hne => by
    rw [Below.heap_setCell _ _ _ _ (fun e => hne (by rw [e]))]; exact h.2.block k hk hne⟩
theorem Held.drew {W w : World} {b : Nat} {t : TypeId} {u : Value} (h : Held W b t u w) (n : Nat) : Held W b t u (w.drewN n) := ⟨h.1, h.2.os, h.2.tape, h.2.output, h.2.size, h.2.block⟩
theorem Held.below {B : Nat} {W w : World} {b : Nat} {t : TypeId} {u : Value} (h : Held W b t u w) (hb : B ≤ b) (hB : B ≤ W.heap.size) : Below B W w :=
  ⟨h.2.os, h.2.tape, h.2.output, h.2.size, fun k hk => h.2.block k (Nat.lt_of_lt_of_le hk hB) (by intro e; cases e; omega)⟩
theorem check_any (a b : Int) (w : World) : Calls Tryd.prog 21 #[.int .i64 a, .int .i64 b] w fun e w' => e = .returned (.int .i64 (ck a b)) ∧ w = w' := by
  rcases (show a < 2 ∨ 80 < a ∨ 2 ≤ a ∧ a ≤ 80 ∧ b < 0 ∨ 2 ≤ a ∧ a ≤ 80 ∧ 9999 < b ∨ 2 ≤ a ∧ a ≤ 80 ∧ 0 ≤ b ∧ b ≤ 9999 by omega) with h | h | h | h | h
  · have e : ck a b = 4 := by unfold ck; rw [if_pos (by omega)]
    rw [e]
    go_enter Tryd.func21, Tryd.ntmps21
    go_wp2
    all_goals first | (exfalso; omega) | (go_ret; exact ⟨rfl, rfl⟩)
  · have e : ck a b = 4 := by unfold ck; rw [if_pos (by omega)]
    rw [e]
    have h2 : 2 ≤ a := by omega
    go_enter Tryd.func21, Tryd.ntmps21
    go_wp2
    all_goals first | (exfalso; omega) | (go_ret; exact ⟨rfl, rfl⟩)
  · have e : ck a b = 1 := by unfold ck; rw [if_neg (by omega), if_pos (by omega)]
    rw [e]
    obtain ⟨h1, h2, h3⟩ := h
    go_enter Tryd.func21, Tryd.ntmps21
    go_wp2
    all_goals first | (exfalso; omega) | (go_ret; exact ⟨rfl, rfl⟩)
  · have e : ck a b = 1 := by unfold ck; rw [if_neg (by omega), if_pos (by omega)]
    rw [e]
    obtain ⟨h1, h2, h3⟩ := h
    have h4 : 0 ≤ b := by omega
    go_enter Tryd.func21, Tryd.ntmps21
    go_wp2
    all_goals first | (exfalso; omega) | (go_ret; exact ⟨rfl, rfl⟩)
  · have e : ck a b = 0 := by unfold ck; rw [if_neg (by omega), if_neg (by omega)]
    rw [e]
    obtain ⟨h1, h2, h3, h4⟩ := h
    go_enter Tryd.func21, Tryd.ntmps21
    go_wp2
    all_goals first | (exfalso; omega) | (go_ret; exact ⟨rfl, rfl⟩)
theorem laying_any (a b : Int) (w : World) : Calls Tryd.prog 22 #[.int .i64 a, .int .i64 b] w fun e w' => e = .returned (.func (.func 26) #[] #[.pointer (some ⟨w.heap.size, 0, none⟩), .pointer (some ⟨w.heap.size + 1, 0, none⟩)]) ∧ w' = (w.alloc (.cells #[.int .i64 a] 3)).alloc (.cells #[.int .i64 b] 3) := by
  have hmf : ∀ (fn : Fn) (first cap : Array Value) (w : World), (Instr.makeFunc fn first cap).run Tryd.prog w = .ok (.func fn first cap) w := fun _ _ _ _ => rfl
  go_enter Tryd.func22, Tryd.ntmps22
  go_wp2
  go_ret
  exact ⟨rfl, rfl⟩
set_option maxHeartbeats 2000000 in
theorem lays_any (r : Int) (bw ba w a : Nat) (W : World) (S : Spans W 1) (hw : 2 ≤ w) (hw2 : w ≤ 80) (ha : a ≤ 1000000) (cw : W.heap[bw]? = some (.cells #[.int .i64 w] 3 (0, 0))) (ca : W.heap[ba]? = some (.cells #[.int .i64 a] 3 (0, 0))) :
    Calls Tryd.prog 26 #[.int .i32 r, .pointer (some ⟨bw, 0, none⟩), .pointer (some ⟨ba, 0, none⟩)] W fun e w' => e = .returned (.tuple #[.int .i64 (nx w a r : Nat), .int .i64 (nx w a r + (cl r).length : Nat)]) ∧ Held W ba 3 (.int .i64 (nx w a r + (cl r).length : Nat)) w' := by
  have hbw := lt_of_block cw
  have hba := lt_of_block ca
  have hn := nx_eq w a r (by omega)
  have hm := Nat.mod_lt a (show 0 < w by omega)
  have hcl := cl_len r
  have HN := Lib.hid hn
  clear hn
  have hwd : wd r = (cl r).length := rfl
  generalize hk : (cl r).length = n at *
  have HK := Lib.hid hk
  have hme : ((a % w : Nat) : Int) = (a : Int) % (w : Int) := rfl
  by_cases hgt : w < a % w + n
  · rw [if_pos hgt] at HN
    have d1 : decide ((w : Int) - (a : Int) % (w : Int) < (n : Int)) = true := by simp; omega
    go_enter Tryd.func26, Tryd.ntmps26
    go_wp2_with fail
    refine (width_any _ _ S).mono ?_
    rintro e w1 ⟨rfl, hw1⟩
    rw [hwd]
    have b2 : w1.heap[ba]? = some (.cells #[.int .i64 a] 3 (0, 0)) := by rw [hw1.block _ hba]; exact ca
    have H2 := Lib.hid (Held.of ca hw1)
    have c1 : w1.cell? ⟨bw, 0, none⟩ = some (.int .i64 w) := by rw [old_cell hw1 _ _ hbw]; exact cell_of_one cw
    have c2 : w1.cell? ⟨ba, 0, none⟩ = some (.int .i64 a) := cell_of_one b2
    have c3 : w1.frozen? ⟨ba, 0, none⟩ = false := free_of_one b2
    clear b2
    have hz := hw1.size
    go_wp2
    go_quiet (fail)
    go_wp2
    go_quiet (fail)
    go_wp2
    go_ret2
    rw [HN.out]
    refine ⟨ret_2 (v_int (by omega)) (v_int (by omega)), ?_⟩
    rw [show ((a + (w - a % w) + n : Nat) : Int) = (a : Int) + ((w : Int) - (a : Int) % (w : Int)) + (n : Int) by omega]
    exact (((H2.out.drew _).set _).set _).drew _
  · rw [if_neg hgt] at HN
    have d1 : decide ((w : Int) - (a : Int) % (w : Int) < (n : Int)) = false := by simp; omega
    go_enter Tryd.func26, Tryd.ntmps26
    go_wp2_with fail
    refine (width_any _ _ S).mono ?_
    rintro e w1 ⟨rfl, hw1⟩
    rw [hwd]
    have b2 : w1.heap[ba]? = some (.cells #[.int .i64 a] 3 (0, 0)) := by rw [hw1.block _ hba]; exact ca
    have H2 := Lib.hid (Held.of ca hw1)
    have c1 : w1.cell? ⟨bw, 0, none⟩ = some (.int .i64 w) := by rw [old_cell hw1 _ _ hbw]; exact cell_of_one cw
    have c2 : w1.cell? ⟨ba, 0, none⟩ = some (.int .i64 a) := cell_of_one b2
    have c3 : w1.frozen? ⟨ba, 0, none⟩ = false := free_of_one b2
    clear b2
    have hz := hw1.size
    go_wp2
    go_quiet (fail)
    go_wp2
    go_quiet (fail)
    go_wp2
    go_ret2
    rw [HN.out]
    refine ⟨ret_2 (v_int (by omega)) (v_int (by omega)), ?_⟩
    rw [show ((a + n : Nat) : Int) = (a : Int) + (n : Int) by omega]
    exact ((H2.out.drew _).set _).drew _
end Go.Proofs.YtjojbhlhfjaacaaDoor
