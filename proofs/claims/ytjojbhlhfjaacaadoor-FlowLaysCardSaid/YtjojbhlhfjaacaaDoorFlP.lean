/- Where signs are laid, in plain mathematics: places, ends, cells, free places. -/
import Derived.Test.YtjojbhlhfjaacaaDoorWdE
set_option linter.unusedVariables false
namespace Go.Proofs.YtjojbhlhfjaacaaDoor
open Go.RowKit Gl L Wd
namespace Fl
/-- Where a sign begins, if the place a is next. -/
def nx (w a : Nat) (r : Int) : Nat := if w < a % w + (cl r).length then (a / w + 1) * w else a
/-- The place behind all signs. -/
def fin (w : Nat) : Nat → List Int → Nat
  | a, [] => a
  | a, r :: l => fin w (nx w a r + (cl r).length) l
/-- Where each sign begins. -/
def lay (w : Nat) : Nat → List Int → List Int
  | _, [] => []
  | a, r :: l => (nx w a r : Nat) :: lay w (nx w a r + (cl r).length) l
/-- How many places are left free. -/
def ws (w : Nat) : Nat → List Int → Nat
  | _, [] => 0
  | a, r :: l => (nx w a r - a) + ws w (nx w a r + (cl r).length) l
/-- The cells of all signs, with blanks between. -/
def cells (w : Nat) : Nat → List Int → List (Int × Int)
  | _, [] => []
  | a, r :: l => List.replicate (nx w a r - a) (32, 0) ++ cl r ++ cells w (nx w a r + (cl r).length) l
theorem nx_eq (w a : Nat) (r : Int) (hw : 0 < w) : nx w a r = if w < a % w + (cl r).length then a + (w - a % w) else a := by
  unfold nx
  have h := Nat.div_add_mod a w
  have h2 := Nat.mod_lt a hw
  split
  · rw [Nat.add_mul, Nat.mul_comm (a / w) w]; omega
  · rfl
/-- A sign begins at once, or one place behind, where the next row begins, with two cells. -/
theorem nx_or (w a : Nat) (r : Int) (hw : 2 ≤ w) : nx w a r = a ∧ a % w + (cl r).length ≤ w ∨ nx w a r = a + 1 ∧ (cl r).length = 2 ∧ (a + 1) % w = 0 ∧ w < a % w + (cl r).length := by
  rw [nx_eq w a r (by omega)]
  have h2 := Nat.mod_lt a (show 0 < w by omega)
  have hc := cl_len r
  have h := Nat.div_add_mod a w
  split
  · next h1 =>
    right
    refine ⟨by omega, by omega, ?_, h1⟩
    have e : a + 1 = w * (a / w + 1) := by rw [Nat.mul_add]; omega
    rw [e]; exact Nat.mul_mod_right _ _
  · left; exact ⟨rfl, by omega⟩
theorem nx_ge (w a : Nat) (r : Int) (hw : 2 ≤ w) : a ≤ nx w a r ∧ nx w a r ≤ a + 1 := by
  have := nx_or w a r hw; omega
theorem nx_fit (w a : Nat) (r : Int) (hw : 2 ≤ w) : nx w a r % w + (cl r).length ≤ w := by
  rcases nx_or w a r hw with ⟨h, h1⟩ | ⟨h, h1, h2, _⟩
  · rw [h]; exact h1
  · rw [h, h2]; omega
theorem same_row (w p n : Nat) (h : p % w + n ≤ w) (h1 : 1 ≤ n) : (p + n - 1) / w = p / w := by
  have e := Nat.div_add_mod p w
  have e2 : p + n - 1 = w * (p / w) + (p % w + n - 1) := by omega
  have hw : 0 < w := by omega
  have hlt : p % w + n - 1 < w := by omega
  rw [e2, Nat.mul_add_div hw, Nat.div_eq_of_lt hlt, Nat.add_zero]
theorem nx_row (w a : Nat) (r : Int) (hw : 2 ≤ w) : (nx w a r + (cl r).length - 1) / w = nx w a r / w :=
  same_row _ _ _ (nx_fit w a r hw) (by have := cl_len r; omega)
theorem fin_append (w a : Nat) (l m : List Int) : fin w a (l ++ m) = fin w (fin w a l) m := by
  induction l generalizing a with
  | nil => rfl
  | cons r l ih => exact ih _
theorem lay_append (w a : Nat) (l m : List Int) : lay w a (l ++ m) = lay w a l ++ lay w (fin w a l) m := by
  induction l generalizing a with
  | nil => rfl
  | cons r l ih => exact congrArg _ (ih _)
theorem ws_append (w a : Nat) (l m : List Int) : ws w a (l ++ m) = ws w a l + ws w (fin w a l) m := by
  induction l generalizing a with
  | nil => simp [ws, fin]
  | cons r l ih => show _ + ws w _ (l ++ m) = _ + ws w _ l + _; rw [ih]; simp only [fin]; omega
theorem cells_append (w a : Nat) (l m : List Int) : cells w a (l ++ m) = cells w a l ++ cells w (fin w a l) m := by
  induction l generalizing a with
  | nil => rfl
  | cons r l ih => show _ ++ _ ++ cells w _ (l ++ m) = _ ++ _ ++ cells w _ l ++ _; rw [ih]; simp [fin]
theorem lay_len (w a : Nat) (l : List Int) : (lay w a l).length = l.length := by
  induction l generalizing a with
  | nil => rfl
  | cons r l ih => simp [lay, ih]
theorem fin_le (w a : Nat) (l : List Int) (hw : 2 ≤ w) : a + l.length ≤ fin w a l ∧ fin w a l ≤ a + 3 * l.length := by
  induction l generalizing a with
  | nil => simp [fin]
  | cons r l ih =>
    have h1 := nx_ge w a r hw
    have h2 := cl_len r
    have h3 := ih (nx w a r + (cl r).length)
    simp only [fin, List.length_cons]
    omega
theorem cells_len (w a : Nat) (l : List Int) (hw : 2 ≤ w) : (cells w a l).length + a = fin w a l := by
  induction l generalizing a with
  | nil => simp [fin, cells]
  | cons r l ih =>
    have h1 := nx_ge w a r hw
    have h3 := ih (nx w a r + (cl r).length)
    simp only [fin, cells, List.length_append, List.length_replicate]
    omega
theorem fin_eq (w a : Nat) (l : List Int) (hw : 2 ≤ w) : fin w a l = a + (row l).length + ws w a l := by
  induction l generalizing a with
  | nil => simp [fin, ws, row]
  | cons r l ih =>
    have h1 := nx_ge w a r hw
    have h3 := ih (nx w a r + (cl r).length)
    have e : row (r :: l) = cl r ++ row l := rfl
    rw [e, List.length_append]
    simp only [fin, ws]
    omega
/-- The next sign's place, end, and cells. -/
theorem fin_take {w a : Nat} {l : List Int} {k : Nat} (h : k < l.length) : fin w a (l.take (k + 1)) = nx w (fin w a (l.take k)) (l.getD k 0) + (cl (l.getD k 0)).length := by
  rw [take_snoc2 (d := 0) h, fin_append]; rfl
theorem lay_take {w a : Nat} {l : List Int} {k : Nat} (h : k < l.length) : lay w a (l.take (k + 1)) = lay w a (l.take k) ++ [((nx w (fin w a (l.take k)) (l.getD k 0) : Nat) : Int)] := by
  rw [take_snoc2 (d := 0) h, lay_append]; rfl
theorem cells_take {w a : Nat} {l : List Int} {k : Nat} (h : k < l.length) : cells w a (l.take (k + 1)) = cells w a (l.take k) ++ List.replicate (nx w (fin w a (l.take k)) (l.getD k 0) - fin w a (l.take k)) (32, 0) ++ cl (l.getD k 0) := by
  rw [take_snoc2 (d := 0) h, cells_append]; simp [cells]
theorem lay_at {w a : Nat} {l : List Int} {k : Nat} (h : k < l.length) : (lay w a l).getD k 0 = ((nx w (fin w a (l.take k)) (l.getD k 0) : Nat) : Int) := by
  have e : l = l.take (k + 1) ++ l.drop (k + 1) := (List.take_append_drop _ _).symm
  have h2 : (lay w a (l.take k)).length = k := by rw [lay_len, List.length_take]; omega
  have e2 : lay w a l = lay w a (l.take k) ++ (((nx w (fin w a (l.take k)) (l.getD k 0) : Nat) : Int) :: lay w (fin w a (l.take (k + 1))) (l.drop (k + 1))) := by
    conv => lhs; rw [e, lay_append, lay_take h]
    simp
  rw [e2, List.getD_eq_getElem?_getD, List.getElem?_append_right (by omega), h2]
  simp
theorem fin_mono {w a : Nat} {l : List Int} {k : Nat} (hw : 2 ≤ w) : fin w a (l.take k) ≤ fin w a l ∧ a ≤ fin w a (l.take k) := by
  have e : l = l.take k ++ l.drop k := (List.take_append_drop _ _).symm
  have h1 := fin_le w a (l.take k) hw
  have h2 := fin_le w (fin w a (l.take k)) (l.drop k) hw
  rw [← fin_append, ← e] at h2
  omega
/-- All cells, cut about the k-th sign's. -/
theorem cells_cut {w a : Nat} {l : List Int} {k : Nat} (h : k < l.length) : cells w a l = cells w a (l.take k) ++ List.replicate (nx w (fin w a (l.take k)) (l.getD k 0) - fin w a (l.take k)) (32, 0) ++ cl (l.getD k 0) ++ cells w (fin w a (l.take (k + 1))) (l.drop (k + 1)) := by
  have e : l = l.take (k + 1) ++ l.drop (k + 1) := (List.take_append_drop _ _).symm
  conv => lhs; rw [e, cells_append, cells_take h]
/-- How many of the cells are blank. -/
def nbl (l : List (Int × Int)) : Nat := l.count (32, 0)
theorem nbl_cl (r : Int) : nbl (cl r) = if r = 32 then 1 else 0 := by
  by_cases h1 : 0 ≤ r ∧ r < 32
  · rw [cl_ctl h1, if_neg (by omega)]
    have : ¬ r + 64 = 32 := by omega
    simp [nbl, this]
  by_cases h2 : r = 127
  · subst h2; rw [cl_del]; decide
  cases h3 : shw r
  · rw [cl_bad h1 h2 h3, if_neg (by rintro rfl; exact absurd h3 (by decide))]; decide
  · cases h4 : wid r
    · rw [cl_one h3 h4]
      by_cases h : r = 32
      · subst h; decide
      · simp [nbl, h]
    · rw [cl_wide h3 h4, if_neg (by rintro rfl; exact absurd h4 (by decide))]
      simp [nbl]
theorem nbl_cells (w a : Nat) (l : List Int) (hw : 2 ≤ w) : nbl (cells w a l) = ws w a l + l.count 32 := by
  induction l generalizing a with
  | nil => rfl
  | cons r l ih =>
    have h3 := ih (nx w a r + (cl r).length)
    have h4 := nbl_cl r
    unfold nbl at *
    simp only [ws, cells, List.count_append, List.count_replicate_self, List.count_cons]
    rw [h3, h4]
    simp only [beq_iff_eq]
    omega
theorem count_take {l : List Int} {k : Nat} (h : k < l.length) : (l.take (k + 1)).count 32 = (l.take k).count 32 + if l.getD k 0 = 32 then 1 else 0 := by
  rw [take_snoc2 (d := 0) h, List.count_append]
  simp [List.count_cons]
theorem count_take2 {l : List (Int × Int)} {k : Nat} (h : k < l.length) : nbl (l.take (k + 1)) = nbl (l.take k) + if l.getD k (0, 0) = (32, 0) then 1 else 0 := by
  unfold nbl
  rw [take_snoc2 (d := (0, 0)) h, List.count_append]
  simp [List.count_cons]
end Fl
end Go.Proofs.YtjojbhlhfjaacaaDoor
