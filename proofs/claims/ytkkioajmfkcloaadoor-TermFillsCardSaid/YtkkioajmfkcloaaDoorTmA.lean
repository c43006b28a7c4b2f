/- Terminals' values; the program's table of what commands do, its lead and below. -/
import Derived.Test.YtkkioajmfkcloaaDoorMVq
import Derived.Test.YtkkioajmfkcloaaDoorMLb
import Derived.Test.YtkkioajmfkcloaaDoorMGu
import Derived.Test.YtkkioajmfkcloaaDoorGdY
import Derived.BigQuiet
set_option linter.unusedVariables false
namespace Go.Proofs.YtkkioajmfkcloaaDoor
open Go.RowKit Gl L Wd Gd Tm
/-- A terminal's value, of these cells. -/
def tv (t : Trm) (v : Value) : Value := .agg #[.int .i64 t.w, .int .i64 t.h, v, .int .i64 t.x, .int .i64 t.y, .bool t.k]
/-- v is a row of these cells, and has room for them. -/
def Rc (w : World) (v : Value) (l : List (Int × Int)) : Prop := ∃ A cap, v = .slice A l.length cap ∧ l.length ≤ cap ∧ Rw w v 2 l.length (flat l)
theorem Rc.rw {w : World} {v : Value} {l : List (Int × Int)} (h : Rc w v l) : Rw w v 2 l.length (flat l) := by obtain ⟨_, _, _, _, h⟩ := h; exact h
theorem Rc.cap {w : World} {v : Value} {l : List (Int × Int)} (h : Rc w v l) : Capped v := by
  obtain ⟨A, cap, rfl, h, _⟩ := h
  intro A' n' c' e
  cases e
  exact h
theorem Rc.below {w w' : World} {v : Value} {l : List (Int × Int)} (h : Rc w v l) (hb : Below w.heap.size w w') : Rc w' v l := by
  obtain ⟨A, cap, e, h1, h2⟩ := h
  exact ⟨A, cap, e, h1, h2.below hb⟩
theorem Rc.alloc {w : World} {v : Value} {l : List (Int × Int)} (h : Rc w v l) (o : Obj) : Rc (w.alloc o) v l := h.below ((Below.refl _ _).alloc (Nat.le_refl _) _)
theorem Own.rc {B : Nat} {w : World} {v : Value} {l : List (Int × Int)} (h : Own B w v l) : Rc w v l := by
  have hr := h.rw
  obtain ⟨g, cap, rfl, h1, _⟩ := h
  exact ⟨_, _, rfl, h1, hr⟩
/-- v is the row that came in, or one that was made. -/
def Kp (B : Nat) (vi : Value) (li : List (Int × Int)) (w : World) (v : Value) (l : List (Int × Int)) : Prop := (v = vi ∧ l = li) ∨ Own B w v l
theorem Kp.same {B : Nat} {vi : Value} {li : List (Int × Int)} {w : World} : Kp B vi li w vi li := .inl ⟨rfl, rfl⟩
theorem Kp.mono {B B' : Nat} {vi v : Value} {li l : List (Int × Int)} {w : World} (h : Kp B vi li w v l) (hb : B' ≤ B) : Kp B' vi li w v l := h.imp id (fun h => h.mono hb)
theorem Kp.set1 {B : Nat} {vi v : Value} {li l : List (Int × Int)} {w : World} (h : Kp B vi li w v l) (b o : Nat) (u : Value) (hb : b < B) : Kp B vi li (w.setCell ⟨b, o, none⟩ u) v l := h.imp id (fun h => h.set1 b o u hb)
theorem Kp.below {B : Nat} {vi v : Value} {li l : List (Int × Int)} {w w' : World} (h : Kp B vi li w v l) (hb : Below w.heap.size w w') : Kp B vi li w' v l := h.imp id (fun h => h.below hb)
theorem Kp.alloc {B : Nat} {vi v : Value} {li l : List (Int × Int)} {w : World} (h : Kp B vi li w v l) (o : Obj) : Kp B vi li (w.alloc o) v l := h.below ((Below.refl _ _).alloc (Nat.le_refl _) _)
theorem Kp.rc {B : Nat} {vi v : Value} {li l : List (Int × Int)} {w : World} (h : Kp B vi li w v l) (hi : Rc w vi li) : Rc w v l := by
  rcases h with ⟨rfl, rfl⟩ | h
  · exact hi
  · exact h.rc
theorem Kp.trans {B B' : Nat} {v0 v1 v2 : Value} {l0 l1 l2 : List (Int × Int)} {w w' : World} (h : Kp B v0 l0 w v1 l1) (h' : Kp B' v1 l1 w' v2 l2) (hb : Below w.heap.size w w') (hB : B ≤ B') : Kp B v0 l0 w' v2 l2 := by
  rcases h' with ⟨rfl, rfl⟩ | h'
  · exact h.below hb
  · exact .inr (h'.mono hB)
/-- A terminal is told, whose cells are those that came in, or lie in new memory. -/
def TO (B : Nat) (vi : Value) (li : List (Int × Int)) (w' : World) (e : Ending) (t : Trm) : Prop := ∃ v, e = .returned (tv t v) ∧ Kp B vi li w' v t.l
theorem TO.of {B : Nat} {vi : Value} {li : List (Int × Int)} {w' : World} {e : Ending} {t : Trm} {gw gh x y : Int} {k : Bool} {l : List (Int × Int)} {v : Value} (ht : t = ⟨gw, gh, l, x, y, k⟩) (he : e = .returned (.agg #[.int .i64 gw, .int .i64 gh, v, .int .i64 x, .int .i64 y, .bool k])) (hr : Kp B vi li w' v l) : TO B vi li w' e t := by subst ht; exact ⟨v, he, hr⟩
/-- It is told by its parts. -/
theorem TO.op {B : Nat} {vi : Value} {li : List (Int × Int)} {w' : World} {e : Ending} {t : Trm} (h : TO B vi li w' e t) (hi : Rc w' vi li) : ∃ A cap, e = .returned (.agg #[.int .i64 t.w, .int .i64 t.h, .slice A t.l.length cap, .int .i64 t.x, .int .i64 t.y, .bool t.k]) ∧ Kp B vi li w' (.slice A t.l.length cap) t.l := by
  obtain ⟨v, rfl, hk⟩ := h
  obtain ⟨A, cap, rfl, h1, h2⟩ := hk.rc hi
  exact ⟨A, cap, rfl, hk⟩
theorem lead_any (gw gh x y : Int) (k : Bool) (A : Option Addr) (n cap : Nat) (a b : Int) (W : World) (hw : 2 ≤ gw ∧ gw ≤ 80) (hh : 1 ≤ gh ∧ gh ≤ 24) :
    Calls Tryd.prog 71 #[.agg #[.int .i64 gw, .int .i64 gh, .slice A n cap, .int .i64 x, .int .i64 y, .bool k], .int .i64 a, .int .i64 b] W fun e w' => e = .returned (.agg #[.int .i64 gw, .int .i64 gh, .slice A n cap, .int .i64 (wi a (gw - 1)), .int .i64 (wi b (gh - 1)), .bool k]) ∧ Below W.heap.size W w' := by
  go_enter Tryd.func71, Tryd.ntmps71
  go_wp2
  all_goals
    refine bodyPost_ret (v := .agg #[.int .i64 gw, .int .i64 gh, .slice A n cap, .int .i64 (wi a (gw - 1)), .int .i64 (wi b (gh - 1)), .bool k]) ?_ rfl ⟨rfl, ?_⟩
    · unfold wi
      simp [results, Tryd.results71, go_sem]
      constructor <;> (repeat' split) <;> omega
    · repeat (first | (with_reducible exact Below.refl _ _) | refine Below.alloc ?_ (by simp) _ | refine Below.setCell ?_ (by simp) _)
/-- What commands of some kind do, and whether Wrap is what it makes of it. -/
def dF (k : Int) : Nat := if k = 1 then 50 else if k = 2 then 51 else if k = 3 then 52 else if k = 4 then 53 else if k = 5 then 54 else if k = 6 then 55 else if k = 7 then 56 else if k = 8 then 57 else if k = 9 then 58 else if k = 10 then 59 else if k = 11 then 60 else 61
def dW (k : Int) : Bool := decide (k = 1 ∨ k = 12)
theorem deed_at (k : Int) (hk : 1 ≤ k ∧ k ≤ 12) : ∀ w : World, (Instr.index 80 (.agg #[.nilFunc, .bool false, .func (.func 50) #[] #[], .bool true, .func (.func 51) #[] #[], .bool false, .func (.func 52) #[] #[], .bool false, .func (.func 53) #[] #[], .bool false, .func (.func 54) #[] #[], .bool false, .func (.func 55) #[] #[], .bool false, .func (.func 56) #[] #[], .bool false, .func (.func 57) #[] #[], .bool false, .func (.func 58) #[] #[], .bool false, .func (.func 59) #[] #[], .bool false, .func (.func 60) #[] #[], .bool false, .func (.func 61) #[] #[], .bool true]) (.int .i64 k)).run Tryd.prog w = .ok (.agg #[.func (.func (dF k)) #[] #[], .bool (dW k)]) w := by
  intro w
  rcases (show k = 1 ∨ k = 2 ∨ k = 3 ∨ k = 4 ∨ k = 5 ∨ k = 6 ∨ k = 7 ∨ k = 8 ∨ k = 9 ∨ k = 10 ∨ k = 11 ∨ k = 12 by omega) with h | h | h | h | h | h | h | h | h | h | h | h
  all_goals (subst h; kernel_rfl)
set_option maxRecDepth 100000 in
theorem deedOf_any (k : Int) (hk : 1 ≤ k ∧ k ≤ 12) (w : World) : Calls Tryd.prog 36 #[.int .i64 k] w fun e w' => e = .returned (.agg #[.func (.func (dF k)) #[] #[], .bool (dW k)]) ∧ Below w.heap.size w w' := by
  have H := deed_at k hk
  generalize dF k = f at H ⊢
  generalize dW k = b at H ⊢
  go_enter Tryd.func36, Tryd.ntmps36
  have HS : ∀ (a : Addr) (w : World), (store a (.func (.func f) #[] #[])).run Tryd.prog w = stored Tryd.prog w a (.func (.func f) #[] #[]) .plain := fun a w => run_store _ _ _ _ _ rfl
  go_wp2
  refine bodyPost_ret (v := .agg #[.func (.func f) #[] #[], .bool b]) (by simp [results, Tryd.results36, go_sem]) rfl ⟨rfl, ?_⟩
  repeat (first | (with_reducible exact Below.refl _ _) | refine Below.alloc ?_ (by simp) _ | refine Below.setCell ?_ (by simp) _)
set_option maxHeartbeats 4000000 in
theorem below_any (gw gh x y : Int) (k : Bool) (l : List (Int × Int)) (h0 : right gw gh l) (h : 0 ≤ y ∧ y < gh) (A : Option Addr) (cap : Nat) (W : World) (hv : Rc W (.slice A l.length cap) l) (S : Spans W 2) (T : Blk W 0) :
    Calls Tryd.prog 70 #[.agg #[.int .i64 gw, .int .i64 gh, .slice A l.length cap, .int .i64 x, .int .i64 y, .bool k]] W fun e w' => TO W.heap.size (.slice A l.length cap) l w' e (dn ⟨gw, gh, l, x, y, k⟩) ∧ Below W.heap.size W w' := by
  have hb0 : Below W.heap.size W ((W.alloc (.cells #[.int .i64 gw, .int .i64 gh, .slice A l.length cap, .int .i64 x, .int .i64 y, .bool k] 71)).alloc (.cells #[.int .i64 0, .int .i64 0, .slice none 0 0, .int .i64 0, .int .i64 0, .bool false] 71)) := ((Below.refl _ _).alloc (Nat.le_refl _) _).alloc (by simp) _
  obtain ⟨h3, h4⟩ := h
  have hl := right_len h0
  have hs := h0.1
  by_cases hy : y = gh - 1
  · have d1 : decide (y < gh - 1) = false := by rw [decide_eq_false_iff_not]; omega
    have HV := Lib.hid (hv.below hb0)
    have HR := Lib.hid h0
    have HD := Lib.hid (show dn ⟨gw, gh, l, x, y, k⟩ = ⟨gw, gh, scrollL gw.toNat l, x, y, k⟩ by unfold dn; rw [if_pos hy])
    have G0 := Lib.hid (carryA (.cells #[.int .i64 0, .int .i64 0, .slice none 0 0, .int .i64 0, .int .i64 0, .bool false] 71) (heap_alloc_new W (.cells #[.int .i64 gw, .int .i64 gh, .slice A l.length cap, .int .i64 x, .int .i64 y, .bool k] 71)))
    have G1 := Lib.hid (heap_alloc_new (W.alloc (.cells #[.int .i64 gw, .int .i64 gh, .slice A l.length cap, .int .i64 x, .int .i64 y, .bool k] 71)) (.cells #[.int .i64 0, .int .i64 0, .slice none 0 0, .int .i64 0, .int .i64 0, .bool false] 71))
    clear hv h0 hy
    go_enter Tryd.func70, Tryd.ntmps70
    go_wp2_with fail
    refine (scroll_any gw gh _ l _ HV.out.rw HV.out.cap (by unfold maxLen; omega) (S.below hb0) (T.below hb0)).mono ?_
    rintro e w1 ⟨ho, hw1⟩
    unfold ScrollTold at ho
    rw [if_pos HR.out] at ho
    obtain ⟨v', rfl, hown⟩ := ho
    obtain ⟨g, cap', rfl, hcap', hrow⟩ := hown
    obtain ⟨⟨c0, c1, c2, c3, c4, c5⟩, ⟨f0, f1, f2, f3, f4, f5⟩, z0⟩ := blk6 (carry hw1 G0.out)
    have hG1 := carry hw1 G1.out
    rw [show (W.alloc (.cells #[.int .i64 gw, .int .i64 gh, .slice A l.length cap, .int .i64 x, .int .i64 y, .bool k] 71)).heap.size = W.heap.size + 1 by simp] at hG1
    obtain ⟨⟨k0, k1, k2, k3, k4, k5⟩, ⟨e0, e1, e2, e3, e4, e5⟩, z1⟩ := blk6 hG1
    have HO := Lib.hid (Own.sh rfl hcap' hrow)
    have HB := Lib.hid (hb0.trans (hw1.mono hb0.size))
    clear hrow hG1 hw1 hb0
    generalize hN : (scrollL gw.toNat l).length = N at *
    go_wp2
    refine bodyPost_ret (v := .agg #[.int .i64 gw, .int .i64 gh, .slice (some ⟨g, 0, none⟩) N cap', .int .i64 x, .int .i64 y, .bool k]) (by simp [results, Tryd.results70, go_sem, *]) rfl ⟨TO.of HD.out rfl ?_, ?_⟩
    · refine .inr (Own.mono (B := W.heap.size + 1 + 1) ?_ (by omega))
      have HO' := HO.out.mono (B' := W.heap.size + 1 + 1) (by simp)
      repeat (first | (with_reducible exact HO') | refine Own.set1 ?_ _ _ _ (by omega))
    · repeat (first | (with_reducible exact HB.out) | refine Below.setCell ?_ (by simp) _)
  · have d1 : decide (y < gh - 1) = true := by rw [decide_eq_true_iff]; omega
    have HD := Lib.hid (show dn ⟨gw, gh, l, x, y, k⟩ = ⟨gw, gh, l, x, y + 1, k⟩ by unfold dn; rw [if_neg hy])
    have HV := Lib.hid hv
    clear hv hy
    go_enter Tryd.func70, Tryd.ntmps70
    go_wp2
    refine bodyPost_ret (v := .agg #[.int .i64 gw, .int .i64 gh, .slice A l.length cap, .int .i64 x, .int .i64 (y + 1), .bool k]) (by simp [results, Tryd.results70, go_sem]) rfl ⟨TO.of HD.out rfl Kp.same, ?_⟩
    exact ((Below.refl _ _).alloc (Nat.le_refl _) _).alloc (by simp) _
end Go.Proofs.YtkkioajmfkcloaaDoor
