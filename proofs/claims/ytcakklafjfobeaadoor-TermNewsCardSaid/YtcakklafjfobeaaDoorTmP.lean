/- Terminals in plain mathematics: which are right, what each command makes of them. -/
import Derived.Test.YtcakklafjfobeaaDoorMWp
import Derived.Test.YtcakklafjfobeaaDoorMVp
set_option linter.unusedVariables false
namespace Go.Proofs.YtcakklafjfobeaaDoor
open Gl L Wd Gd Vt
namespace Tm
/-- A terminal: a grid's sides and cells, a place, and whether the next sign begins a row. -/
structure Trm where
  w : Int
  h : Int
  l : List (Int × Int)
  x : Int
  y : Int
  k : Bool
deriving DecidableEq
/-- Is it right? -/
def rt (t : Trm) : Prop := right t.w t.h t.l ∧ 0 ≤ t.x ∧ t.x < t.w ∧ 0 ≤ t.y ∧ t.y < t.h ∧ (t.k = true → t.x = t.w - 1)
instance (t : Trm) : Decidable (rt t) := by unfold rt; infer_instance
/-- The nearest of 0 to m. -/
def wi (n m : Int) : Int := if n < 0 then 0 else if m < n then m else n
theorem wi_in (n m : Int) (h : 0 ≤ m) : 0 ≤ wi n m ∧ wi n m ≤ m := by unfold wi; split <;> (try split) <;> omega
theorem wi_id (n m : Int) (h : 0 ≤ n ∧ n ≤ m) : wi n m = n := by unfold wi; rw [if_neg (by omega), if_neg (by omega)]
/-- To the next row. -/
def dn (t : Trm) : Trm := if t.y = t.h - 1 then { t with l := scrollL t.w.toNat t.l } else { t with y := t.y + 1 }
/-- How many cells a sign has. -/
def wd' (r : Int) : Int := ((cl r).length : Int)
/-- The place from which a sign is put. -/
def rowed (t : Trm) (r : Int) : Trm := if t.k = true ∨ t.w < t.x + wd' r then { dn t with x := 0 } else t
/-- A sign is put, and the cursor goes on. -/
def adv (t : Trm) (r : Int) : Trm := if t.x + wd' r = t.w then { t with l := putL t.w t.l t.x t.y r, x := t.w - 1, k := true } else { t with l := putL t.w t.l t.x t.y r, x := t.x + wd' r, k := false }
def tx (t : Trm) (r : Int) : Trm := adv (rowed t r) r
/-- What a right command makes of a right terminal. -/
def doT (t : Trm) (c : Cmd) : Trm :=
  if c.1 = 1 then tx t c.2.2.2
  else if c.1 = 12 then t
  else if c.1 = 2 then { t with x := wi c.2.2.1 (t.w - 1), y := wi c.2.1 (t.h - 1), k := false }
  else if c.1 = 3 then { t with y := wi (t.y - c.2.1) (t.h - 1), k := false }
  else if c.1 = 4 then { t with y := wi (t.y + c.2.1) (t.h - 1), k := false }
  else if c.1 = 5 then { t with x := wi (t.x + c.2.1) (t.w - 1), k := false }
  else if c.1 = 6 then { t with x := wi (t.x - c.2.1) (t.w - 1), k := false }
  else if c.1 = 7 then { t with l := blankL t.w t.l (t.y * t.w + t.x) ((t.y + 1) * t.w), k := false }
  else if c.1 = 8 then { t with l := blankL t.w t.l (t.y * t.w + t.x) (t.w * t.h), k := false }
  else if c.1 = 9 then { t with x := 0, k := false }
  else if c.1 = 10 then { dn t with k := false }
  else { t with x := wi (t.x - 1) (t.w - 1), k := false }
theorem rt_sides {t : Trm} (h : rt t) : 2 ≤ t.w ∧ t.w ≤ 80 ∧ 1 ≤ t.h ∧ t.h ≤ 24 := h.1.1
theorem rt_mk {t : Trm} {x y : Int} {k : Bool} (h : rt t) (hx : 0 ≤ x ∧ x < t.w) (hy : 0 ≤ y ∧ y < t.h) (hk : k = true → x = t.w - 1) : rt { t with x := x, y := y, k := k } := ⟨h.1, hx.1, hx.2, hy.1, hy.2, hk⟩
theorem dn_rt {t : Trm} (h : rt t) (hk : t.k = false) : rt (dn t) := by
  obtain ⟨h0, h1, h2, h3, h4, h5⟩ := h
  unfold dn
  split
  · exact ⟨scrollL_right h0, h1, h2, h3, h4, h5⟩
  · exact ⟨h0, h1, h2, by show 0 ≤ t.y + 1; omega, by show t.y + 1 < t.h; omega, h5⟩
theorem dn_side (t : Trm) : (dn t).w = t.w ∧ (dn t).h = t.h ∧ (dn t).x = t.x ∧ (dn t).k = t.k := by unfold dn; split <;> exact ⟨rfl, rfl, rfl, rfl⟩
/-- What is asked of a put: the sign has room. -/
theorem cl_w {r : Int} (h : shw r = true) : wd' r = 1 ∧ wid r = false ∨ wd' r = 2 ∧ wid r = true := by
  unfold wd'
  cases e : wid r
  · rw [cl_one h e]; exact .inl ⟨rfl, rfl⟩
  · rw [cl_wide h e]; exact .inr ⟨rfl, rfl⟩
theorem put_may {t : Trm} {r : Int} (h : rt t) (hs : shw r = true) (hr : t.x + wd' r ≤ t.w) : putB t.w t.h t.l t.x t.y r = true := by
  obtain ⟨h0, h1, h2, h3, h4, _⟩ := h
  unfold putB
  rw [hs, decide_eq_true (show place t.w t.h t.l t.x t.y from ⟨h0, h1, h2, h3, h4⟩)]
  rcases cl_w hs with ⟨e, ew⟩ | ⟨e, ew⟩
  · rw [ew]; rfl
  · rw [ew, decide_eq_false (by omega)]; rfl
theorem rowed_rt {t : Trm} {r : Int} (h : rt t) (hs : shw r = true) : rt { rowed t r with k := false } ∧ (rowed t r).x + wd' r ≤ t.w ∧ (rowed t r).w = t.w ∧ (rowed t r).h = t.h := by
  have h2 := rt_sides h
  unfold rowed
  have hc := cl_w hs
  split
  · obtain ⟨e1, e2, e3, e4⟩ := dn_side t
    refine ⟨?_, by show 0 + wd' r ≤ t.w; omega, e1, e2⟩
    obtain ⟨h0, h1, h2, h3, h4, h5⟩ := h
    unfold dn
    split
    · exact ⟨scrollL_right h0, by show (0 : Int) ≤ 0; omega, by show 0 < t.w; omega, h3, h4, fun h => by cases h⟩
    · exact ⟨h0, by show (0 : Int) ≤ 0; omega, by show 0 < t.w; omega, by show 0 ≤ t.y + 1; omega, by show t.y + 1 < t.h; omega, fun h => by cases h⟩
  · rename_i hn
    exact ⟨⟨h.1, h.2.1, h.2.2.1, h.2.2.2.1, h.2.2.2.2.1, fun h => by cases h⟩, by omega, rfl, rfl⟩
theorem tx_rt {t : Trm} {r : Int} (h : rt t) (hs : shw r = true) : rt (tx t r) := by
  have h2 := rt_sides h
  obtain ⟨g, g1, g2, g3⟩ := rowed_rt (r := r) h hs
  unfold tx
  generalize rowed t r = u at *
  have hp := put_may (t := { u with k := false }) g hs (by show u.x + wd' r ≤ u.w; omega)
  have hR := putL_right hp
  obtain ⟨q0, q1, q2, q3, q4, _⟩ := g
  have hc := cl_w hs
  simp only at q0 q1 q2 q3 q4
  unfold adv
  split
  · exact ⟨hR, by show 0 ≤ u.w - 1; omega, by show u.w - 1 < u.w; omega, q3, q4, fun _ => rfl⟩
  · exact ⟨hR, by show 0 ≤ u.x + wd' r; omega, by show u.x + wd' r < u.w; omega, q3, q4, fun h => by cases h⟩
theorem blank_may {t : Trm} (h : rt t) : blankB t.w t.h t.l (t.y * t.w + t.x) ((t.y + 1) * t.w) = true ∧ blankB t.w t.h t.l (t.y * t.w + t.x) (t.w * t.h) = true := by
  obtain ⟨h0, h1, h2, h3, h4, _⟩ := h
  have hl := h0.2.1
  have e1 : 0 ≤ t.y * t.w := Int.mul_nonneg h3 (by omega)
  have e2 : (t.y + 1) * t.w = t.y * t.w + t.w := by rw [Int.add_mul, Int.one_mul]
  have e3 : (t.y + 1) * t.w ≤ t.h * t.w := Int.mul_le_mul_of_nonneg_right (by omega) (by omega)
  rw [Int.mul_comm t.h t.w] at e3
  unfold blankB
  rw [decide_eq_true h0]
  exact ⟨decide_eq_true (by omega), decide_eq_true (by omega)⟩
/-- What comes of a right terminal is right. -/
theorem do_rt {t : Trm} {c : Cmd} (h : rt t) (hc : isR c = true) : rt (doT t c) := by
  have hs := rt_sides h
  obtain ⟨k, a, b, r⟩ := c
  have hc' := (isC_iff k a b r).1 hc
  have hb := blank_may h
  obtain ⟨h0, h1, h2, h3, h4, h5⟩ := h
  have wx := fun n => wi_in n (t.w - 1) (by omega)
  have wy := fun n => wi_in n (t.h - 1) (by omega)
  unfold doT
  simp only
  by_cases c1 : k = 1
  · subst c1
    rw [if_pos rfl]
    refine tx_rt ⟨h0, h1, h2, h3, h4, h5⟩ ?_
    rcases hc' with c | c | c | c
    · exact c.2.1
    all_goals omega
  rw [if_neg c1]
  split
  · exact ⟨h0, h1, h2, h3, h4, h5⟩
  split
  · exact ⟨h0, (wx _).1, by have := (wx b).2; show wi b (t.w - 1) < t.w; omega, (wy _).1, by have := (wy a).2; show wi a (t.h - 1) < t.h; omega, fun h => by cases h⟩
  split
  · exact ⟨h0, h1, h2, (wy _).1, by have := (wy (t.y - a)).2; show wi (t.y - a) (t.h - 1) < t.h; omega, fun h => by cases h⟩
  split
  · exact ⟨h0, h1, h2, (wy _).1, by have := (wy (t.y + a)).2; show wi (t.y + a) (t.h - 1) < t.h; omega, fun h => by cases h⟩
  split
  · exact ⟨h0, (wx _).1, by have := (wx (t.x + a)).2; show wi (t.x + a) (t.w - 1) < t.w; omega, h3, h4, fun h => by cases h⟩
  split
  · exact ⟨h0, (wx _).1, by have := (wx (t.x - a)).2; show wi (t.x - a) (t.w - 1) < t.w; omega, h3, h4, fun h => by cases h⟩
  split
  · exact ⟨blankL_right hb.1, h1, h2, h3, h4, fun h => by cases h⟩
  split
  · exact ⟨blankL_right hb.2, h1, h2, h3, h4, fun h => by cases h⟩
  split
  · exact ⟨h0, by show (0 : Int) ≤ 0; omega, by show 0 < t.w; omega, h3, h4, fun h => by cases h⟩
  split
  · unfold dn
    split
    · exact ⟨scrollL_right h0, h1, h2, h3, h4, fun h => by cases h⟩
    · exact ⟨h0, h1, h2, by show 0 ≤ t.y + 1; omega, by show t.y + 1 < t.h; omega, fun h => by cases h⟩
  · exact ⟨h0, (wx _).1, by have := (wx (t.x - 1)).2; show wi (t.x - 1) (t.w - 1) < t.w; omega, h3, h4, fun h => by cases h⟩
/-- Bytes that are fed: what becomes of it by all commands. -/
def feedT (t : Trm) (l : List Cmd) : Trm := l.foldl doT t
theorem feed_append (t : Trm) (l m : List Cmd) : feedT t (l ++ m) = feedT (feedT t l) m := by unfold feedT; rw [List.foldl_append]
theorem feed_rt {t : Trm} (h : rt t) : ∀ l : List Cmd, (∀ c ∈ l, isR c = true) → rt (feedT t l)
  | [], _ => h
  | c :: l, hl => feed_rt (t := doT t c) (do_rt h (hl c (by simp))) l (fun d hd => hl d (by simp [hd]))
/-- A new terminal, and one of other sides. -/
def nwT (w h : Int) : Trm := ⟨w, h, newL w h, 0, 0, false⟩
def szT (t : Trm) (w h : Int) : Trm := ⟨w, h, fitV t.w t.h t.l w h, wi t.x (w - 1), wi t.y (h - 1), false⟩
theorem nw_rt {w h : Int} (hs : sidesB w h = true) : rt (nwT w h) := by
  have hr := newL_right hs
  have := hr.1
  exact ⟨hr, by show (0 : Int) ≤ 0; omega, by show 0 < w; omega, by show (0 : Int) ≤ 0; omega, by show 0 < h; omega, fun h => by cases h⟩
theorem sz_rt {t : Trm} {w h : Int} (ht : rt t) (hs : sidesB w h = true) : rt (szT t w h) := by
  have hf : fitB t.w t.h t.l w h = true := by unfold fitB; rw [decide_eq_true ht.1, hs]; rfl
  have hr := fitV_right hf
  have h1 := hr.1
  have wx := wi_in t.x (w - 1) (by omega)
  have wy := wi_in t.y (h - 1) (by omega)
  exact ⟨hr, wx.1, by show wi t.x (w - 1) < w; omega, wy.1, by show wi t.y (h - 1) < h; omega, fun h => by cases h⟩
/-- A move changes no cell, and leads where a going would lead. -/
def movesB (t : Trm) (k : Int) : Bool := decide (3 ≤ k ∧ k ≤ 6 ∨ k = 9 ∨ k = 11 ∨ k = 10 ∧ t.y < t.h - 1)
theorem move_go {t : Trm} {c : Cmd} (h : rt t) (hc : isR c = true) (hm : movesB t c.1 = true) : doT t (2, (doT t c).y, (doT t c).x, 0) = doT t c ∧ (doT t c).l = t.l ∧ (doT t c).w = t.w ∧ (doT t c).h = t.h ∧ isR (2, (doT t c).y, (doT t c).x, 0) = true := by
  have hs := rt_sides h
  have hr := do_rt h hc
  obtain ⟨k, a, b, r⟩ := c
  unfold movesB at hm
  rw [decide_eq_true_iff] at hm
  simp only at hm
  have key : (doT t (k, a, b, r)).l = t.l ∧ (doT t (k, a, b, r)).w = t.w ∧ (doT t (k, a, b, r)).h = t.h ∧ (doT t (k, a, b, r)).k = false := by
    rcases (show k = 3 ∨ k = 4 ∨ k = 5 ∨ k = 6 ∨ k = 9 ∨ k = 11 ∨ k = 10 ∧ t.y < t.h - 1 by omega) with rfl | rfl | rfl | rfl | rfl | rfl | ⟨rfl, hy⟩
    all_goals first | exact ⟨rfl, rfl, rfl, rfl⟩ | skip
    have e : doT t (10, a, b, r) = { dn t with k := false } := rfl
    rw [e]
    unfold dn
    rw [if_neg (by omega)]
    exact ⟨rfl, rfl, rfl, rfl⟩
  generalize doT t (k, a, b, r) = u at *
  obtain ⟨k1, k2, k3, k4⟩ := key
  obtain ⟨-, r1, r2, r3, r4, -⟩ := hr
  rw [k2] at r2
  rw [k3] at r4
  have y23 : u.y ≤ 23 := by omega
  have x79 : u.x ≤ 79 := by omega
  refine ⟨?_, k1, k2, k3, (isC_iff 2 _ _ 0).2 (.inr (.inl ⟨rfl, r3, y23, r1, x79, rfl⟩))⟩
  clear y23 x79
  obtain ⟨uw, uh, ul, ux, uy, uk⟩ := u
  simp only at k1 k2 k3 k4 r1 r2 r3 r4 ⊢
  subst k1 k2 k3 k4
  unfold doT
  dsimp only
  rw [if_neg (by decide), if_neg (by decide), if_pos rfl, wi_id _ _ (by omega), wi_id _ _ (by omega)]
/-! As many signs of one cell as there are cells. -/
/-- The cells behind so many. -/
def fillL (W H : Nat) (r : Int) : Nat → List (Int × Int)
  | 0 => newL W H
  | i + 1 => putL W (fillL W H r i) ((i % W : Nat) : Int) ((i / W : Nat) : Int) r
def fillT (W H : Nat) (r : Int) : Nat → Trm
  | 0 => nwT W H
  | i + 1 => ⟨W, H, fillL W H r (i + 1), if i % W + 1 = W then (W : Int) - 1 else ((i % W : Nat) : Int) + 1, ((i / W : Nat) : Int), decide (i % W + 1 = W)⟩
theorem fillT_succ (W H : Nat) (r : Int) (i : Nat) : fillT W H r (i + 1) = ⟨W, H, fillL W H r (i + 1), if i % W + 1 = W then (W : Int) - 1 else ((i % W : Nat) : Int) + 1, ((i / W : Nat) : Int), decide (i % W + 1 = W)⟩ := rfl
theorem div_next {W i : Nat} (hW : 0 < W) (h : (i % W) + 1 = W) : (i + 1) / W = i / W + 1 ∧ (i + 1) % W = 0 := by
  have e : i + 1 = (i / W + 1) * W := by
    have := Nat.div_add_mod i W
    rw [Nat.add_mul, Nat.one_mul, Nat.mul_comm (i / W) W]; omega
  rw [e]
  exact ⟨Nat.mul_div_cancel _ hW, Nat.mul_mod_left _ _⟩
theorem div_same {W i : Nat} (hW : 0 < W) (h : (i % W) + 1 ≠ W) : (i + 1) / W = i / W ∧ (i + 1) % W = i % W + 1 := by
  have hm := mod_succ hW h
  refine ⟨?_, hm⟩
  have h1 := Nat.div_add_mod i W
  have h2 := Nat.div_add_mod (i + 1) W
  rw [hm] at h2
  have : W * ((i + 1) / W) = W * (i / W) := by omega
  exact Nat.eq_of_mul_eq_mul_left hW this
theorem fill_next (W H : Nat) (r : Int) (hW : 2 ≤ W) (hr : wd' r = 1) (i : Nat) (hi : i < W * H) : tx (fillT W H r i) r = fillT W H r (i + 1) := by
  have hW0 : 0 < W := by omega
  have hd : i / W < H := Nat.div_lt_of_lt_mul hi
  have hmw := Nat.mod_lt i hW0
  have adv_at : ∀ (l : List (Int × Int)) (y : Nat) (k : Bool), l = fillL W H r i → y = i / W → adv ⟨W, H, l, ((i % W : Nat) : Int), (y : Int), k⟩ r = fillT W H r (i + 1) := by
    rintro l y k rfl rfl
    unfold adv
    simp only
    rw [hr]
    by_cases he : i % W + 1 = W
    · rw [if_pos (by omega), fillT_succ, if_pos he, decide_eq_true he]
      rfl
    · rw [if_neg (by omega), fillT_succ, if_neg he, decide_eq_false he]
      rfl
  cases i with
  | zero =>
    unfold tx rowed
    rw [if_neg]
    · have := adv_at (newL W H) 0 false rfl (by simp)
      rw [← this]
      simp [fillT, nwT]
    · simp only [fillT, nwT]
      rw [hr]
      rintro (h | h)
      · cases h
      · omega
  | succ i =>
    have hmi := Nat.mod_lt i hW0
    unfold tx rowed
    by_cases he : i % W + 1 = W
    · obtain ⟨d1, d2⟩ := div_next hW0 he
      rw [if_pos (.inl (by show decide (i % W + 1 = W) = true; rw [decide_eq_true he]))]
      unfold dn
      rw [if_neg (by show ¬ ((i / W : Nat) : Int) = (H : Int) - 1; omega)]
      have := adv_at (fillL W H r (i + 1)) (i / W + 1) (decide (i % W + 1 = W)) rfl d1.symm
      rw [← this, d2]
      simp [fillT]
    · obtain ⟨d1, d2⟩ := div_same hW0 he
      rw [if_neg]
      · have := adv_at (fillL W H r (i + 1)) (i / W) (decide (i % W + 1 = W)) rfl d1.symm
        rw [← this, d2]
        simp [fillT, he]
      · rw [hr]
        simp only [fillT]
        rw [decide_eq_false he, if_neg he]
        rintro (h | h)
        · cases h
        · omega
/-- The place of each, and that it may be put. -/
theorem fill_rt (W H : Nat) (r : Int) (hs : sidesB W H = true) (hsh : shw r = true) (hr : wd' r = 1) : ∀ i, i ≤ W * H → rt (fillT W H r i)
  | 0, _ => nw_rt hs
  | i + 1, hi => by
    have h2 : 2 ≤ W := by unfold sidesB at hs; rw [decide_eq_true_iff] at hs; omega
    rw [← fill_next W H r h2 hr i (by omega)]
    exact tx_rt (fill_rt W H r hs hsh hr i (by omega)) hsh
theorem fill_may (W H : Nat) (r : Int) (hs : sidesB W H = true) (hsh : shw r = true) (hr : wd' r = 1) (i : Nat) (hi : i < W * H) : putB W H (fillL W H r i) ((i % W : Nat) : Int) ((i / W : Nat) : Int) r = true := by
  have h2 : 2 ≤ W := by unfold sidesB at hs; rw [decide_eq_true_iff] at hs; omega
  have hd : i / W < H := Nat.div_lt_of_lt_mul hi
  have hm := Nat.mod_lt i (show 0 < W by omega)
  have hR : right W H (fillL W H r i) := by
    have := (fill_rt W H r hs hsh hr i (by omega)).1
    cases i <;> exact this
  have : rt ⟨W, H, fillL W H r i, ((i % W : Nat) : Int), ((i / W : Nat) : Int), false⟩ := ⟨hR, Int.natCast_nonneg _, Int.ofNat_lt.2 hm, Int.natCast_nonneg _, Int.ofNat_lt.2 hd, fun h => by cases h⟩
  exact put_may this hsh (by show ((i % W : Nat) : Int) + wd' r ≤ (W : Int); rw [hr]; have := Int.ofNat_lt.2 hm; omega)
end Tm
namespace Vt
theorem bad_app {r b : ByteArray} (h : Bad r) : Bad (r ++ b) := by
  obtain ⟨h0, h1, h2⟩ := h
  refine ⟨by rw [size_app]; omega, fun d t hd he => ?_, fun d t hd he => ?_⟩
  · by_cases hz : (btC d).size ≤ r.size
    · obtain ⟨z, hz1, _⟩ := app_cut r b (btC d) t he hz
      exact h1 d z hd hz1
    · obtain ⟨z, hz1, _⟩ := app_cut (btC d) t r b he.symm (by omega)
      exact h2 d z hd hz1
  · rw [app_assoc] at he
    exact h2 d _ hd he
/-- What is spoiled stays so. -/
theorem AllBad.app {a : ByteArray} (h : AllBad a) (b : ByteArray) : AllBad (a ++ b) := by
  obtain ⟨l, r, hl, hs, hb⟩ := h
  exact ⟨l, r ++ b, hl, by rw [hs, app_assoc], bad_app hb⟩
/-- What stands behind a front that was scanned. -/
theorem AllR.front {a : ByteArray} {l : List Cmd} {x : ByteArray} (h : AllR a l x) (b : ByteArray) : (∀ {m : List Cmd} {y : ByteArray}, AllR (x ++ b) m y → AllR (a ++ b) (l ++ m) y) ∧ (AllBad (x ++ b) → AllBad (a ++ b)) := by
  have e : a ++ b = btsL l ++ (x ++ b) := by rw [h.2.1, app_assoc]
  rw [e]
  exact ⟨fun h' => h'.ahead h.1, fun h' => h'.ahead h.1⟩
end Vt
end Go.Proofs.YtcakklafjfobeaaDoor
