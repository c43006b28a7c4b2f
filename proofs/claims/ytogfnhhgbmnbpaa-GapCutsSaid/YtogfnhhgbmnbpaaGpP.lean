/- Lines with a point in plain mathematics: which are right, what is put in, cut, and where the point goes. -/
import Derived.Test.YtogfnhhgbmnbpaaMGp
set_option linter.unusedVariables false
namespace Go.Proofs.Ytogfnhhgbmnbpaa
open Go.RowKit Gl L
namespace Gp
/-- A line: the signs ahead of its point, and behind it. -/
abbrev Ln := List Int × List Int
/-- Are all of them signs? -/
def al (l : List Int) : Bool := l.all fun x => vld x
theorem al_app (l m : List Int) : al (l ++ m) = (al l && al m) := List.all_append
theorem al_take (l : List Int) (n : Nat) (h : al l = true) : al (l.take n) = true := by
  unfold al at h ⊢
  rw [List.all_eq_true] at h ⊢
  exact fun x hx => h x (List.mem_of_mem_take hx)
theorem al_drop (l : List Int) (n : Nat) (h : al l = true) : al (l.drop n) = true := by
  unfold al at h ⊢
  rw [List.all_eq_true] at h ⊢
  exact fun x hx => h x (List.mem_of_mem_drop hx)
/-- Is it right? -/
def rt (g : Ln) : Bool := decide (g.1.length + g.2.length ≤ 200) && (al g.1 && al g.2)
theorem rt_iff (g : Ln) : rt g = true ↔ g.1.length + g.2.length ≤ 200 ∧ al g.1 = true ∧ al g.2 = true := by unfold rt; simp
/-- Its text. -/
def txt (g : Ln) : List Int := g.1 ++ g.2
theorem txt_len (g : Ln) : (txt g).length = g.1.length + g.2.length := List.length_append
theorem rt_txt (g : Ln) (h : rt g = true) : al (txt g) = true ∧ (txt g).length ≤ 200 := by
  obtain ⟨h1, h2, h3⟩ := (rt_iff g).1 h
  exact ⟨by unfold txt; rw [al_app, h2, h3]; rfl, by rw [txt_len]; exact h1⟩
/-- A text with its point somewhere. -/
def at' (l : List Int) (n : Nat) : Ln := (l.take n, l.drop n)
theorem at_txt (l : List Int) (n : Nat) : txt (at' l n) = l := List.take_append_drop n l
theorem at_rt (l : List Int) (n : Nat) (h : al l = true) (hz : l.length ≤ 200) : rt (at' l n) = true := by
  refine (rt_iff _).2 ⟨?_, al_take _ _ h, al_drop _ _ h⟩
  rw [← txt_len, at_txt]; exact hz
/-- Of. -/
def ofE (l : List Int) (n : Int) : Int := if al l = true ∧ 0 ≤ n ∧ n ≤ l.length then (if 200 < l.length then 5 else 0) else 1
def ofV (l : List Int) (n : Int) : Ln := if ofE l n = 0 then at' l n.toNat else ([], [])
/-- Insert. -/
def inE (g : Ln) (l : List Int) : Int := if rt g = true ∧ al l = true then (if 200 < g.1.length + g.2.length + l.length then 5 else 0) else 1
def inV (g : Ln) (l : List Int) : Ln := if inE g l = 0 then (g.1 ++ l, g.2) else ([], [])
theorem in_ok {g : Ln} {l : List Int} (h : inE g l = 0) : rt g = true ∧ al l = true ∧ g.1.length + g.2.length + l.length ≤ 200 ∧ inV g l = (g.1 ++ l, g.2) := by
  refine ⟨?_, ?_, ?_, if_pos h⟩ <;> unfold inE at h <;> split at h
  · exact (‹rt g = true ∧ al l = true›).1
  · cases h
  · exact (‹rt g = true ∧ al l = true›).2
  · cases h
  · split at h
    · cases h
    · omega
  · cases h
theorem in_no {g : Ln} {l : List Int} (h : inE g l ≠ 0) : inV g l = ([], []) := if_neg h
theorem in_yes {g : Ln} {l : List Int} (hg : rt g = true) (hl : al l = true) (hz : g.1.length + g.2.length + l.length ≤ 200) : inE g l = 0 ∧ inV g l = (g.1 ++ l, g.2) := by
  have h : inE g l = 0 := by unfold inE; rw [if_pos ⟨hg, hl⟩, if_neg (by omega)]
  exact ⟨h, if_pos h⟩
theorem in_rt {g : Ln} {l : List Int} (h : inE g l = 0) : rt (inV g l) = true ∧ (txt (inV g l)).length = (txt g).length + l.length := by
  obtain ⟨h1, h2, h3, h4⟩ := in_ok h
  obtain ⟨g1, g2, g3⟩ := (rt_iff g).1 h1
  rw [h4]
  refine ⟨(rt_iff _).2 ⟨?_, ?_, g3⟩, ?_⟩
  · show (g.1 ++ l).length + g.2.length ≤ 200
    rw [List.length_append]; omega
  · show al (g.1 ++ l) = true
    rw [al_app, g2, h2]; rfl
  · rw [txt_len, txt_len]
    show (g.1 ++ l).length + g.2.length = _
    rw [List.length_append]; omega
theorem in_full {g : Ln} {l : List Int} (h : rt g = true) : inE g l = 5 ↔ (200 < (txt g).length + l.length ∧ al l = true) := by
  rw [txt_len]
  unfold inE
  cases hl : al l
  · simp
  · rw [if_pos ⟨h, rfl⟩]
    split
    · simp; omega
    · simp; omega
/-- Cut: how many stay ahead, and go behind. -/
def keep (g : Ln) (n : Int) : Nat := if 0 < n then g.1.length else ((g.1.length : Int) + n).toNat
def gone (g : Ln) (n : Int) : Nat := if 0 < n then (if (g.2.length : Int) < n then g.2.length else n.toNat) else 0
def cuV (g : Ln) (n : Int) : Ln := if rt g = true then (g.1.take (keep g n), g.2.drop (gone g n)) else g
def cuL (g : Ln) (n : Int) : List Int := if rt g = true then g.1.drop (keep g n) ++ g.2.take (gone g n) else []
theorem keep_le (g : Ln) (n : Int) : keep g n ≤ g.1.length := by unfold keep; split <;> omega
theorem gone_le (g : Ln) (n : Int) : gone g n ≤ g.2.length := by unfold gone; split <;> (try split) <;> omega
theorem cu_yes {g : Ln} {n : Int} (h : rt g = true) : cuV g n = (g.1.take (keep g n), g.2.drop (gone g n)) ∧ cuL g n = g.1.drop (keep g n) ++ g.2.take (gone g n) := ⟨if_pos h, if_pos h⟩
theorem cu_ahead {g : Ln} {n : Int} (h : rt g = true) (hn : 0 < n) : cuV g n = (g.1, g.2.drop (gone g n)) ∧ cuL g n = g.2.take (gone g n) := by
  obtain ⟨h1, h2⟩ := cu_yes (n := n) h
  have e : keep g n = g.1.length := if_pos hn
  rw [h1, h2, e, List.take_length, List.drop_length]
  exact ⟨rfl, rfl⟩
theorem cu_behind {g : Ln} {n : Int} (h : rt g = true) (hn : n ≤ 0) : cuV g n = (g.1.take (keep g n), g.2) ∧ cuL g n = g.1.drop (keep g n) := by
  obtain ⟨h1, h2⟩ := cu_yes (n := n) h
  have e : gone g n = 0 := if_neg (by omega)
  rw [h1, h2, e, List.drop_zero, List.take_zero, List.append_nil]
  exact ⟨rfl, rfl⟩
theorem cu_rt {g : Ln} {n : Int} (h : rt g = true) : rt (cuV g n) = true ∧ (txt (cuV g n)).length + (cuL g n).length = (txt g).length ∧ al (cuL g n) = true := by
  obtain ⟨g1, g2, g3⟩ := (rt_iff g).1 h
  have k1 := keep_le g n
  have k2 := gone_le g n
  obtain ⟨h1, h2⟩ := cu_yes (n := n) h
  rw [h1, h2]
  refine ⟨(rt_iff _).2 ⟨?_, al_take _ _ g2, al_drop _ _ g3⟩, ?_, ?_⟩
  · show (g.1.take (keep g n)).length + (g.2.drop (gone g n)).length ≤ 200
    rw [List.length_take, List.length_drop]; omega
  · rw [txt_len, txt_len]
    show (g.1.take (keep g n)).length + (g.2.drop (gone g n)).length + (g.1.drop (keep g n) ++ g.2.take (gone g n)).length = _
    rw [List.length_append, List.length_take, List.length_drop, List.length_drop, List.length_take]; omega
  · rw [al_app, al_drop _ _ g2, al_take _ _ g3]; rfl
/-- The nearest of 0 to m. -/
def wi (n : Int) (m : Nat) : Nat := if n < 0 then 0 else if (m : Int) < n then m else n.toNat
theorem wi_le (n : Int) (m : Nat) : wi n m ≤ m := by unfold wi; split <;> (try split) <;> omega
/-- Go. -/
def goV (g : Ln) (n : Int) : Ln := if rt g = true then at' (txt g) (wi n (txt g).length) else g
theorem go_rt {g : Ln} {n : Int} (h : rt g = true) : rt (goV g n) = true ∧ txt (goV g n) = txt g := by
  obtain ⟨h1, h2⟩ := rt_txt g h
  have e : goV g n = at' (txt g) (wi n (txt g).length) := if_pos h
  rw [e]
  exact ⟨at_rt _ _ h1 h2, at_txt _ _⟩
/-- What was inserted, and cut again. -/
theorem in_cut {g : Ln} {l : List Int} (h : inE g l = 0) : cuV (inV g l) (0 - (l.length : Int)) = g ∧ cuL (inV g l) (0 - (l.length : Int)) = l := by
  have hr := (in_rt h).1
  obtain ⟨h1, h2, h3, h4⟩ := in_ok h
  obtain ⟨c1, c2⟩ := cu_behind (n := 0 - (l.length : Int)) hr (by omega)
  have e : keep (inV g l) (0 - (l.length : Int)) = g.1.length := by
    unfold keep
    rw [if_neg (by omega), h4, List.length_append]; omega
  rw [c1, c2, e, h4]
  refine ⟨?_, ?_⟩
  · show ((g.1 ++ l).take g.1.length, g.2) = g
    rw [List.take_left']; rfl
  · show (g.1 ++ l).drop g.1.length = l
    rw [List.drop_left']; rfl
/-- What was cut, and inserted again. -/
theorem cut_in {g : Ln} {n : Int} (h : rt g = true) : inE (cuV g n) (cuL g n) = 0 ∧ (if 0 < n then goV (inV (cuV g n) (cuL g n)) g.1.length else inV (cuV g n) (cuL g n)) = g := by
  obtain ⟨h1, h2, h3⟩ := cu_rt (n := n) h
  obtain ⟨g1, g2, g3⟩ := (rt_iff g).1 h
  rw [txt_len, txt_len] at h2
  have hi := in_yes h1 h3 (by omega)
  refine ⟨hi.1, ?_⟩
  by_cases hn : 0 < n
  · rw [if_pos hn]
    obtain ⟨c1, c2⟩ := cu_ahead h hn
    have hr := (in_rt hi.1).1
    have e : txt (inV (cuV g n) (cuL g n)) = txt g := by
      rw [hi.2, c1, c2]
      show (g.1 ++ g.2.take (gone g n)) ++ g.2.drop (gone g n) = g.1 ++ g.2
      rw [List.append_assoc, List.take_append_drop]
    rw [show goV (inV (cuV g n) (cuL g n)) g.1.length = at' _ _ from if_pos hr, e]
    have ew : wi (g.1.length : Int) (txt g).length = g.1.length := by
      unfold wi
      rw [if_neg (by omega), txt_len, if_neg (by omega)]; omega
    rw [ew]
    show ((g.1 ++ g.2).take g.1.length, (g.1 ++ g.2).drop g.1.length) = g
    rw [List.take_left', List.drop_left'] <;> rfl
  · rw [if_neg hn, hi.2]
    obtain ⟨c1, c2⟩ := cu_behind h (show n ≤ 0 by omega)
    rw [c1, c2]
    show (g.1.take (keep g n) ++ g.1.drop (keep g n), g.2) = g
    rw [List.take_append_drop]
end Gp
end Go.Proofs.Ytogfnhhgbmnbpaa
