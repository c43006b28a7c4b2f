/- The walk of VtSums at rows of at most 1000 commands each. Condition: the table of the kinds with one form as the program lays it. -/
import Derived.Test.YtmgckdicccpfoaaDoorVtM
import Derived.Deep.RegionWith
set_option linter.unusedVariables false
namespace Go.Proofs.YtmgckdicccpfoaaDoor
open Go.RowKit Go.PlainAid Gl L Vt
theorem Tryd.info23 : (Tryd.prog.info? 23).map (fun i => (i.zero, i.size, i.bytes)) = some (some (.agg #[.int .i64 0, .int .i64 0, .int .i64 0, .int .i32 0]), 4, 32) := by kernel_rfl
namespace Vt
/-- What lasts: the table, the three rows, and all that was there. -/
def Hs (W : World) (va vb vl : Value) (p q l : List Cmd) (w' : World) : Prop := Forms w' 0 ∧ Rw w' va 4 p.length (flatC p) ∧ Rw w' vb 4 q.length (flatC q) ∧ Rw w' vl 4 l.length (flatC l) ∧ Below W.heap.size W w'
theorem Hs.below {W : World} {va vb vl : Value} {p q l : List Cmd} {w1 w2 : World} (h : Hs W va vb vl p q l w1) (hb : Below w1.heap.size w1 w2) : Hs W va vb vl p q l w2 :=
  ⟨h.1.below hb, h.2.1.below hb, h.2.2.1.below hb, h.2.2.2.1.below hb, h.2.2.2.2.trans (hb.mono h.2.2.2.2.size)⟩
theorem Hs.drew {W : World} {va vb vl : Value} {p q l : List Cmd} {w1 : World} (h : Hs W va vb vl p q l w1) : Hs W va vb vl p q l w1.drew := h.below ((Below.refl _ _).drew)
theorem Hs.alloc {W : World} {va vb vl : Value} {p q l : List Cmd} {w1 : World} (h : Hs W va vb vl p q l w1) (o : Obj) : Hs W va vb vl p q l (w1.alloc o) := h.below ((Below.refl _ _).alloc (Nat.le_refl _) o)
theorem Hs.start {P : Program} {F : Nat} {args : Array Value} {Q : Ending → World → Prop} {W : World} {va vb vl : Value} {p q l : List Cmd} {w1 : World} (h : Hs W va vb vl p q l w1) (H : Hs W va vb vl p q l w1 → Calls P F args w1 Q) : Calls P F args w1 Q := H h
theorem Hs.ex {W : World} {va vb vl : Value} {p q l : List Cmd} {w1 : World} (h : Hs W va vb vl p q l w1) : Calls Tryd.prog 10 #[] w1 fun e w' => e = .returned (.bool true) ∧ Hs W va vb vl p q l w' ∧ Below w1.heap.size w1 w' :=
  (ex_any w1 h.1).mono fun e w' ⟨he, hb⟩ => ⟨he, h.below hb, hb⟩
theorem Hs.cost {W : World} {va vb vl : Value} {p q l : List Cmd} {w1 : World} (h : Hs W va vb vl p q l w1) {v : Value} {m : List Cmd} (hr : Rw w1 v 4 m.length (flatC m)) (hm : m.length ≤ 100000) : Calls Tryd.prog 13 #[v] w1 fun e w' => e = .returned (.int .i64 (costL m)) ∧ Hs W va vb vl p q l w' ∧ Below w1.heap.size w1 w' :=
  (vcost_any v m w1 h.1 hr hm).mono fun e w' ⟨he, hb⟩ => ⟨he, h.below hb, hb⟩
theorem Hs.pad {W : World} {va vb vl : Value} {p q l : List Cmd} {w1 : World} (h : Hs W va vb vl p q l w1) {v : Value} {m : List Cmd} (hr : Rw w1 v 4 m.length (flatC m)) (hm : m.length ≤ 100000) : Calls Tryd.prog 15 #[v] w1 fun e w' => e = .returned (.int .i64 (padL m)) ∧ Hs W va vb vl p q l w' ∧ Below w1.heap.size w1 w' :=
  (vpads_any v m w1 h.1 hr hm).mono fun e w' ⟨he, hb⟩ => ⟨he, h.below hb, hb⟩
end Vt
set_option maxHeartbeats 40000000 in
theorem sums_core (va vb : Value) (p q : List Cmd) (k a b r : Int) (w : World) (hp : Rw w va 4 p.length (flatC p)) (hq : Rw w vb 4 q.length (flatC q)) (hl1 : p.length ≤ 1000) (hl2 : q.length ≤ 1000) (F : Forms w 0) :
    Calls Tryd.prog 7 #[va, vb, .agg #[.int .i64 k, .int .i64 a, .int .i64 b, .int .i32 r]] w fun e w' => e = .returned (.bool true) ∧ Below w.heap.size w w' := by
  obtain ⟨i0, hi, hz0, hz1, hz2⟩ := info_parts Tryd.info23
  obtain ⟨A, capa, rfl⟩ : ∃ A cap, va = .slice A p.length cap := by obtain ⟨_, A, cap, e, _⟩ := hp; exact ⟨A, cap, e⟩
  obtain ⟨B, capb, rfl⟩ : ∃ A cap, vb = .slice A q.length cap := by obtain ⟨_, A, cap, e, _⟩ := hq; exact ⟨A, cap, e⟩
  have d1 : decide ((1000 : Int) < (p.length : Int)) = false := decide_eq_false (by omega)
  have d2 : decide ((1000 : Int) < (q.length : Int)) = false := decide_eq_false (by omega)
  generalize hW : w.alloc (.cells #[.int .i64 k, .int .i64 a, .int .i64 b, .int .i32 r] 23) = W
  have hbW : Below w.heap.size w W := by rw [← hW]; exact (Below.refl _ _).alloc (Nat.le_refl _) _
  have hnW : w.heap.size < W.heap.size := by rw [← hW]; simp
  have x0 : W.cell? ⟨w.heap.size, 0, none⟩ = some (.int .i64 k) := by rw [← hW]; simp
  have x1 : W.cell? ⟨w.heap.size, 1, none⟩ = some (.int .i64 a) := by rw [← hW]; simp
  have x2 : W.cell? ⟨w.heap.size, 2, none⟩ = some (.int .i64 b) := by rw [← hW]; simp
  have x3 : W.cell? ⟨w.heap.size, 3, none⟩ = some (.int .i32 r) := by rw [← hW]; simp
  have hown0 := World.ownsRow_made (e := 23) (size := 4) W #[] 0 (Nat.le_refl _) (by decide) (by simp)
  have hb0 : Below W.heap.size W (W.alloc (.cells #[] 23)) := (Below.refl _ _).alloc (Nat.le_refl _) _
  have hp0 := (hp.below hbW).below hb0
  have hpW := hp.below hbW
  have hqW := hq.below hbW
  have FW := F.below hbW
  clear hp hq F
  go_enter Tryd.func7, Tryd.ntmps7
  go_wp2_with (at_builtin; refine wpList_append_rw rfl (.tmp 19) (.tmp 20) 29 rfl W.heap.size 23 i0 _ 4 32 Tryd.underlying29 hi hz0 hz1 hz2 rfl (by decide) _ _ _ rfl hown0 _ _ _ rfl hp0 (flatC_one _) ?c2 ?c3 ?c4 ?_)
  case c2 => unfold maxLen; omega
  case c3 => omega
  case c4 => exact hb0.size
  intro v1 w1 hown1 hg1 _
  have hw1 := Below.of_grown hb0 hown0 hg1 hb0.size (Nat.le_refl _)
  have hc1 := old_cell hw1
  have hr1 := row_lit4 w1 #[.int .i64 k, .int .i64 a, .int .i64 b, .int .i32 r] 23 [(k, a, b, r)] rfl 1
  have hb1 : Below W.heap.size W (w1.alloc (.cells #[.int .i64 k, .int .i64 a, .int .i64 b, .int .i32 r] 23)) := hw1.alloc hw1.size _
  have hown1' := ownsRow_below hown1 (show Below w1.heap.size w1 (w1.alloc (.cells #[.int .i64 k, .int .i64 a, .int .i64 b, .int .i32 r] 23)) from (Below.refl _ _).alloc (Nat.le_refl _) _)
  go_wp2_with (at_builtin; refine wpList_append_rw rfl (.tmp 22) (.tmp 24) 29 rfl W.heap.size 23 i0 _ 4 32 Tryd.underlying29 hi hz0 hz1 hz2 rfl (by decide) _ _ _ rfl hown1' _ _ _ rfl hr1 (flatC_one _) ?e2 ?e3 ?e4 ?_)
  case e2 => unfold maxLen; (try simp); omega
  case e3 => (try simp); omega
  case e4 => exact hb1.size
  intro v2 w2 hown2 hg2 _
  have hw2 := Below.of_grown hb1 hown1' hg2 hb1.size (Nat.le_refl _)
  have hq2 := hqW.below hw2
  go_wp2_with (at_builtin; refine wpList_append_rw rfl (.tmp 26) (.tmp 27) 29 rfl W.heap.size 23 i0 _ 4 32 Tryd.underlying29 hi hz0 hz1 hz2 rfl (by decide) _ _ _ rfl hown2 _ _ _ rfl hq2 (flatC_one _) ?g2 ?g3 ?g4 ?_)
  case g2 => unfold maxLen; (try simp); omega
  case g3 => (try simp); omega
  case g4 => exact hw2.size
  intro vl w3 hown3 hg3 _
  have hw3 := Below.of_grown hw2 hown2 hg3 hw2.size (Nat.le_refl _)
  have hrl : Rw w3 vl 4 (p ++ [(k, a, b, r)] ++ q).length (flatC (p ++ [(k, a, b, r)] ++ q)) := by
    have := Rw.of_owns hown3
    simp only [List.length_append, flatC_append]
    simpa using this
  have hS : Hs W (.slice A p.length capa) (.slice B q.length capb) vl p q (p ++ [(k, a, b, r)] ++ q) w3 := ⟨FW.below hw3, hpW.below hw3, hqW.below hw3, hrl, hw3⟩
  clear hc1 hr1 hb1 hown1 hown1' hg1 hown2 hg2 hq2 hw1 hw2 hown3 hg3 hrl hp0 hown0 hb0
  have hc3 := old_cell hw3
  have HS := Lib.hid hS
  clear hS
  go_wp2_with fail
  refine (vput_any _ _ _ _ _ HS.out.1).mono ?_
  rintro e w4 ⟨rfl, hw4⟩
  unfold pv
  have HS4 := Lib.hid (HS.out.below hw4)
  have h4 := hw3.trans (hw4.mono hw3.size)
  clear hc3
  have hc4 := old_cell h4
  have hrow : costL (p ++ [(k, a, b, r)] ++ q) = costL p + (bts k a b r).size + costL q := by
    rw [costL_append, costL_append]; rfl
  have hpad : padL (p ++ [(k, a, b, r)] ++ q) = padL p + padL [(k, a, b, r)] + padL q := by
    rw [padL_append, padL_append]
  have hlen : (p ++ [(k, a, b, r)] ++ q).length ≤ 100000 := by simp; omega
  have z1 := bts_size k a b r
  have z2 := costL_bd p
  have z3 := costL_bd q
  have z4 := padL_bd p
  have z5 := padL_bd q
  have z6 : 0 ≤ padL [(k, a, b, r)] ∧ padL [(k, a, b, r)] ≤ 2 := by
    have := padL_bd [(k, a, b, r)]; simpa using this
  go_wp2
  have hlp : p.length ≤ 100000 := by omega
  have hlq : q.length ≤ 100000 := by omega
  have hlc : [(k, a, b, r)].length ≤ 100000 := by simp
  generalize bts k a b r = S at *
  generalize err k a b r = E at *
  generalize p ++ [(k, a, b, r)] ++ q = l at *
  have hH := HS4
  clear HS HS4
  have hcz := old_cell hH.out.2.2.2.2
  clear hc4 h4 hw4 hw3 hpW hqW FW
  have hB1 : (((costL l : Nat) : Int) == (costL p : Int) + (S.size : Int) + (costL q : Int)) = true := by rw [hrow]; simp
  have hB2 : (padL l == padL p + padL [(k, a, b, r)] + padL q) = true := by rw [hpad]; simp
  have q1 := IntWalk.i64_in ((costL p : Int) + (S.size : Int)) (by omega)
  have q2 := IntWalk.i64_in ((costL p : Int) + (S.size : Int) + (costL q : Int)) (by omega)
  have q3 := IntWalk.i64_in (padL p + padL [(k, a, b, r)]) (by omega)
  have q4 := IntWalk.i64_in (padL p + padL [(k, a, b, r)] + padL q) (by omega)
  have b1 : decide (0 ≤ padL [(k, a, b, r)]) = true := decide_eq_true z6.1
  have b2 : decide (padL [(k, a, b, r)] ≤ 2) = true := decide_eq_true z6.2
  clear hrow hpad z2 z3 z4 z5 z6
  go_region_with (first
      | (go_at_call 10; refine Hs.start (by first | exact hH.out | exact hH.out.drew | exact hH.out.alloc _ | exact hH.out.drew.alloc _ | exact (hH.out.alloc _).alloc _) ?_; intro hX; refine (Hs.ex hX).mono ?_; rintro e wz ⟨rfl, hG, hbz⟩; clear hcz hH hX; have hcz := old_cell hG.2.2.2.2; have hH := Lib.hid hG; clear hG)
      | (go_at_call 13; refine Hs.start (by first | exact hH.out | exact hH.out.drew | exact hH.out.alloc _ | exact hH.out.drew.alloc _ | exact (hH.out.alloc _).alloc _) ?_; intro hX; refine (Hs.cost hX (by first | exact hX.2.1 | exact hX.2.2.1 | exact hX.2.2.2.1 | exact row_lit4 _ _ 23 [(k, a, b, r)] rfl 1 | exact (row_lit4 _ _ 23 [(k, a, b, r)] rfl 1).below (by assumption) | exact ((row_lit4 _ _ 23 [(k, a, b, r)] rfl 1).below (by assumption)).below (by assumption) | exact (((row_lit4 _ _ 23 [(k, a, b, r)] rfl 1).below (by assumption)).below (by assumption)).below (by assumption)) (by first | exact hlen | exact hlp | exact hlq | exact hlc)).mono ?_; rintro e wz ⟨rfl, hG, hbz⟩; clear hcz hH hX; have hcz := old_cell hG.2.2.2.2; have hH := Lib.hid hG; clear hG)
      | (go_at_call 15; refine Hs.start (by first | exact hH.out | exact hH.out.drew | exact hH.out.alloc _ | exact hH.out.drew.alloc _ | exact (hH.out.alloc _).alloc _) ?_; intro hX; refine (Hs.pad hX (by first | exact hX.2.1 | exact hX.2.2.1 | exact hX.2.2.2.1 | exact row_lit4 _ _ 23 [(k, a, b, r)] rfl 1 | exact (row_lit4 _ _ 23 [(k, a, b, r)] rfl 1).below (by assumption) | exact ((row_lit4 _ _ 23 [(k, a, b, r)] rfl 1).below (by assumption)).below (by assumption) | exact (((row_lit4 _ _ 23 [(k, a, b, r)] rfl 1).below (by assumption)).below (by assumption)).below (by assumption)) (by first | exact hlen | exact hlp | exact hlq | exact hlc)).mono ?_; rintro e wz ⟨rfl, hG, hbz⟩; clear hcz hH hX; have hcz := old_cell hG.2.2.2.2; have hH := Lib.hid hG; clear hG))
  all_goals go_wp2
  all_goals go_ret
  all_goals exact ⟨rfl, hbW.trans (hH.out.2.2.2.2.mono hbW.size)⟩
end Go.Proofs.YtmgckdicccpfoaaDoor
