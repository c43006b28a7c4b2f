/- The contracts of both All, of Same, and of the statements' example. Condition: the two tables of the library laid. -/
import Derived.Test.YteafbfgmdknaeaaDoorVtT
import Derived.Test.YteafbfgmdknaeaaDoorVtK
import Derived.Test.YteafbfgmdknaeaaDoorLibC
import Derived.Test.YteafbfgmdknaeaaDoorProg
import Derived.Test.YteafbfgmdknaeaaDoorMgA
import Derived.Test.YteafbfgmdknaeaaDoorMgB
import Derived.BigQuiet
import Derived.WalkSmall
import Derived.BigGuardPart
/- Small lemmas on rows of commands that are laid, and on four made blocks. -/
set_option linter.unusedVariables false
namespace Go.Proofs.YteafbfgmdknaeaaDoor
open Go.RowKit Gl L Vt
theorem Forms.alloc {w : World} {g : Nat} (h : Forms w g) (o : Obj) : Forms (w.alloc o) g := h.below ((Below.refl _ _).alloc (Nat.le_refl _) o)
theorem bl4 {w w1 : World} {x y z u : Obj} (h : Below ((((w.alloc x).alloc y).alloc z).alloc u).heap.size ((((w.alloc x).alloc y).alloc z).alloc u) w1) : Below w.heap.size w w1 :=
  (((((Below.refl _ _).alloc (Nat.le_refl _) _).alloc (by simp) _).alloc (by simp; omega) _).alloc (by simp; omega) _).trans (h.mono (by simp; omega))
theorem row_lit4 (w : World) (cs : Array Value) (t : TypeId) (l : List Cmd) (h : cs.toList = flatC l) (cap : Nat) : Rw (w.alloc (.cells cs t)) (.slice (some ⟨w.heap.size, 0, none⟩) l.length cap) 4 l.length (flatC l) := by
  have hs : cs.size = l.length * 4 := by rw [← Array.length_toList, h, flatC_len]
  have := Rw.lit w cs t 4 l.length cap (by omega)
  rw [h, List.take_of_length_le (by rw [flatC_len]; omega)] at this
  exact this
end Go.Proofs.YteafbfgmdknaeaaDoor
/- The table's row of a command's type. -/
namespace Go.Proofs.YteafbfgmdknaeaaDoor
open Go.RowKit
theorem Tryd.info23 : (Tryd.prog.info? 23).map (fun i => (i.zero, i.size, i.bytes)) = some (some (.agg #[.int .i64 0, .int .i64 0, .int .i64 0, .int .i32 0]), 4, 32) := by kernel_rfl
end Go.Proofs.YteafbfgmdknaeaaDoor
/- The contract of scan.All. -/
set_option linter.unusedVariables false
namespace Go.Proofs.YteafbfgmdknaeaaDoor
open Go.RowKit Go.PlainAid Gl L Vt
/-- What All tells: the commands of whole bytes and what is left, or nothing. -/
def AllOut (W : World) (s : ByteArray) (e : Ending) (w' : World) : Prop :=
  (AllBad s ∧ e = .returned (.tuple #[.slice none 0 0, .string ⟨#[]⟩, .int .i64 2]) ∧ Below W.heap.size W w') ∨
  ∃ l x v, AllR s l x ∧ e = .returned (.tuple #[v, .string x, .int .i64 0]) ∧ Rw w' v 4 l.length (flatC l) ∧ Below W.heap.size W w' ∧ (v = .slice none 0 0 ∧ l.length = 0 ∨ ∃ g cap, v = .slice (some ⟨g, 0, none⟩) l.length cap ∧ l.length ≤ cap)
namespace Vt
theorem btsL_one (l : List Cmd) (h : ∀ c ∈ l, isR c = true) : l.length ≤ (btsL l).size := by
  induction l with
  | nil => simp
  | cons c l ih =>
    have := btC_one c (h c (by simp))
    have := ih (fun d hd => h d (by simp [hd]))
    rw [show btsL (c :: l) = btC c ++ btsL l from rfl, size_app, List.length_cons]; omega
/-- What of all the bytes stands ahead. -/
def Mid (s : ByteArray) (l : List Cmd) (t : ByteArray) : Prop := (∀ c ∈ l, isR c = true) ∧ s = btsL l ++ t
theorem Mid.next {s : ByteArray} {l : List Cmd} {t : ByteArray} (h : Mid s l t) : (∃ c x, nxS t = (c, x, 0) ∧ isR c = true ∧ t = btC c ++ x ∧ Mid s (l ++ [c]) x) ∨ (∃ k, nxS t = (d0, ⟨#[]⟩, k) ∧ (k = 6 ∨ k = 3) ∧ AllR s l t) ∨ nxS t = (d0, ⟨#[]⟩, 2) ∧ AllBad s := by
  obtain ⟨h1, h2⟩ := h
  rcases nxS_is t with ⟨e0, hc, ht⟩ | ⟨e0, e1, e2⟩
  · refine .inl ⟨(nxS t).1, (nxS t).2.1, by rw [← e0], hc, ht, ?_, ?_⟩
    · intro c hc'
      rcases List.mem_append.1 hc' with hc' | hc'
      · exact h1 c hc'
      · simp at hc'; rw [hc']; exact hc
    · rw [btsL_append, app_assoc, show btsL [(nxS t).1] = btC (nxS t).1 from app_nil _, ← ht]; exact h2
  · have e : nxS t = (d0, ⟨#[]⟩, (nxS t).2.2) := by rw [← e0, ← e1]
    rcases e2 with ⟨e2, h⟩ | ⟨e2, h⟩ | ⟨e2, h⟩
    · exact .inr (.inl ⟨6, by rw [e, e2], .inl rfl, h1, h2, .inl (by rw [h]; rfl)⟩)
    · exact .inr (.inl ⟨3, by rw [e, e2], .inr rfl, h1, h2, .inr h⟩)
    · exact .inr (.inr ⟨by rw [e, e2], l, t, h1, h2, h⟩)
theorem Mid.size {s : ByteArray} {l : List Cmd} {t : ByteArray} (h : Mid s l t) : l.length + t.size ≤ s.size := by
  have := btsL_one l h.1
  have := congrArg ByteArray.size h.2
  rw [size_app] at this; omega
theorem flatC_snoc (l : List Cmd) (c : Cmd) : flatC (l ++ [c]) = flatC l ++ [.int .i64 c.1, .int .i64 c.2.1, .int .i64 c.2.2.1, .int .i32 c.2.2.2] := by rw [flatC_append]; rfl
end Vt
set_option maxHeartbeats 4000000 in
theorem sall_any (s : ByteArray) (W : World) (T : Tabs W 1 2) (hs : s.size ≤ 2000000) : Calls Tryd.prog 11 #[.string s] W fun e w' => AllOut W s e w' := by
  obtain ⟨i0, hi, hz0, hz1, hz2⟩ := info_parts Tryd.info23
  have HT := Lib.hid (fun w' hb => T.below (w' := w') hb)
  clear T
  go_enter Tryd.func11, Tryd.ntmps11
  go_wp2
  go_loopw [0, 5] (fun a v wr => ∃ l t, Mid s l t ∧ a = .string t ∧ wr.ownsRow W.heap.size 23 4 v l.length (flatC l) ∧ Below W.heap.size W wr) (fun a _ _ => (match a with | .string t => t.size | _ => 0))
  case atStart => exact ⟨[], s, ⟨fun _ h => (List.not_mem_nil h).elim, by rw [show btsL [] = ⟨#[]⟩ from rfl, nil_app]⟩, rfl, World.ownsRow_nil _ _ _ _, Below.refl _ _⟩
  case round =>
    obtain ⟨l, t, hm, rfl, hown, hw⟩ := hrel
    have hz := hm.size
    have HN := Lib.hid (fun wz Tz => snext_any t wz Tz (by unfold maxLen; omega))
    rcases hm.next with ⟨c, x, e, hc, ht, hm'⟩ | ⟨k, e, hk, hA⟩ | ⟨e, hA⟩
    · rw [e] at HN
      have HM := Lib.hid hm'
      have hc1 := btC_one c hc
      have hts : x.size < t.size := by rw [ht, size_app]; omega
      clear e hm ht hm'
      go_wp2_with fail
      refine (HN.out _ (HT.out _ hw)).mono ?_
      rintro e w1 ⟨rfl, hw1⟩
      have hw' := hw.trans (hw1.mono hw.size)
      have hr1 := row_lit4 (w1.alloc (.cells #[.int .i64 c.1, .int .i64 c.2.1, .int .i64 c.2.2.1, .int .i32 c.2.2.2] 23)) #[.int .i64 c.1, .int .i64 c.2.1, .int .i64 c.2.2.1, .int .i32 c.2.2.2] 23 [c] rfl 1
      rw [show (w1.alloc (.cells #[.int .i64 c.1, .int .i64 c.2.1, .int .i64 c.2.2.1, .int .i32 c.2.2.2] 23)).heap.size = w1.heap.size + 1 by simp] at hr1
      have hb1 : Below w1.heap.size w1 ((w1.alloc (.cells #[.int .i64 c.1, .int .i64 c.2.1, .int .i64 c.2.2.1, .int .i32 c.2.2.2] 23)).alloc (.cells #[.int .i64 c.1, .int .i64 c.2.1, .int .i64 c.2.2.1, .int .i32 c.2.2.2] 23)) := ((Below.refl _ _).alloc (Nat.le_refl _) _).alloc (by simp) _
      have hown1 := ownsRow_below (ownsRow_below hown hw1) hb1
      have hw2 := hw'.trans (hb1.mono hw'.size)
      unfold vN vC
      go_wp2_with (at_builtin; refine wpList_append_rw rfl (.tmp 20) (.tmp 22) 29 rfl W.heap.size 23 i0 _ 4 32 Tryd.underlying29 hi hz0 hz1 hz2 rfl (by decide) _ _ _ rfl hown1 _ _ _ rfl hr1 (flatC_one _) ?c2 ?c3 ?c4 ?_)
      case c2 => unfold maxLen; (try simp); omega
      case c3 => (try simp); omega
      case c4 => exact hw2.size
      intro v' w2 hown' hgr _
      have hb2 := Below.of_grown hw2 hown1 hgr hw2.size (Nat.le_refl _)
      have hown2 : w2.ownsRow W.heap.size 23 4 v' (l ++ [c]).length (flatC (l ++ [c])) := by
        rw [flatC_append, List.length_append]; exact hown'
      clear hown1 hown hown' hr1 hb1 hw2 hw' hw1 hw
      go_wp2
      go_roundw
      case rel => exact ⟨l ++ [c], x, HM.out, rfl, hown2, hb2⟩
      case measure => simp; omega
    · rw [e] at HN
      clear e hm
      have HA := Lib.hid hA
      have hR := Lib.hid (Rw.of_owns hown)
      have hV := Lib.hid (Rw.form hown)
      clear hA hown
      rcases hk with rfl | rfl
      all_goals
        go_wp2_with fail
        refine (HN.out _ (HT.out _ hw)).mono ?_
        rintro e w1 ⟨rfl, hw1⟩
        unfold vN vC d0
        have HR := Lib.hid (hR.out.below hw1)
        have hw' := hw.trans (hw1.mono hw.size)
        go_wp2
        go_ret3
        refine .inr ⟨_, _, _, HA.out, rfl, HR.out.alloc _, hw'.alloc hw'.size _, hV.out⟩
    · rw [e] at HN
      clear e hm
      have HA := Lib.hid hA
      clear hA hown
      go_wp2_with fail
      refine (HN.out _ (HT.out _ hw)).mono ?_
      rintro e w1 ⟨rfl, hw1⟩
      unfold vN vC d0
      have hw' := hw.trans (hw1.mono hw.size)
      go_wp2
      go_ret3
      refine .inl ⟨HA.out, rfl, hw'.alloc hw'.size _⟩
end Go.Proofs.YteafbfgmdknaeaaDoor
/- The contract of the reference's All of commands. -/
set_option linter.unusedVariables false
namespace Go.Proofs.YteafbfgmdknaeaaDoor
open Go.RowKit Go.PlainAid Gl L Vt
set_option maxHeartbeats 4000000 in
theorem rall_any (s : ByteArray) (W : World) (hs : s.size ≤ 50000) : Calls Tryd.prog 12 #[.string s] W fun e w' => AllOut W s e w' := by
  obtain ⟨i0, hi, hz0, hz1, hz2⟩ := info_parts Tryd.info23
  have hown0 := World.ownsRow_made (e := 23) (size := 4) W #[] 0 (Nat.le_refl _) (by decide) (by simp)
  go_enter Tryd.func12, Tryd.ntmps12
  go_wp2
  go_loopw [0, 5] (fun a v wr => ∃ l t, Mid s l t ∧ a = .string t ∧ wr.ownsRow W.heap.size 23 4 v l.length (flatC l) ∧ Below W.heap.size W wr) (fun a _ _ => (match a with | .string t => t.size | _ => 0))
  case atStart => exact ⟨[], s, ⟨fun _ h => (List.not_mem_nil h).elim, by rw [show btsL [] = ⟨#[]⟩ from rfl, nil_app]⟩, rfl, hown0, (Below.refl _ _).alloc (Nat.le_refl _) _⟩
  case round =>
    obtain ⟨l, t, hm, rfl, hown, hw⟩ := hrel
    have hz := hm.size
    have HN := Lib.hid (fun wz => rnext6_any t wz (by omega))
    rcases hm.next with ⟨c, x, e, hc, ht, hm'⟩ | ⟨k, e, hk, hA⟩ | ⟨e, hA⟩
    · rw [e] at HN
      have HM := Lib.hid hm'
      have hc1 := btC_one c hc
      have hts : x.size < t.size := by rw [ht, size_app]; omega
      clear e hm ht hm'
      go_wp2_with fail
      refine (HN.out _).mono ?_
      rintro e w1 ⟨rfl, hw1⟩
      have hw' := hw.trans (hw1.mono hw.size)
      have hr1 := row_lit4 (w1.alloc (.cells #[.int .i64 c.1, .int .i64 c.2.1, .int .i64 c.2.2.1, .int .i32 c.2.2.2] 23)) #[.int .i64 c.1, .int .i64 c.2.1, .int .i64 c.2.2.1, .int .i32 c.2.2.2] 23 [c] rfl 1
      rw [show (w1.alloc (.cells #[.int .i64 c.1, .int .i64 c.2.1, .int .i64 c.2.2.1, .int .i32 c.2.2.2] 23)).heap.size = w1.heap.size + 1 by simp] at hr1
      have hb1 : Below w1.heap.size w1 ((w1.alloc (.cells #[.int .i64 c.1, .int .i64 c.2.1, .int .i64 c.2.2.1, .int .i32 c.2.2.2] 23)).alloc (.cells #[.int .i64 c.1, .int .i64 c.2.1, .int .i64 c.2.2.1, .int .i32 c.2.2.2] 23)) := ((Below.refl _ _).alloc (Nat.le_refl _) _).alloc (by simp) _
      have hown1 := ownsRow_below (ownsRow_below hown hw1) hb1
      have hw2 := hw'.trans (hb1.mono hw'.size)
      unfold vN vC
      go_wp2_with (at_builtin; refine wpList_append_rw rfl (.tmp 22) (.tmp 24) 29 rfl W.heap.size 23 i0 _ 4 32 Tryd.underlying29 hi hz0 hz1 hz2 rfl (by decide) _ _ _ rfl hown1 _ _ _ rfl hr1 (flatC_one _) ?c2 ?c3 ?c4 ?_)
      case c2 => unfold maxLen; (try simp); omega
      case c3 => (try simp); omega
      case c4 => exact hw2.size
      intro v' w2 hown' hgr _
      have hb2 := Below.of_grown hw2 hown1 hgr hw2.size (Nat.le_refl _)
      have hown2 : w2.ownsRow W.heap.size 23 4 v' (l ++ [c]).length (flatC (l ++ [c])) := by
        rw [flatC_append, List.length_append]; exact hown'
      clear hown1 hown hown' hr1 hb1 hw2 hw' hw1 hw
      go_wp2
      go_roundw
      case rel => exact ⟨l ++ [c], x, HM.out, rfl, hown2, hb2⟩
      case measure => simp; omega
    · rw [e] at HN
      clear e hm
      have HA := Lib.hid hA
      have hR := Lib.hid (Rw.of_owns hown)
      have hV := Lib.hid (Rw.form hown)
      clear hA hown
      rcases hk with rfl | rfl
      all_goals
        go_wp2_with fail
        refine (HN.out _).mono ?_
        rintro e w1 ⟨rfl, hw1⟩
        unfold vN vC d0
        have HR := Lib.hid (hR.out.below hw1)
        have hw' := hw.trans (hw1.mono hw.size)
        go_wp2
        go_ret3
        refine .inr ⟨_, _, _, HA.out, rfl, HR.out.alloc _, hw'.alloc hw'.size _, hV.out⟩
    · rw [e] at HN
      clear e hm
      have HA := Lib.hid hA
      clear hA hown
      go_wp2_with fail
      refine (HN.out _).mono ?_
      rintro e w1 ⟨rfl, hw1⟩
      unfold vN vC d0
      have hw' := hw.trans (hw1.mono hw.size)
      go_wp2
      go_ret3
      refine .inl ⟨HA.out, rfl, hw'.alloc hw'.size _⟩
end Go.Proofs.YteafbfgmdknaeaaDoor
/- The contract of the reference's Same of rows of commands. -/
set_option linter.unusedVariables false
namespace Go.Proofs.YteafbfgmdknaeaaDoor
open Go.RowKit Gl L Vt
namespace Vt
theorem getD_eq (l m : List Cmd) (k : Nat) (h0 : cK l k = cK m k) (h1 : cA l k = cA m k) (h2 : cB l k = cB m k) (h3 : cR l k = cR m k) : l.getD k d0 = m.getD k d0 := Prod.ext h0 (Prod.ext h1 (Prod.ext h2 h3))
theorem beq_no {x y : Int} (h : x ≠ y) : (x == y) = false := by simpa using h
/-- So far the rows are the same. -/
def Likely (l m : List Cmd) (k : Nat) : Prop := ∀ j, j < k → l.getD j d0 = m.getD j d0
theorem Likely.next {l m : List Cmd} {k : Nat} (h : Likely l m k) (h' : l.getD k d0 = m.getD k d0) : Likely l m (k + 1) := fun j hj => by
  by_cases e : j = k
  · rw [e]; exact h'
  · exact h j (by omega)
theorem Likely.all {l m : List Cmd} (h : Likely l m l.length) (hl : l.length = m.length) : l = m := by
  refine List.ext_getElem hl fun j h1 h2 => ?_
  have := h j h1
  simpa [List.getD, h1, h2] using this
end Vt
set_option maxHeartbeats 4000000 in
theorem rsame_any (va vb : Value) (l m : List Cmd) (w : World) (ha : Rw w va 4 l.length (flatC l)) (hb : Rw w vb 4 m.length (flatC m)) (hl : l.length ≤ 100000) (hm : m.length ≤ 100000) :
    Calls Tryd.prog 13 #[va, vb] w fun e w' => e = .returned (.bool (decide (l = m))) ∧ Below w.heap.size w w' := by
  obtain ⟨A, ca, rfl, hA⟩ := cmds_row ha
  obtain ⟨B, cb, rfl, hB⟩ := cmds_row hb
  clear ha hb
  by_cases hlm : l.length = m.length
  · have HL := Lib.hid hlm
    have bq : ((l.length : Int) == (m.length : Int)) = true := by simp; omega
    have bq2 : ((l.length : Int) != (m.length : Int)) = false := by rw [bne, bq]; rfl
    have HA := Lib.hid hA
    have HB := Lib.hid hB
    clear hlm hA hB
    go_enter Tryd.func13, Tryd.ntmps13
    go_wp2
    go_loopw [5] (fun i wr => ∃ k : Nat, k ≤ l.length ∧ i = .int .i64 k ∧ Likely l m k ∧ Below w.heap.size w wr) (fun i _ => l.length - (intOf i).toNat)
    case atStart => exact ⟨0, Nat.zero_le _, rfl, fun j hj => absurd hj (Nat.not_lt_zero j), Below.refl _ _⟩
    case round =>
      obtain ⟨k, hk, rfl, hal, hw⟩ := hrel
      by_cases hlt : k < l.length
      · have hlt2 : k < m.length := by have := HL.out; omega
        have hdif : ¬ (l.getD k d0 = m.getD k d0) → l ≠ m := fun h e => h (by rw [e])
        have hget := getD_eq l m k
        rcases HA.out with h0 | ⟨g, off, rfl, hcc⟩
        · omega
        obtain ⟨e0, e1, e2, e3⟩ := hcc k hlt
        clear hcc
        rcases HB.out with h0 | ⟨g', off', rfl, hcc⟩
        · omega
        obtain ⟨f0, f1, f2, f3⟩ := hcc k hlt2
        clear hcc
        have g0 := World.block_lt_of_cell? w _ e0
        have g1 := World.block_lt_of_cell? w _ f0
        rw [← old_cell hw _ _ g0] at e0 e1 e2 e3
        rw [← old_cell hw _ _ g1] at f0 f1 f2 f3
        have hN := Lib.hid (fun h => hal.next (k := k) h)
        have hW := Lib.hid hw
        clear hal hw g0 g1
        by_cases heq : l.getD k d0 = m.getD k d0
        · have hN' := Lib.hid (hN.out heq)
          have c0 : cK l k = cK m k := by unfold cK; rw [heq]
          have c1 : cA l k = cA m k := by unfold cA; rw [heq]
          have c2 : cB l k = cB m k := by unfold cB; rw [heq]
          have c3 : cR l k = cR m k := by unfold cR; rw [heq]
          rw [← c0] at f0
          rw [← c1] at f1
          rw [← c2] at f2
          rw [← c3] at f3
          clear c0 c1 c2 c3 heq hN hdif hget
          generalize cK l k = x0 at *
          generalize cA l k = x1 at *
          generalize cB l k = x2 at *
          generalize cR l k = x3 at *
          go_wp2
          go_quiet (fail)
          go_wp2
          go_roundw
          case rel => exact ⟨k + 1, by omega, by go_num, hN'.out, below_drewN hW.out _⟩
          case measure => simp [intOf]; omega
        · have E := Lib.hid (decide_eq_false (hdif heq))
          have hor : cK l k ≠ cK m k ∨ cK l k = cK m k ∧ cA l k ≠ cA m k ∨ cK l k = cK m k ∧ cA l k = cA m k ∧ cB l k ≠ cB m k ∨ cK l k = cK m k ∧ cA l k = cA m k ∧ cB l k = cB m k ∧ cR l k ≠ cR m k := by
            by_cases h0 : cK l k = cK m k
            · by_cases h1 : cA l k = cA m k
              · by_cases h2 : cB l k = cB m k
                · by_cases h3 : cR l k = cR m k
                  · exact absurd (hget h0 h1 h2 h3) heq
                  · exact .inr (.inr (.inr ⟨h0, h1, h2, h3⟩))
                · exact .inr (.inr (.inl ⟨h0, h1, h2⟩))
              · exact .inr (.inl ⟨h0, h1⟩)
            · exact .inl h0
          clear heq hN hdif hget
          generalize cK l k = x0 at *
          generalize cA l k = x1 at *
          generalize cB l k = x2 at *
          generalize cR l k = x3 at *
          generalize cK m k = y0 at *
          generalize cA m k = y1 at *
          generalize cB m k = y2 at *
          generalize cR m k = y3 at *
          rcases hor with h | ⟨rfl, h⟩ | ⟨rfl, rfl, h⟩ | ⟨rfl, rfl, rfl, h⟩
          all_goals
            have q0 := beq_no h
            clear h
            go_wp2
            go_quiet (fail)
            go_wp2
            go_ret
            refine ⟨by rw [E.out]; rfl, below_drewN hW.out _⟩
      · obtain rfl : k = l.length := by omega
        have E := Lib.hid (decide_eq_true (hal.all HL.out))
        have hW := Lib.hid hw
        clear hal hw hlt
        go_wp2
        go_ret
        exact ⟨by rw [E.out]; rfl, hW.out⟩
  · have E := Lib.hid (decide_eq_false (show ¬ l = m from fun e => hlm (by rw [e])))
    have bq : ((l.length : Int) == (m.length : Int)) = false := by rw [Bool.eq_false_iff]; intro h; have h' := eq_of_beq h; omega
    have bq2 : ((l.length : Int) != (m.length : Int)) = true := by rw [bne, bq]; rfl
    clear hlm hA hB
    go_enter Tryd.func13, Tryd.ntmps13
    go_wp2
    go_ret
    exact ⟨by rw [E.out]; rfl, Below.refl _ _⟩
end Go.Proofs.YteafbfgmdknaeaaDoor
/- The contract of the statements' example: it is true. Condition: the two tables of the library laid. -/
set_option linter.unusedVariables false
namespace Go.Proofs.YteafbfgmdknaeaaDoor
open Go.RowKit Go.PlainAid Gl L Vt
theorem AllOut.ok {W w' : World} {s x : ByteArray} {l : List Cmd} {e : Ending} (h : AllOut W s e w') (hA : AllR s l x) : ∃ v, e = .returned (.tuple #[v, .string x, .int .i64 0]) ∧ Rw w' v 4 l.length (flatC l) ∧ Below W.heap.size W w' := by
  rcases h with ⟨hb, _⟩ | ⟨m, y, v, hR, he, hr, hw⟩
  · exact (hA.not_bad hb).elim
  · obtain ⟨rfl, rfl⟩ := hA.one hR
    exact ⟨v, he, hr, hw.1⟩
theorem AllOut.ok2 {W w' : World} {s x : ByteArray} {l : List Cmd} {e : Ending} (h : AllOut W s e w') (hA : AllR s l x) : ∃ v, e = .returned (.tuple #[v, .string x, .int .i64 0]) ∧ Rw w' v 4 l.length (flatC l) ∧ Below W.heap.size W w' ∧ (v = .slice none 0 0 ∧ l.length = 0 ∨ ∃ g cap, v = .slice (some ⟨g, 0, none⟩) l.length cap ∧ l.length ≤ cap) := by
  rcases h with ⟨hb, _⟩ | ⟨m, y, v, hR, he, hr, hw⟩
  · exact (hA.not_bad hb).elim
  · obtain ⟨rfl, rfl⟩ := hA.one hR
    exact ⟨v, he, hr, hw⟩
theorem AllOut.bad {W w' : World} {s : ByteArray} {e : Ending} (h : AllOut W s e w') (hB : AllBad s) : e = .returned (.tuple #[.slice none 0 0, .string ⟨#[]⟩, .int .i64 2]) ∧ Below W.heap.size W w' := by
  rcases h with ⟨_, h⟩ | ⟨m, y, v, hR, _⟩
  · exact h
  · exact (hR.not_bad hB).elim
namespace Vt
def ca : Cmd := (1, 0, 0, 97)
def cg' : Cmd := (2, 1, 9, 0)
theorem n1 : nxS ⟨#[27, 91, 75, 65]⟩ = ((7, 0, 0, 0), ⟨#[65]⟩, 0) := by decide +kernel
theorem n2 : nxS ⟨#[27, 91, 49, 65]⟩ = (d0, ⟨#[]⟩, 2) := by decide +kernel
theorem n3 : nxS ⟨#[27, 91, 50, 52, 59]⟩ = (d0, ⟨#[]⟩, 3) := by decide +kernel
theorem n4 : nxS ⟨#[]⟩ = (d0, ⟨#[]⟩, 6) := by decide +kernel
theorem n5 : nxS ⟨#[1]⟩ = (d0, ⟨#[]⟩, 2) := by decide +kernel
theorem a1 : AllR ⟨#[97, 27, 91, 50, 59, 49, 48, 72, 27, 91, 49]⟩ [ca, cg'] ⟨#[27, 91, 49]⟩ :=
  ⟨by decide, by decide +kernel, .inr (moreS_more _ (by decide) (by decide +kernel))⟩
theorem a2 : AllBad ⟨#[97, 1]⟩ := by
  refine ⟨[ca], ⟨#[1]⟩, by decide, by decide +kernel, ?_⟩
  have h := nxS_is ⟨#[1]⟩
  rw [n5] at h
  rcases h with ⟨h, _⟩ | ⟨_, _, ⟨h, _⟩ | ⟨h, _⟩ | ⟨_, h⟩⟩
  · exact absurd h (by decide)
  · exact absurd h (by decide)
  · exact absurd h (by decide)
  · exact h
end Vt
set_option maxHeartbeats 8000000 in
theorem ex6_any (w : World) (T : Tabs w 1 2) : Calls Tryd.prog 10 #[] w fun e w' => e = .returned (.bool true) ∧ Below w.heap.size w w' := by
  have HT := Lib.hid (fun w' hb => T.below (w' := w') hb)
  have HN := Lib.hid (fun s wz Tz hz => snext_any s wz Tz hz)
  have HA := Lib.hid (fun s wz Tz hz => sall_any s wz Tz hz)
  clear T
  go_enter Tryd.func10, Tryd.ntmps10
  (try simp only [List.append])
  go_wp2_with fail
  refine (HA.out _ _ (HT.out _ (Below.refl _ _)) (by decide)).mono ?_
  intro e w1 h
  obtain ⟨v, rfl, hr1, hw1⟩ := h.ok a1
  clear h
  have HR := Lib.hid hr1
  clear hr1
  have hb1 := Lib.hid hw1
  clear hw1
  go_wp2_with fail
  refine (HN.out _ _ (HT.out _ hb1.out) (by decide)).mono ?_
  rintro e w2 ⟨rfl, hw2⟩
  rw [n1]
  unfold vN vC
  have hb2 := Lib.hid (hb1.out.trans (hw2.mono hb1.out.size))
  have HR2 := Lib.hid (HR.out.below hw2)
  clear hw2 HR hb1
  go_wp2_with fail
  refine (HN.out _ _ (HT.out _ (hb2.out.alloc hb2.out.size _)) (by decide)).mono ?_
  rintro e w3 ⟨rfl, hw3⟩
  rw [n2]
  unfold vN vC d0
  have hq := hw3
  have hy := made4 hw3
  have hb3 := Lib.hid (hb2.out.trans ((bl1 hw3).mono hb2.out.size))
  have HR3 := Lib.hid (HR2.out.below (bl1 hw3))
  have HY := Lib.hid hy
  have hz3 : w2.heap.size < w3.heap.size := hy.2.2
  clear hw3 hq HR2 hb2 hy
  go_wp2_with fail
  refine (HN.out _ _ (HT.out _ (hb3.out.alloc hb3.out.size _)) (by decide)).mono ?_
  rintro e w4 ⟨rfl, hw4⟩
  rw [n3]
  unfold vN vC d0
  have hb4 := Lib.hid (hb3.out.trans ((bl1 hw4).mono hb3.out.size))
  have HR4 := Lib.hid (HR3.out.below (bl1 hw4))
  have B4 := Lib.hid (bl1 hw4)
  have hz4 : w3.heap.size < w4.heap.size := (made4 hw4).2.2
  clear hw4 HR3 hb3
  go_wp2_with fail
  refine (HN.out _ _ (HT.out _ (hb4.out.alloc hb4.out.size _)) (by decide)).mono ?_
  rintro e w5 ⟨rfl, hw5⟩
  rw [n4]
  unfold vN vC d0
  have hb5 := Lib.hid (hb4.out.trans ((bl1 hw5).mono hb4.out.size))
  have HR5 := Lib.hid (HR4.out.below (bl1 hw5))
  have B5 := Lib.hid (B4.out.trans ((bl1 hw5).mono B4.out.size))
  have hz5 : w4.heap.size < w5.heap.size := (made4 hw5).2.2
  clear hw5 HR4 hb4
  go_wp2_with fail
  refine (HA.out _ _ (HT.out _ (hb5.out.alloc hb5.out.size _)) (by decide)).mono ?_
  intro e w6 h
  obtain ⟨rfl, hw6⟩ := h.bad a2
  clear h
  have hb6 := Lib.hid (hb5.out.trans ((bl1 hw6).mono hb5.out.size))
  have HR6 := Lib.hid (HR5.out.below (bl1 hw6))
  have B6 := Lib.hid (B5.out.trans ((bl1 hw6).mono B5.out.size))
  clear B4 B5
  have hz6 : w5.heap.size < w6.heap.size := (made4 hw6).2.2
  clear hw6 HR5 hb5
  have rl := row_lit4 w6 #[.int .i64 1, .int .i64 0, .int .i64 0, .int .i32 97, .int .i64 2, .int .i64 1, .int .i64 9, .int .i32 0] 23 [ca, cg'] rfl 2
  have hal : Below w6.heap.size w6 (w6.alloc (.cells #[.int .i64 1, .int .i64 0, .int .i64 0, .int .i32 97, .int .i64 2, .int .i64 1, .int .i64 9, .int .i32 0] 23)) := (Below.refl _ _).alloc (Nat.le_refl _) _
  have HS := Lib.hid (rsame_any v _ [ca, cg'] [ca, cg'] _ (HR6.out.below hal) rl (by decide) (by decide))
  have HB := Lib.hid (hb6.out.trans (hal.mono hb6.out.size))
  have B7 := Lib.hid (B6.out.trans (hal.mono B6.out.size))
  clear rl hal
  go_wp2_with fail
  refine HS.out.mono ?_
  rintro e w7 ⟨rfl, hw7⟩
  have B := old_cell (B7.out.trans (hw7.mono B7.out.size))
  obtain ⟨⟨y0, y1, y2, y3⟩, -, -⟩ := HY.out
  have x0 := (B w2.heap.size 0 hz3).trans y0
  have x1 := (B w2.heap.size 1 hz3).trans y1
  have x2 := (B w2.heap.size 2 hz3).trans y2
  have x3 := (B w2.heap.size 3 hz3).trans y3
  have hE := Lib.hid (HB.out.trans (hw7.mono HB.out.size))
  clear B y0 y1 y2 y3 hw7
  rw [show (decide True) = true from rfl]
  go_wp2
  go_ret
  exact ⟨rfl, hE.out⟩
end Go.Proofs.YteafbfgmdknaeaaDoor
