/- The contract of wide's Row: rows of up to a million numbers. -/
import Derived.Test.YtjojbhlhfjaacaaDoorWdW
import Derived.Test.YtjojbhlhfjaacaaDoorWdD
import Derived.Test.YtjojbhlhfjaacaaDoorLibD
import Derived.Test.YtjojbhlhfjaacaaDoorInf
set_option linter.unusedVariables false
namespace Go.Proofs.YtjojbhlhfjaacaaDoor
open Go.RowKit Gl L Wd
namespace Wd
theorem row_snoc (l : List Int) (x : Int) : row (l ++ [x]) = row l ++ cl x := by simp [row]
theorem row_take {l : List Int} {k : Nat} (h : k < l.length) : row (l.take (k + 1)) = row (l.take k) ++ cl (l.getD k 0) := by
  rw [take_snoc2 (d := 0) h, row_snoc]
theorem row_len (l : List Int) : l.length ≤ (row l).length ∧ (row l).length ≤ 2 * l.length := by
  induction l with
  | nil => exact ⟨Nat.le_refl _, Nat.le_refl _⟩
  | cons a l ih =>
    have e : row (a :: l) = cl a ++ row l := rfl
    rw [e, List.length_append, List.length_cons]
    have := cl_len a
    omega
end Wd
/-- A new row of cells is told. -/
def FreshRow (w w' : World) (e : Ending) (l : List (Int × Int)) : Prop := ∃ g cap, e = .returned (.slice (some ⟨g, 0, none⟩) l.length cap) ∧ l.length ≤ cap ∧ w'.ownsRow w.heap.size 40 2 (.slice (some ⟨g, 0, none⟩) l.length cap) l.length (flat l) ∧ Below w.heap.size w w'
set_option maxHeartbeats 2000000 in
theorem row_any (v : Value) (xs : List Int) (w : World) (hv : IsRow w v .i32 xs) (hl : xs.length ≤ 1000000) (S : Spans w 1) :
    Calls Tryd.prog 20 #[v] w fun e w' => FreshRow w w' e (row xs) := by
  obtain ⟨i0, hi, hz0, hz1, hz2⟩ := info_parts Tryd.info40
  obtain ⟨A, cap, rfl, hv⟩ := hv
  obtain ⟨wm, hmk, hown0, hgr0⟩ := run_make_own (P := Tryd.prog) w w.heap.size 33 40 i0 _ 2 Tryd.underlying33 hi hz0 hz1 .i64 .i64 xs.length (by rw [hz2]; omega) (by unfold maxLen; omega) (Nat.le_refl _)
  have hb0 : Below w.heap.size w wm := (Below.refl _ _).grown hgr0 (Nat.le_refl _) (by simp)
  go_enter Tryd.func20, Tryd.ntmps20
  go_wp2
  have HM := Lib.hid hmk
  clear hmk
  go_loopw [3, 13] (fun c i wr => ∃ k : Nat, k ≤ xs.length ∧ i = .int .i64 k ∧ wr.ownsRow w.heap.size 40 2 c (row (xs.take k)).length (flat (row (xs.take k))) ∧ c ≠ .slice none 0 0 ∧ Below w.heap.size w wr) (fun _ i _ => xs.length - (intOf i).toNat)
  case atStart => exact ⟨0, Nat.zero_le _, rfl, hown0, by simp, hb0⟩
  case round =>
    obtain ⟨k, hk, rfl, hown, hne, hw⟩ := hrel
    have HNE := Lib.hid hne
    clear hne
    by_cases hlt : k < xs.length
    · rcases hv with rfl | ⟨b, off, rfl, hc⟩
      · simp at hlt
      have hcell : wr.cell? ⟨b, off + k, none⟩ = some (.int .i32 (xs.getD k 0)) := by
        rw [hw.cell (World.block_lt_of_cell? w _ (hc k hlt))]; exact hc k hlt
      have HT := Lib.hid (row_take hlt)
      have hrl := (row_len (xs.take k)).2
      rw [List.length_take] at hrl
      clear hc
      generalize hx : xs.getD k 0 = x at hcell HT
      have HX := Lib.hid hx
      clear hx
      have hcl := cl_len x
      have HF := Lib.hid (two_flat x)
      have hwd : wd x = (cl x).length := rfl
      rcases hcl with hcl | hcl
      all_goals
        rw [hcl] at hwd
        have hfl : flat (cl x) = _ := HF.out
        rw [hcl] at hfl
        have HG := Lib.hid hfl
        have HW := Lib.hid hwd
        have HC := Lib.hid hcl
        clear hwd hcl hfl HF
        go_wp2_with fail
        refine (shape_any _ _ (S.below hw)).mono ?_
        rintro e w1 ⟨rfl, hw1⟩
        rw [HW.out]
        unfold two
        have hw' := hw.trans (hw1.mono hw.size)
        have hw2 := hw'.alloc hw'.size (.cells #[.int .i32 (c0 x), .int .i64 (k0 x), .int .i32 (c1 x), .int .i64 (k1 x)] 48)
        have hown1 := (ownsRow_below hown hw1).alloc (.cells #[.int .i32 (c0 x), .int .i64 (k0 x), .int .i32 (c1 x), .int .i64 (k1 x)] 48)
        have hRw := fun n cap h => Rw.lit w1 #[.int .i32 (c0 x), .int .i64 (k0 x), .int .i32 (c1 x), .int .i64 (k1 x)] 48 2 n cap h
        go_wp2_with (at_builtin; refine wpList_append_rw rfl (.tmp 22) (.tmp 24) 33 rfl w.heap.size 40 i0 _ 2 16 Tryd.underlying33 hi hz0 hz1 hz2 rfl (by decide) _ _ _ rfl hown1 _ _ _ rfl (hRw _ _ ?c0) ?c1 ?c2 ?c3 ?c4 ?_)
        case c0 => simp
        case c1 =>
          rw [← HG.out]; exact flat_one _
        case c2 => unfold maxLen; omega
        case c3 => omega
        case c4 => exact hw2.size
        intro v' w2 hown' hgr hne'
        have hb2 := Below.of_grown hw2 hown1 hgr hw2.size (Nat.le_refl _)
        have hlen : (row (xs.take (k + 1))).length = (row (xs.take k)).length + (cl x).length := by rw [HT.out, List.length_append]
        rw [HC.out] at hlen
        have HL := Lib.hid hlen
        have hown2 : w2.ownsRow w.heap.size 40 2 v' (row (xs.take (k + 1))).length (flat (row (xs.take (k + 1)))) := by
          rw [HL.out, HT.out, flat_append, HG.out]; exact hown'
        have HNE' := Lib.hid (hne' HNE.out)
        clear hlen hown1 hRw hown hown' hne'
        go_wp2
        go_roundw
        case rel => exact ⟨k + 1, by omega, by go_num, hown2, HNE'.out, hb2⟩
        case measure => simp [intOf]; omega
    · obtain rfl : k = xs.length := by omega
      rw [List.take_length] at hown
      obtain ⟨g, cap', rfl, hcap⟩ := Rw.form_ne hown HNE.out
      clear hv HM
      go_wp2
      go_ret
      exact ⟨_, _, rfl, hcap, hown, hw⟩
end Go.Proofs.YtjojbhlhfjaacaaDoor
