/- The contract of the reference's All of commands. -/
import Derived.Test.YtkkioajmfkcloaaGreatDoorSeD
import Derived.Test.YtkkioajmfkcloaaGreatDoorSdE
set_option linter.unusedVariables false
namespace Go.Proofs.YtkkioajmfkcloaaGreatDoor
open Go.RowKit Go.PlainAid Gl L Vt
set_option maxHeartbeats 4000000 in
theorem rall_any (s : ByteArray) (W : World) (hs : s.size ≤ 50000) : Calls Tryz.prog 26 #[.string s] W fun e w' => AllOut W s e w' := by
  obtain ⟨i0, hi, hz0, hz1, hz2⟩ := info_parts Tryz.info28
  have hown0 := World.ownsRow_made (e := 28) (size := 4) W #[] 0 (Nat.le_refl _) (by decide) (by simp)
  go_enter Tryz.func26, Tryz.ntmps26
  go_wp2
  go_loopw [0, 5] (fun a v wr => ∃ l t, Mid s l t ∧ a = .string t ∧ wr.ownsRow W.heap.size 28 4 v l.length (flatC l) ∧ Below W.heap.size W wr) (fun a _ _ => (match a with | .string t => t.size | _ => 0))
  case atStart => exact ⟨[], s, ⟨fun _ h => (List.not_mem_nil h).elim, by rw [show btsL [] = ⟨#[]⟩ from rfl, nil_app]⟩, rfl, hown0, (Below.refl _ _).alloc (Nat.le_refl _) _⟩
  case round =>
    obtain ⟨l, t, hm, rfl, hown, hw⟩ := hrel
    have hz := hm.size
    have HN := Lib.hid (fun wz => rnext6_any t wz (by omega))
    rcases hm.next with ⟨c, x, e, hc, ht, hm'⟩ | ⟨k, e, hk, hA⟩ | ⟨e, hA⟩
    · rw [e] at HN
      have HM := Lib.hid hm'
      have hc1 := btC_one c hc
      have hts : x.size < t.size := by rw [ht, size_app]; omega
      clear e hm ht hm'
      go_wp2_with fail
      refine (HN.out _).mono ?_
      rintro e w1 ⟨rfl, hw1⟩
      have hw' := hw.trans (hw1.mono hw.size)
      have hr1 := row_lit4 (w1.alloc (.cells #[.int .i64 c.1, .int .i64 c.2.1, .int .i64 c.2.2.1, .int .i32 c.2.2.2] 28)) #[.int .i64 c.1, .int .i64 c.2.1, .int .i64 c.2.2.1, .int .i32 c.2.2.2] 28 [c] rfl 1
      rw [show (w1.alloc (.cells #[.int .i64 c.1, .int .i64 c.2.1, .int .i64 c.2.2.1, .int .i32 c.2.2.2] 28)).heap.size = w1.heap.size + 1 by simp] at hr1
      have hb1 : Below w1.heap.size w1 ((w1.alloc (.cells #[.int .i64 c.1, .int .i64 c.2.1, .int .i64 c.2.2.1, .int .i32 c.2.2.2] 28)).alloc (.cells #[.int .i64 c.1, .int .i64 c.2.1, .int .i64 c.2.2.1, .int .i32 c.2.2.2] 28)) := ((Below.refl _ _).alloc (Nat.le_refl _) _).alloc (by simp) _
      have hown1 := ownsRow_below (ownsRow_below hown hw1) hb1
      have hw2 := hw'.trans (hb1.mono hw'.size)
      unfold vN vC
      go_wp2_with (at_builtin; refine wpList_append_rw rfl (.tmp 22) (.tmp 24) 52 rfl W.heap.size 28 i0 _ 4 32 Tryz.underlying52 hi hz0 hz1 hz2 rfl (by decide) _ _ _ rfl hown1 _ _ _ rfl hr1 (flatC_one _) ?c2 ?c3 ?c4 ?_)
      case c2 => unfold maxLen; (try simp); omega
      case c3 => (try simp); omega
      case c4 => exact hw2.size
      intro v' w2 hown' hgr _
      have hb2 := Below.of_grown hw2 hown1 hgr hw2.size (Nat.le_refl _)
      have hown2 : w2.ownsRow W.heap.size 28 4 v' (l ++ [c]).length (flatC (l ++ [c])) := by
        rw [flatC_append, List.length_append]; exact hown'
      clear hown1 hown hown' hr1 hb1 hw2 hw' hw1 hw
      go_wp2
      go_roundw
      case rel => exact ⟨l ++ [c], x, HM.out, rfl, hown2, hb2⟩
      case measure => simp; omega
    · rw [e] at HN
      clear e hm
      have HA := Lib.hid hA
      have hR := Lib.hid (Rw.of_owns hown)
      have hV := Lib.hid (Rw.form hown)
      clear hA hown
      rcases hk with rfl | rfl
      all_goals
        go_wp2_with fail
        refine (HN.out _).mono ?_
        rintro e w1 ⟨rfl, hw1⟩
        unfold vN vC d0
        have HR := Lib.hid (hR.out.below hw1)
        have hw' := hw.trans (hw1.mono hw.size)
        go_wp2
        go_ret3
        refine .inr ⟨_, _, _, HA.out, rfl, HR.out.alloc _, hw'.alloc hw'.size _, hV.out⟩
    · rw [e] at HN
      clear e hm
      have HA := Lib.hid hA
      clear hA hown
      go_wp2_with fail
      refine (HN.out _).mono ?_
      rintro e w1 ⟨rfl, hw1⟩
      unfold vN vC d0
      have hw' := hw.trans (hw1.mono hw.size)
      go_wp2
      go_ret3
      refine .inl ⟨HA.out, rfl, hw'.alloc hw'.size _⟩
end Go.Proofs.YtkkioajmfkcloaaGreatDoor
