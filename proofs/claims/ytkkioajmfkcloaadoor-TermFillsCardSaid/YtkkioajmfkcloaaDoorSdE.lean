/- The contract of scan.All. -/
import Derived.Test.YtkkioajmfkcloaaDoorSdD
import Derived.Test.YtkkioajmfkcloaaDoorVtEb
import Derived.Test.YtkkioajmfkcloaaDoorMLd
set_option linter.unusedVariables false
namespace Go.Proofs.YtkkioajmfkcloaaDoor
open Go.RowKit Go.PlainAid Gl L Vt
/-- What All tells: the commands of whole bytes and what is left, or nothing. -/
def AllOut (W : World) (s : ByteArray) (e : Ending) (w' : World) : Prop :=
  (AllBad s ∧ e = .returned (.tuple #[.slice none 0 0, .string ⟨#[]⟩, .int .i64 2]) ∧ Below W.heap.size W w') ∨
  ∃ l x v, AllR s l x ∧ e = .returned (.tuple #[v, .string x, .int .i64 0]) ∧ Rw w' v 4 l.length (flatC l) ∧ Below W.heap.size W w' ∧ (v = .slice none 0 0 ∧ l.length = 0 ∨ ∃ g cap, v = .slice (some ⟨g, 0, none⟩) l.length cap ∧ l.length ≤ cap)
namespace Vt
theorem btsL_one (l : List Cmd) (h : ∀ c ∈ l, isR c = true) : l.length ≤ (btsL l).size := by
  induction l with
  | nil => simp
  | cons c l ih =>
    have := btC_one c (h c (by simp))
    have := ih (fun d hd => h d (by simp [hd]))
    rw [show btsL (c :: l) = btC c ++ btsL l from rfl, size_app, List.length_cons]; omega
/-- What of all the bytes stands ahead. -/
def Mid (s : ByteArray) (l : List Cmd) (t : ByteArray) : Prop := (∀ c ∈ l, isR c = true) ∧ s = btsL l ++ t
theorem Mid.next {s : ByteArray} {l : List Cmd} {t : ByteArray} (h : Mid s l t) : (∃ c x, nxS t = (c, x, 0) ∧ isR c = true ∧ t = btC c ++ x ∧ Mid s (l ++ [c]) x) ∨ (∃ k, nxS t = (d0, ⟨#[]⟩, k) ∧ (k = 6 ∨ k = 3) ∧ AllR s l t) ∨ nxS t = (d0, ⟨#[]⟩, 2) ∧ AllBad s := by
  obtain ⟨h1, h2⟩ := h
  rcases nxS_is t with ⟨e0, hc, ht⟩ | ⟨e0, e1, e2⟩
  · refine .inl ⟨(nxS t).1, (nxS t).2.1, by rw [← e0], hc, ht, ?_, ?_⟩
    · intro c hc'
      rcases List.mem_append.1 hc' with hc' | hc'
      · exact h1 c hc'
      · simp at hc'; rw [hc']; exact hc
    · rw [btsL_append, app_assoc, show btsL [(nxS t).1] = btC (nxS t).1 from app_nil _, ← ht]; exact h2
  · have e : nxS t = (d0, ⟨#[]⟩, (nxS t).2.2) := by rw [← e0, ← e1]
    rcases e2 with ⟨e2, h⟩ | ⟨e2, h⟩ | ⟨e2, h⟩
    · exact .inr (.inl ⟨6, by rw [e, e2], .inl rfl, h1, h2, .inl (by rw [h]; rfl)⟩)
    · exact .inr (.inl ⟨3, by rw [e, e2], .inr rfl, h1, h2, .inr h⟩)
    · exact .inr (.inr ⟨by rw [e, e2], l, t, h1, h2, h⟩)
theorem Mid.size {s : ByteArray} {l : List Cmd} {t : ByteArray} (h : Mid s l t) : l.length + t.size ≤ s.size := by
  have := btsL_one l h.1
  have := congrArg ByteArray.size h.2
  rw [size_app] at this; omega
theorem flatC_snoc (l : List Cmd) (c : Cmd) : flatC (l ++ [c]) = flatC l ++ [.int .i64 c.1, .int .i64 c.2.1, .int .i64 c.2.2.1, .int .i32 c.2.2.2] := by rw [flatC_append]; rfl
end Vt
set_option maxHeartbeats 4000000 in
theorem sall_any (s : ByteArray) (W : World) (T : Tabs W 3 4) (hs : s.size ≤ 2000000) : Calls Tryd.prog 34 #[.string s] W fun e w' => AllOut W s e w' := by
  obtain ⟨i0, hi, hz0, hz1, hz2⟩ := info_parts Tryd.info36
  have HT := Lib.hid (fun w' hb => T.below (w' := w') hb)
  clear T
  go_enter Tryd.func34, Tryd.ntmps34
  go_wp2
  go_loopw [0, 5] (fun a v wr => ∃ l t, Mid s l t ∧ a = .string t ∧ wr.ownsRow W.heap.size 36 4 v l.length (flatC l) ∧ Below W.heap.size W wr) (fun a _ _ => (match a with | .string t => t.size | _ => 0))
  case atStart => exact ⟨[], s, ⟨fun _ h => (List.not_mem_nil h).elim, by rw [show btsL [] = ⟨#[]⟩ from rfl, nil_app]⟩, rfl, World.ownsRow_nil _ _ _ _, Below.refl _ _⟩
  case round =>
    obtain ⟨l, t, hm, rfl, hown, hw⟩ := hrel
    have hz := hm.size
    have HN := Lib.hid (fun wz Tz => snext_any t wz Tz (by unfold maxLen; omega))
    rcases hm.next with ⟨c, x, e, hc, ht, hm'⟩ | ⟨k, e, hk, hA⟩ | ⟨e, hA⟩
    · rw [e] at HN
      have HM := Lib.hid hm'
      have hc1 := btC_one c hc
      have hts : x.size < t.size := by rw [ht, size_app]; omega
      clear e hm ht hm'
      go_wp2_with fail
      refine (HN.out _ (HT.out _ hw)).mono ?_
      rintro e w1 ⟨rfl, hw1⟩
      have hw' := hw.trans (hw1.mono hw.size)
      have hr1 := row_lit4 (w1.alloc (.cells #[.int .i64 c.1, .int .i64 c.2.1, .int .i64 c.2.2.1, .int .i32 c.2.2.2] 36)) #[.int .i64 c.1, .int .i64 c.2.1, .int .i64 c.2.2.1, .int .i32 c.2.2.2] 36 [c] rfl 1
      rw [show (w1.alloc (.cells #[.int .i64 c.1, .int .i64 c.2.1, .int .i64 c.2.2.1, .int .i32 c.2.2.2] 36)).heap.size = w1.heap.size + 1 by simp] at hr1
      have hb1 : Below w1.heap.size w1 ((w1.alloc (.cells #[.int .i64 c.1, .int .i64 c.2.1, .int .i64 c.2.2.1, .int .i32 c.2.2.2] 36)).alloc (.cells #[.int .i64 c.1, .int .i64 c.2.1, .int .i64 c.2.2.1, .int .i32 c.2.2.2] 36)) := ((Below.refl _ _).alloc (Nat.le_refl _) _).alloc (by simp) _
      have hown1 := ownsRow_below (ownsRow_below hown hw1) hb1
      have hw2 := hw'.trans (hb1.mono hw'.size)
      unfold vN vC
      go_wp2_with (at_builtin; refine wpList_append_rw rfl (.tmp 20) (.tmp 22) 60 rfl W.heap.size 36 i0 _ 4 32 Tryd.underlying60 hi hz0 hz1 hz2 rfl (by decide) _ _ _ rfl hown1 _ _ _ rfl hr1 (flatC_one _) ?c2 ?c3 ?c4 ?_)
      case c2 => unfold maxLen; (try simp); omega
      case c3 => (try simp); omega
      case c4 => exact hw2.size
      intro v' w2 hown' hgr _
      have hb2 := Below.of_grown hw2 hown1 hgr hw2.size (Nat.le_refl _)
      have hown2 : w2.ownsRow W.heap.size 36 4 v' (l ++ [c]).length (flatC (l ++ [c])) := by
        rw [flatC_append, List.length_append]; exact hown'
      clear hown1 hown hown' hr1 hb1 hw2 hw' hw1 hw
      go_wp2
      go_roundw
      case rel => exact ⟨l ++ [c], x, HM.out, rfl, hown2, hb2⟩
      case measure => simp; omega
    · rw [e] at HN
      clear e hm
      have HA := Lib.hid hA
      have hR := Lib.hid (Rw.of_owns hown)
      have hV := Lib.hid (Rw.form hown)
      clear hA hown
      rcases hk with rfl | rfl
      all_goals
        go_wp2_with fail
        refine (HN.out _ (HT.out _ hw)).mono ?_
        rintro e w1 ⟨rfl, hw1⟩
        unfold vN vC d0
        have HR := Lib.hid (hR.out.below hw1)
        have hw' := hw.trans (hw1.mono hw.size)
        go_wp2
        go_ret3
        refine .inr ⟨_, _, _, HA.out, rfl, HR.out.alloc _, hw'.alloc hw'.size _, hV.out⟩
    · rw [e] at HN
      clear e hm
      have HA := Lib.hid hA
      clear hA hown
      go_wp2_with fail
      refine (HN.out _ (HT.out _ hw)).mono ?_
      rintro e w1 ⟨rfl, hw1⟩
      unfold vN vC d0
      have hw' := hw.trans (hw1.mono hw.size)
      go_wp2
      go_ret3
      refine .inl ⟨HA.out, rfl, hw'.alloc hw'.size _⟩
end Go.Proofs.YtkkioajmfkcloaaDoor
