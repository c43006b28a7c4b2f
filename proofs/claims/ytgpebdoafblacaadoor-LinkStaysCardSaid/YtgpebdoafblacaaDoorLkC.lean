/- Links: Drop, of the program and of the reference. -/
import Derived.Test.YtgpebdoafblacaaDoorLkB
import Derived.Test.YtgpebdoafblacaaDoorVtL
import Derived.BigGuardPart
import Derived.BigQuiet
import Derived.Deep.QuietTactic
import Derived.Deep.RegionHeld3
set_option linter.unusedVariables false
namespace Go.Proofs.YtgpebdoafblacaaDoor
open Go.RowKit Gl L Vt Lk
theorem and_below {P : Prop} {B : Nat} {W w' : World} (hb : Below B W w') (h : Below B W w' → P) : P ∧ Below B W w' := ⟨h hb, hb⟩
theorem Rk.recap {w : World} {g off n c c' : Nat} {l : List Cmd} (h : Rk w (.slice (some ⟨g, off, none⟩) n c) l) (hc : l.length ≤ c') : Rk w (.slice (some ⟨g, off, none⟩) n c') l := by
  obtain ⟨A, cap, e, h1, h2⟩ := h
  cases e
  have h3 := h2.suf (m := 0) (Nat.zero_le _) c'
  simp only [Nat.zero_mul, Nat.add_zero, Nat.sub_zero, List.drop_zero] at h3
  exact ⟨_, _, rfl, hc, h3⟩
/-- All of a row, without spare room. -/
theorem Rk.full {w : World} {A : Option Addr} {n cap : Nat} {l : List Cmd} (h : Rk w (.slice A n cap) l) : Rk w (.slice A l.length l.length) l := by
  obtain ⟨A', c', e, h1, h2, A'', c'', e', h3⟩ := h
  cases e
  cases e'
  refine ⟨_, _, rfl, Nat.le_refl _, h2, _, _, rfl, ?_⟩
  rcases h3 with ⟨h3, h4⟩ | h3
  · exact .inl ⟨h3, fun _ => h3⟩
  · exact .inr h3
set_option maxHeartbeats 4000000 in
theorem ldrop_any (room sent pad : Int) (off : Bool) (l : List Cmd) (A : Option Addr) (cap : Nat) (w : World) (F : Forms w 0) (hr : Rk w (.slice A l.length cap) l) (hl : l.length ≤ 100000) :
    Calls Tryd.prog 23 #[.agg #[.int .i64 room, .slice A l.length cap, .int .i64 sent, .int .i64 pad, .bool off]] w fun e w' => (∃ A1 c1 A2 c2, e = .returned (.tuple #[.agg #[.int .i64 room, .slice A1 (dp ⟨room, l, sent, pad, off⟩).l.length c1, .int .i64 sent, .int .i64 pad, .bool off], .slice A2 (gn ⟨room, l, sent, pad, off⟩).length c2]) ∧ Rk w' (.slice A1 (dp ⟨room, l, sent, pad, off⟩).l.length c1) (dp ⟨room, l, sent, pad, off⟩).l ∧ Rk w' (.slice A2 (gn ⟨room, l, sent, pad, off⟩).length c2) (gn ⟨room, l, sent, pad, off⟩)) ∧ Below w.heap.size w w' := by
  have V := Lib.hid (((La.start w).box #[.int .i64 room, .slice A l.length cap, .int .i64 sent, .int .i64 pad, .bool off] 24).box #[.int .i64 0, .slice none 0 0, .int .i64 0, .int .i64 0, .bool false] 24)
  have hI := Lib.hid (lis_any room sent pad off l A cap _ (F.below V.out.below) (hr.below V.out.below) hl)
  have HR := Lib.hid hr
  have hcap : l.length ≤ cap := by obtain ⟨A', c', e, h, _⟩ := hr; cases e; exact h
  have hcap1 : (l.length : Int) ≤ (cap : Int) := by omega
  clear F hr
  by_cases hk : rt ⟨room, l, sent, pad, off⟩
  · rw [decide_eq_true hk] at hI
    obtain ⟨e1, e2⟩ := dp_yes hk
    by_cases hs : 0 < sent
    · have en : dpN ⟨room, l, sent, pad, off⟩ = 1 := if_pos hs
      cases l with
      | nil => have := ((rt_nil rfl).1 hk).2.2.2.2; dsimp only at this; omega
      | cons c t =>
        have hd1 : (dp ⟨room, c :: t, sent, pad, off⟩).l = [c] := by rw [e1, en]; rfl
        have hg1 : gn ⟨room, c :: t, sent, pad, off⟩ = t := by rw [e2, en]; rfl
        rw [hd1, hg1]
        simp only [List.length_cons] at *
        clear e1 e2 en hk hd1 hg1
        obtain ⟨k', a', b', r'⟩ := c
        obtain ⟨-, -, g, o, rfl, -⟩ := HR.out.cells
        have h1s : (1 : Int) ≤ sent := by omega
        have hmin : min sent 1 = 1 := by omega
        have hc1 : (1 : Int) ≤ (cap : Int) := by omega
        cases t with
        | nil =>
          simp only [List.length_nil] at *
          go_enter Tryd.func23, Tryd.ntmps23
          go_wp2_with fail
          refine hI.out.mono ?_
          rintro e w1 ⟨rfl, hb⟩
          replace V := Lib.hid (V.out.call hb)
          clear hb hI
          have g0 := V.out.at 0 rfl
          have g1 := V.out.at 1 rfl
          rw [one_size] at g0
          obtain ⟨⟨c0, c1, c2, c3, c4⟩, ⟨f0, f1, f2, f3, f4⟩, hz⟩ := blk5 g1
          obtain ⟨⟨d0, d1, d2, d3, d4⟩, ⟨k0, k1, k2, k3, k4⟩, hz2⟩ := blk5 g0
          clear g0 g1
          go_wp2
          refine bodyPost_ret (v := .tuple #[.agg #[.int .i64 room, .slice (some ⟨g, o, none⟩) 1 1, .int .i64 sent, .int .i64 pad, .bool off], .slice (some ⟨g, o, none⟩) 0 0]) (by simp [results, Tryd.results23, go_sem, *]) rfl (and_below ?_ fun hB => ?_)
          · repeat (first | (with_reducible exact V.out.below) | refine Below.setCell ?_ (by simp) _)
          · exact ⟨_, _, _, _, rfl, ((HR.out.first (by omega)).recap (Nat.le_refl _)).below hB, Rk.nil _ _ _ (by simp)⟩
        | cons c2 t2 =>
          simp only [List.length_cons] at *
          go_enter Tryd.func23, Tryd.ntmps23
          go_wp2_with fail
          refine hI.out.mono ?_
          rintro e w1 ⟨rfl, hb⟩
          replace V := Lib.hid (V.out.call hb)
          clear hb hI
          have g0 := V.out.at 0 rfl
          have g1 := V.out.at 1 rfl
          rw [one_size] at g0
          obtain ⟨⟨c0, c1, c2, c3, c4⟩, ⟨f0, f1, f2, f3, f4⟩, hz⟩ := blk5 g1
          obtain ⟨⟨d0, d1, d2, d3, d4⟩, ⟨k0, k1, k2, k3, k4⟩, hz2⟩ := blk5 g0
          clear g0 g1
          go_wp2
          refine bodyPost_ret (v := .tuple #[.agg #[.int .i64 room, .slice (some ⟨g, o, none⟩) 1 1, .int .i64 sent, .int .i64 pad, .bool off], .slice (some ⟨g, o + 4, none⟩) (t2.length + 1) (t2.length + 1)]) (by simp [results, Tryd.results23, go_sem, *]) rfl (and_below ?_ fun hB => ?_)
          · repeat (first | (with_reducible exact V.out.below) | refine Below.setCell ?_ (by simp) _)
          · exact ⟨_, _, _, _, rfl, ((HR.out.first (by omega)).recap (Nat.le_refl _)).below hB, (HR.out.tail _ (Nat.le_refl _)).below hB⟩
    · have en : dpN ⟨room, l, sent, pad, off⟩ = 0 := if_neg hs
      have hs0 : sent = 0 := by have := hk.2.2.2.2.1; dsimp only at this; omega
      have hd1 : (dp ⟨room, l, sent, pad, off⟩).l = [] := by rw [e1, en]; rfl
      have hg1 : gn ⟨room, l, sent, pad, off⟩ = l := by rw [e2, en]; rfl
      rw [hd1, hg1]
      subst hs0
      have hmin : min (0 : Int) 1 = 0 := by omega
      have HN : Hid (A = none → cap = 0) := Lib.hid (by
        rintro rfl
        obtain ⟨_, A', c', e, h⟩ := HR.out.rw
        cases e
        rcases h with ⟨_, h⟩ | ⟨_, _, h, _⟩
        · exact h rfl
        · cases h)
      have hl0 : (0 : Int) ≤ (l.length : Int) := by omega
      have hcz : (0 : Int) ≤ (cap : Int) := by omega
      clear e1 e2 en hk hd1 hg1
      go_enter Tryd.func23, Tryd.ntmps23
      go_wp2_with fail
      refine hI.out.mono ?_
      rintro e w1 ⟨rfl, hb⟩
      replace V := Lib.hid (V.out.call hb)
      clear hb hI
      have g0 := V.out.at 0 rfl
      have g1 := V.out.at 1 rfl
      rw [one_size] at g0
      obtain ⟨⟨c0, c1, c2, c3, c4⟩, ⟨f0, f1, f2, f3, f4⟩, hz⟩ := blk5 g1
      obtain ⟨⟨d0, d1, d2, d3, d4⟩, ⟨k0, k1, k2, k3, k4⟩, hz2⟩ := blk5 g0
      clear g0 g1
      go_wp2
      refine bodyPost_ret (v := .tuple #[.agg #[.int .i64 room, .slice A 0 0, .int .i64 0, .int .i64 pad, .bool off], .slice A l.length l.length]) (by simp [results, Tryd.results23, go_sem, *]) rfl (and_below ?_ fun hB => ?_)
      · repeat (first | (with_reducible exact V.out.below) | refine Below.setCell ?_ (by simp) _)
      · exact ⟨_, _, _, _, rfl, Rk.nil _ _ _ (by simp), (HR.out.full).below hB⟩
  · have hd1 : dp ⟨room, l, sent, pad, off⟩ = ⟨room, l, sent, pad, off⟩ := if_neg hk
    have hg1 : gn ⟨room, l, sent, pad, off⟩ = [] := if_neg hk
    rw [hd1, hg1]
    rw [decide_eq_false hk] at hI
    clear hk hd1 hg1
    go_enter Tryd.func23, Tryd.ntmps23
    go_wp2_with fail
    refine hI.out.mono ?_
    rintro e w1 ⟨rfl, hb⟩
    replace V := Lib.hid (V.out.call hb)
    clear hb hI
    have g0 := V.out.at 0 rfl
    have g1 := V.out.at 1 rfl
    rw [one_size] at g0
    obtain ⟨⟨c0, c1, c2, c3, c4⟩, ⟨f0, f1, f2, f3, f4⟩, hz⟩ := blk5 g1
    obtain ⟨⟨d0, d1, d2, d3, d4⟩, ⟨k0, k1, k2, k3, k4⟩, hz2⟩ := blk5 g0
    clear g0 g1
    go_wp2
    refine bodyPost_ret (v := .tuple #[.agg #[.int .i64 room, .slice A l.length cap, .int .i64 sent, .int .i64 pad, .bool off], .slice none 0 0]) (by simp [results, Tryd.results23, go_sem, *]) rfl (and_below ?_ fun hB => ?_)
    · repeat (first | (with_reducible exact V.out.below) | refine Below.setCell ?_ (by simp) _)
    · exact ⟨_, _, _, _, rfl, HR.out.below hB, Rk.nil _ _ _ (by simp)⟩
end Go.Proofs.YtgpebdoafblacaaDoor
