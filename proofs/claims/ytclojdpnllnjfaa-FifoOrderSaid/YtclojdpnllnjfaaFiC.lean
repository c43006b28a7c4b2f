/- The reference's fifo: New, Push, Pop. -/
import Derived.Test.YtclojdpnllnjfaaFiB
set_option linter.unusedVariables false
namespace Go.Proofs.Ytclojdpnllnjfaa
open Go.RowKit L
/-- The reference's fifo in memory. -/
def Rf (w : World) (B p room : Nat) (v : Value) (s : Fo) : Prop := w.heap[p]? = some (.cells #[.int .i64 room, v, .int .i64 s.last, .int .i64 s.lost] 37 (0, 0)) ∧ Slr w B 31 2 v s.q.length (flS s.q) ∧ v.ownBlock ≠ some p
def SR (p : Nat) (v : Value) : Nat → Prop := fun k => k = p ∨ v.ownBlock = some k
theorem Rf.keep {S : Nat → Prop} {w w' : World} {B p room : Nat} {v : Value} {s : Fo} (h : Rf w B p room v s) (hU : Upd S w w') (h1 : ¬ S p) (h2 : ∀ k, v.ownBlock = some k → ¬ S k) : Rf w' B p room v s :=
  ⟨hU.keep h.1 h1, h.2.1.same fun k hk => hU.block k (h.2.1.lt k hk).2 (h2 k hk), h.2.2⟩
theorem rnew_no (w : World) (n : Int) (h : n < 1 ∨ 64 < n) : Calls Try.prog 7 #[.int .i64 n] w fun e w' => e = .returned (.tuple #[.pointer none, .int .i64 4]) ∧ w = w' := by
  by_cases h1 : n < 1
  · go_enter Try.func7, Try.ntmps7
    go_wp2
    go_ret2
    exact ⟨rfl, rfl⟩
  · have h2 : 64 < n := by omega
    go_enter Try.func7, Try.ntmps7
    go_wp2
    go_ret2
    exact ⟨rfl, rfl⟩
theorem rnew_yes (w : World) (B n : Nat) (h1 : 1 ≤ n) (h2 : n ≤ 64) : Calls Try.prog 7 #[.int .i64 n] w fun e w' => e = .returned (.tuple #[.pointer (some ⟨w.heap.size, 0, none⟩), .int .i64 0]) ∧ Rf w' B w.heap.size n (.slice none 0 0) ⟨[], 0, 0⟩ ∧ Below w.heap.size w w' := by
  have h3 : ¬ ((n : Int) < 1) := by omega
  have h4 : ¬ (64 < (n : Int)) := by omega
  go_enter Try.func7, Try.ntmps7
  go_wp2
  go_ret2
  exact ⟨rfl, ⟨heap_alloc_new w _, Slr.nil _ _ _ _, by simp [Value.ownBlock]⟩, (Below.refl _ _).alloc (Nat.le_refl _) _⟩
/-- What comes of the reference's row: it lies where it lay, or in new memory. -/
def Mv (w : World) (v v' : Value) : Prop := v'.ownBlock = v.ownBlock ∨ ∃ g, v'.ownBlock = some g ∧ w.heap.size ≤ g
def RfTold (w : World) (B p room : Nat) (v : Value) (s : Fo) (w' : World) : Prop := ∃ v', Rf w' B p room v' s ∧ Mv w v v' ∧ Upd (SR p v) w w'
set_option maxHeartbeats 4000000 in
theorem rpush_any (w : World) (B p room : Nat) (v : Value) (s : Fo) (hs : s.ok) (hq : s.q.length ≤ 64) (b at' : Int) (hi : Rf w B p room v s) (hB : B ≤ w.heap.size) : Calls Try.prog 11 #[.pointer (some ⟨p, 0, none⟩), .int .u8 b, .int .i64 at'] w fun e w' => e = .returned (.int .i64 (s.pe room at')) ∧ RfTold w B p room v (s.ps room b at') w' := by
  obtain ⟨q, last, lost⟩ := s
  obtain ⟨o1, o2, o3, o4⟩ := hs
  obtain ⟨hp, hv, hn⟩ := id hi
  dsimp only at hp hv o1 o2 o3 o4 hq
  have HI := Lib.hid hi
  clear hi
  obtain ⟨⟨c0, c1, c2, c3⟩, ⟨f0, f1, f2, f3⟩, z0⟩ := blk4 hp
  by_cases h1 : at' < last ∨ 1073741824 < at'
  · have e1 : Fo.pe room ⟨q, last, lost⟩ at' = 1 := if_pos h1
    have e2 : Fo.ps room ⟨q, last, lost⟩ b at' = ⟨q, last, lost⟩ := if_pos h1
    rw [e1, e2]
    have HE := Lib.hid (show RfTold w B p room v ⟨q, last, lost⟩ w from ⟨v, HI.out, .inl rfl, Upd.refl _ _⟩)
    clear hp hv hn e1 e2
    by_cases h4 : at' < 0
    · clear h1
      go_enter Try.func11, Try.ntmps11
      go_wp2
      go_ret
      exact ⟨rfl, HE.out⟩
    · by_cases h3 : 1073741824 < at'
      · clear h1
        go_enter Try.func11, Try.ntmps11
        go_wp2
        go_ret
        exact ⟨rfl, HE.out⟩
      · have h2 : at' < last := by omega
        clear h1
        go_enter Try.func11, Try.ntmps11
        go_wp2
        go_ret
        exact ⟨rfl, HE.out⟩
  · have h2 : ¬ at' < last := by omega
    have h3 : ¬ 1073741824 < at' := by omega
    have h4 : ¬ at' < 0 := by omega
    have hp1 := setCell_at (o := 2) (u := .int .i64 at') hp
    have hu1 : Upd (SR p v) w (w.setCell ⟨p, 2, none⟩ (.int .i64 at')) := (Upd.refl _ _).setCell (.inl (.inl rfl)) _
    have hv1 : Slr (w.setCell ⟨p, 2, none⟩ (.int .i64 at')) B 31 2 v q.length (flS q) := hv.same fun k hk => Below.heap_setCell _ _ _ _ (by rintro rfl; exact hn hk)
    obtain ⟨A, cap, rfl⟩ : ∃ A cap, v = .slice A q.length cap := by
      rcases hv.form with ⟨rfl, h0⟩ | ⟨g, off, cap, rfl, _⟩
      · exact ⟨none, 0, by rw [h0]⟩
      · exact ⟨_, cap, rfl⟩
    have HP1 := Lib.hid hp1
    have HV1 := Lib.hid hv1
    have HU1 := Lib.hid hu1
    have HN := Lib.hid hn
    by_cases hl : q.length = room
    · have e1 : Fo.pe room ⟨q, last, lost⟩ at' = 5 := by unfold Fo.pe; rw [if_neg h1, if_pos hl]
      have e2 : Fo.ps room ⟨q, last, lost⟩ b at' = ⟨q, at', lost + 1⟩ := by unfold Fo.ps; rw [if_neg h1, if_pos hl]
      rw [e1, e2]
      have hd : decide ((q.length : Int) = (room : Int)) = true := by rw [decide_eq_true_iff]; omega
      have hd2 : ((q.length : Int) == (room : Int)) = true := by rw [beq_iff_eq]; omega
      clear hp hv hn e1 e2 hp1 hu1 hl h1 hv1
      have hs2 := IntWalk.i64_in (lost + 1) (by omega)
      go_enter Try.func11, Try.ntmps11
      go_wp2_with fail
      go_region
      go_wp2
      go_ret
      refine ⟨rfl, .slice A q.length cap, ⟨?_, ?_, HN.out⟩, .inl rfl, ?_⟩
      · exact setCell_at (w := w.setCell ⟨p, 2, none⟩ (.int .i64 at')) (o := 3) (u := .int .i64 (lost + 1)) HP1.out
      · exact HV1.out.same fun k hk => Below.heap_setCell (w.setCell ⟨p, 2, none⟩ (.int .i64 at')) _ _ _ (by rintro rfl; exact HN.out hk)
      · exact (HU1.out.setCell (p := ⟨p, 3, none⟩) (.inl (.inl rfl)) (.int .i64 (lost + 1))).drew
    · have e1 : Fo.pe room ⟨q, last, lost⟩ at' = 0 := by unfold Fo.pe; rw [if_neg h1, if_neg hl]
      have e2 : Fo.ps room ⟨q, last, lost⟩ b at' = ⟨q ++ [(b, at')], at', lost⟩ := by unfold Fo.ps; rw [if_neg h1, if_neg hl]
      rw [e1, e2]
      have hd : decide ((q.length : Int) = (room : Int)) = false := by rw [decide_eq_false_iff_not]; omega
      have hd2 : ((q.length : Int) == (room : Int)) = false := by rw [beq_eq_false_iff_ne]; omega
      have HQ := Lib.hid hq
      clear hp hv hn e1 e2 hp1 hu1 hl h1 hv1
      obtain ⟨i0, hi, hz0, hz1, hz2⟩ := info_parts Try.info31
      have HI0 := Lib.hid hi
      have HZ0 := Lib.hid hz0
      have HZ1 := Lib.hid hz1
      have HZ2 := Lib.hid hz2
      clear hi hz0 hz1 hz2
      go_enter Try.func11, Try.ntmps11
      go_wp2_with fail
      go_region
      have HP2 := Lib.hid (show (w.setCell ⟨p, 2, none⟩ (.int .i64 at')).drew.heap[p]? = _ from HP1.out)
      have HV2 := Lib.hid (show Slr (w.setCell ⟨p, 2, none⟩ (.int .i64 at')).drew B 31 2 (.slice A q.length cap) q.length (flS q) from HV1.out)
      have HU2 := Lib.hid (HU1.out.drew)
      have HB := Lib.hid (show B ≤ (w.setCell ⟨p, 2, none⟩ (.int .i64 at')).drew.heap.size by simpa [World.drew] using hB)
      obtain ⟨wq, hwq⟩ : ∃ wq, wq = (w.setCell ⟨p, 2, none⟩ (.int .i64 at')).drew := ⟨_, rfl⟩
      rw [← hwq] at HP2 HV2 HU2 HB ⊢
      have hsz : wq.heap.size = w.heap.size := by rw [hwq]; simp [World.drew]
      clear hwq c0 c1 c2 c3 f0 f1 f2 f3
      obtain ⟨⟨c0, c1, c2, c3⟩, ⟨f0, f1, f2, f3⟩, z1⟩ := blk4 HP2.out
      have HSZ := Lib.hid hsz
      clear hsz
      have HRW : Hid (Rw (wq.alloc (.cells #[.int .u8 b, .int .i64 at'] 31)) (.slice (some ⟨wq.heap.size, 0, none⟩) 1 1) 2 1 (flS [(b, at')])) := Rw.lit wq #[.int .u8 b, .int .i64 at'] 31 2 1 1 (by simp)
      go_wp2_with (at_builtin; refine wpList_append_slr rfl (.tmp 47) (.tmp 51) 22 rfl B 31 i0 _ 2 16 Try.underlying22 HI0.out HZ0.out HZ1.out HZ2.out rfl (by decide) _ _ _ rfl (HV2.out.below ((Below.refl _ _).alloc (Nat.le_refl _) _)) _ 1 (flS [(b, at')]) rfl HRW.out ⟨_, _, rfl⟩ (by decide) (flS_one _) ?c1 ?c2 ?c3 ?_)
      case c1 => have := HQ.out; unfold maxLen; omega
      case c2 => have := HQ.out; omega
      case c3 => have := HB.out; simp; omega
      rintro v' w' h1 h2 h3 h4
      have hpw : w'.heap[p]? = some (.cells #[.int .i64 room, .slice A q.length cap, .int .i64 at', .int .i64 lost] 37 (0, 0)) := (h2.block p (by simp; omega) (fun h => HN.out h.symm)).trans (carryA _ HP2.out)
      have HPW := Lib.hid hpw
      have HW1 := Lib.hid h1
      have hU3 : Upd (SR p (.slice A q.length cap)) wq w' := ⟨h2.os, h2.tape, h2.output, by have := h2.size; simp at this; omega, fun k hk hS => (h2.block k (by simp; omega) (fun h => hS (.inr h.symm))).trans (Below.heap_alloc _ _ _ hk)⟩
      have HU3 := Lib.hid (HU2.out.trans hU3)
      have HM : Hid (Mv w (.slice A q.length cap) v') := by
        rcases h3 with h | ⟨g, h, hg⟩
        · exact .inl h
        · have := HSZ.out
          exact .inr ⟨g, h, by omega⟩
      have HNV : Hid (v'.ownBlock ≠ some p) := by
        rcases h3 with h | ⟨g, h, hg⟩
        · rw [h]; exact HN.out
        · rw [h]
          intro he
          have := Option.some.inj he
          omega
      obtain ⟨A', cap', rfl⟩ : ∃ A cap, v' = .slice A (q.length + 1) cap := by
        rcases h1.form with ⟨rfl, h0⟩ | ⟨g, off, cap, rfl, _⟩
        · omega
        · exact ⟨_, cap, rfl⟩
      clear hpw h1 h2 h3 h4 hU3 c0 c1 c2 c3 f0 f1 f2 f3
      obtain ⟨⟨c0, c1, c2, c3⟩, ⟨f0, f1, f2, f3⟩, z2⟩ := blk4 HPW.out
      go_wp2
      go_ret
      refine ⟨rfl, .slice A' (q.length + 1) cap', ⟨setCell_at HPW.out, ?_, HNV.out⟩, HM.out, HU3.out.setCell (.inl (.inl rfl)) _⟩
      have := HW1.out.same (w' := w'.setCell ⟨p, 1, none⟩ (.slice A' (q.length + 1) cap')) fun k hk => Below.heap_setCell _ _ _ _ (by rintro rfl; exact HNV.out hk)
      simpa [flS_append] using this
set_option maxHeartbeats 4000000 in
theorem rpop_any (w : World) (B p room : Nat) (v : Value) (s : Fo) (hq : s.q.length ≤ 64) (hi : Rf w B p room v s) : Calls Try.prog 9 #[.pointer (some ⟨p, 0, none⟩)] w fun e w' => e = .returned (.tuple #[.agg #[.int .u8 s.ov.1, .int .i64 s.ov.2], .int .i64 s.oe]) ∧ RfTold w B p room v s.os w' := by
  obtain ⟨q, last, lost⟩ := s
  obtain ⟨hp, hv, hn⟩ := id hi
  dsimp only at hp hv hq
  have zp := lt_of_block hp
  have hp1 := carryA (.cells #[.int .u8 0, .int .i64 0] 31) hp
  have hv1 := hv.below ((Below.refl _ _).alloc (Nat.le_refl _) (.cells #[.int .u8 0, .int .i64 0] 31))
  have hu1 := (Upd.refl (SR p v) w).alloc (.cells #[.int .u8 0, .int .i64 0] 31)
  have HI := Lib.hid hi
  have HN := Lib.hid hn
  clear hi
  cases q with
  | nil =>
    obtain ⟨A, cap, rfl⟩ : ∃ A cap, v = .slice A 0 cap := by
      rcases hv.form with ⟨rfl, h0⟩ | ⟨g, off, cap, rfl, _⟩
      · exact ⟨none, 0, rfl⟩
      · exact ⟨_, cap, rfl⟩
    have HP1 := Lib.hid hp1
    have HE := Lib.hid (show RfTold w B p room (.slice A 0 cap) ⟨[], last, lost⟩ (w.alloc (.cells #[.int .u8 0, .int .i64 0] 31)) from ⟨_, HI.out.keep (S := fun _ => False) ((Upd.refl _ w).alloc _) (fun h => h) (fun _ _ h => h), .inl rfl, hu1⟩)
    clear hp hv hp1 hv1 hu1 hn hq
    obtain ⟨⟨c0, c1, c2, c3⟩, ⟨f0, f1, f2, f3⟩, z1⟩ := blk4 HP1.out
    go_enter Try.func9, Try.ntmps9
    go_wp2
    exact bodyPost_ret (v := .tuple #[.agg #[.int .u8 0, .int .i64 0], .int .i64 6]) (by simp [results, Try.results9, go_sem]) rfl ⟨rfl, HE.out⟩
  | cons x q =>
    obtain ⟨b, a⟩ := x
    obtain ⟨g, off, cap, rfl, hcap⟩ : ∃ g off cap, v = .slice (some ⟨g, off, none⟩) (q.length + 1) cap ∧ q.length + 1 ≤ cap := by
      rcases hv.form with ⟨rfl, h0⟩ | ⟨g, off, cap, rfl, h, _⟩
      · simp at h0
      · exact ⟨g, off, cap, rfl, h⟩
    have hngp : g ≠ p := fun h => hn (by rw [h]; rfl)
    have hc0 : ∀ j u, (flS ((b, a) :: q))[j]? = some u → w.cell? ⟨g, off + j, none⟩ = some u := by
      obtain ⟨_, A, c, he, hr⟩ := hv.rw
      injection he with e1 e2 e3
      subst e1 e3
      rcases hr with ⟨h, _⟩ | ⟨b', o', h, hc⟩
      · simp at h
      · cases h; exact hc
    have hg0 : w.cell? ⟨g, off, none⟩ = some (.int .u8 b) := hc0 0 (.int .u8 b) rfl
    have hg1 := hc0 1 (.int .i64 a) rfl
    have zg : g < w.heap.size := (hv.lt g rfl).2
    obtain ⟨ht1, ht2⟩ := Slr.tail hv
    have HT1 := Lib.hid ht1
    have HT2 := Lib.hid ht2
    have d0 : ((q.length : Int) + 1 == 0) = false := by rw [beq_eq_false_iff_ne]; omega
    have hp' : w.heap[p]? = some (.cells #[.int .i64 room, .slice (some ⟨g, off, none⟩) (q.length + 1) cap, .int .i64 last, .int .i64 lost] 37 (0, 0)) := hp
    obtain ⟨⟨c0, c1, c2, c3⟩, ⟨f0, f1, f2, f3⟩, -⟩ := blk4 hp'
    have HP := Lib.hid hp'
    clear hp hp' hv hp1 hv1 hu1 hn hc0 ht1 ht2
    have n1 : ¬ p = w.heap.size := by omega
    have n2 : ¬ g = p := hngp
    have n3 : ¬ w.heap.size = p := by omega
    have HQ := Lib.hid hq
    clear hq
    have HF : Hid (∀ v2 : Value, Slr w B 31 2 v2 q.length (flS q) → v2.ownBlock = some g → RfTold w B p room (.slice (some ⟨g, off, none⟩) (q.length + 1) cap) ⟨q, last, lost⟩ (((w.setCell ⟨p, 1, none⟩ v2).alloc (.cells #[.int .u8 b, .int .i64 a] 31)).alloc (.cells #[.int .u8 b, .int .i64 a] 31))) := by
      intro v2 h2 hb
      refine ⟨v2, ⟨carryA _ (carryA _ (setCell_at HP.out)), ?_, by rw [hb]; intro h; exact hngp (Option.some.inj h)⟩, .inl hb, ((Upd.setCell (Upd.refl _ _) (.inl (.inl rfl)) _).alloc _).alloc _⟩
      have h3 : Slr (w.setCell ⟨p, 1, none⟩ v2) B 31 2 v2 q.length (flS q) := h2.same fun k hk => Below.heap_setCell _ _ _ _ (by rintro rfl; rw [hb] at hk; exact hngp (Option.some.inj hk))
      exact (h3.below ((Below.refl _ _).alloc (Nat.le_refl _) _)).below ((Below.refl _ _).alloc (Nat.le_refl _) _)
    by_cases h1 : cap = 1
    · subst h1
      have hq0 : q = [] := List.eq_nil_of_length_eq_zero (by omega)
      subst hq0
      have HT := Lib.hid (HT2.out rfl)
      clear HT1 HT2
      go_enter Try.func9, Try.ntmps9
      go_wp2
      refine bodyPost_ret (v := .tuple #[.agg #[.int .u8 b, .int .i64 a], .int .i64 0]) (by simp [results, Try.results9, go_sem]) rfl ⟨rfl, HF.out _ HT.out rfl⟩
    · have hc1 : 1 < cap := by omega
      go_enter Try.func9, Try.ntmps9
      go_wp2
      refine bodyPost_ret (v := .tuple #[.agg #[.int .u8 b, .int .i64 a], .int .i64 0]) (by simp [results, Try.results9, go_sem]) rfl ⟨rfl, HF.out _ HT1.out rfl⟩
end Go.Proofs.Ytclojdpnllnjfaa
