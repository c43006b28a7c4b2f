/- FifoOrder. -/
import Derived.Test.YtclojdpnllnjfaaFiG
set_option linter.unusedVariables false
namespace Go.Proofs.Ytclojdpnllnjfaa
open Go.RowKit L
set_option maxRecDepth 100000 in
set_option maxHeartbeats 8000000 in
theorem forder_law (room : Int) (v : Value) (l : List (Int × Int)) (w : World) (hv : Rw w v 2 l.length (flS l)) (hm : l.length ≤ maxLen) :
    Calls Try.prog 4 #[.int .i64 room, v] w fun e w' => e = .returned (.bool true) ∧ Below w.heap.size w w' := by
  obtain ⟨_, A, cap, rfl, hv⟩ := hv
  unfold maxLen at hm
  by_cases hr : room < 1 ∨ 64 < room
  · go_enter Try.func4, Try.ntmps4
    go_wp2_with fail
    refine (fnew_no _ room hr).mono ?_
    rintro e w1 ⟨rfl, rfl⟩
    clear hr
    go_wp2_with fail
    refine (queued_any _).mono ?_
    rintro e w1 ⟨rfl, hb⟩
    go_wp2
    go_ret
    exact ⟨rfl, hb⟩
  · obtain ⟨rm, rfl⟩ : ∃ n : Nat, room = n := ⟨room.toNat, by omega⟩
    have hr1 : 1 ≤ rm := by omega
    have hr2 : rm ≤ 64 := by omega
    clear hr
    by_cases hbig : 400 < l.length
    · have hbi : decide ((400 : Int) < (l.length : Int)) = true := by rw [decide_eq_true_iff]; omega
      go_enter Try.func4, Try.ntmps4
      go_wp2_with fail
      refine (fnew_yes _ rm hr1 hr2).mono ?_
      rintro e w1 ⟨p, g, rfl, h1, h2, h3, h4⟩
      go_wp2_with fail
      refine (queued_any _).mono ?_
      rintro e w2 ⟨rfl, hb⟩
      go_wp2
      go_ret
      exact ⟨rfl, h4.trans (hb.mono h4.size)⟩
    · have hbi : decide ((400 : Int) < (l.length : Int)) = false := by rw [decide_eq_false_iff_not]; omega
      obtain ⟨i0, hi, hz0, hz1, hz2⟩ := info_parts Try.info31
      have HI0 := Lib.hid hi
      have HZ0 := Lib.hid hz0
      have HZ1 := Lib.hid hz1
      have HZ2 := Lib.hid hz2
      clear hi hz0 hz1 hz2
      go_enter Try.func4, Try.ntmps4
      go_wp2_with fail
      refine (fnew_yes _ rm hr1 hr2).mono ?_
      rintro e w1 ⟨p, g, rfl, h1, h2, h3, h4⟩
      have V := Lib.hid (((Lf.start h1 h2 h3 h4).call ((Below.refl _ _).alloc (Nat.le_refl _) (.cells #[] 31))).call ((Below.refl _ _).alloc (Nat.le_refl _) (.cells #[] 31)))
      have hz := h3.lt
      have hs1 := h4.size
      have J : Hid (Or w.heap.size w ((w1.alloc (.cells #[] 31)).alloc (.cells #[] 31)) p g rm ⟨[], 0, 0⟩ (.slice (some ⟨w1.heap.size, 0, none⟩) 0 0) [] (.slice (some ⟨w1.heap.size + 1, 0, none⟩) 0 0) []) := by
        have r1 := Slr.of_owns (World.ownsRow_lit (base := w.heap.size) (e := 31) (size := 2) w1 #[] 0 h4.size (by decide) rfl)
        have r2 := Slr.of_owns (World.ownsRow_lit (base := w.heap.size) (e := 31) (size := 2) (w1.alloc (.cells #[] 31)) #[] 0 (by simp; omega) (by decide) rfl)
        rw [one_size] at r2
        refine ⟨V.out, r1.below ((Below.refl _ _).alloc (Nat.le_refl _) _), r2, ⟨?_, ?_⟩, ⟨?_, ?_⟩, ?_⟩
        · simp [Value.ownBlock]; omega
        · simp [Value.ownBlock]; omega
        · simp [Value.ownBlock]; omega
        · simp [Value.ownBlock]; omega
        · intro k hk; simp [Value.ownBlock] at hk ⊢; omega
      clear h1 h2 h3 h4 hz V hs1
      go_wp2_with fail
      go_loopw [7, 8, 9] (fun vi vo i wr => OrdRel w p g rm l.length vi vo i wr) (fun _ _ i _ => l.length - (intOf i).toNat)
      case atStart => exact ⟨0, ⟨[], 0, 0⟩, [], [], Nat.zero_le _, by omega, rfl, ⟨by decide, by decide, by decide, by decide⟩, by decide, by decide, rfl, J.out⟩
      case round =>
        obtain ⟨k, s, li, lo, hk, hk4, rfl, hs, hl, hli, hlo, j⟩ := hrel
        obtain ⟨Ai, ci, rfl⟩ := Slr.slice j.ri
        obtain ⟨Ao, co, rfl⟩ := Slr.slice j.ro
        have JJ := Lib.hid j
        have HS := Lib.hid hs
        have HL := Lib.hid hl
        have HLO := Lib.hid hlo
        have hll : lo.length ≤ li.length := by rw [hlo]; simp
        clear j hs hl J hlo
        by_cases hlt : k < l.length
        · rcases hv with ⟨h0, _⟩ | ⟨b, off, rfl, hc⟩
          · omega
          have hat := flS_at l k (l[k]'hlt) (List.getElem?_eq_getElem hlt)
          have HC : Hid (CL b (off + k * 2) (l[k]'hlt).1 (l[k]'hlt).2 w) := ⟨hc _ _ hat.1, by rw [Nat.add_assoc]; exact hc _ _ hat.2⟩
          clear hat hc
          generalize hx : (l[k]'hlt) = x at HC
          clear hx
          obtain ⟨x1, x2⟩ := x
          have HCW := Lib.hid (CL.lf JJ.out.lf HC.out)
          obtain ⟨q0, q1⟩ := HCW.out
          dsimp only at q0 q1
          by_cases hp : x2 < -1
          · have HO := Lib.hid (Fo.ok_os HS.out HL.out)
            go_wp2_with fail
            refine (fpop_or JJ.out).mono ?_
            rintro e w3 ⟨rfl, j1⟩
            obtain ⟨q, last, lost⟩ := s
            cases q with
            | nil =>
              have he : li = lo := by have := HLO.out; simpa using this
              subst he
              have JB := Lib.hid (j1.call ((Below.refl _ _).alloc (Nat.le_refl _) (.cells #[.int .u8 0, .int .i64 0] 31)))
              have hov : Fo.ov ⟨[], last, lost⟩ = (0, 0) := rfl
              have hoe : Fo.oe ⟨[], last, lost⟩ = 6 := rfl
              rw [hov, hoe]
              dsimp only
              clear j1 q0 q1 hov hoe
              go_wp2
              go_roundw
              case rel => exact ⟨k + 1, _, li, li, by omega, by omega, by go_num, HO.out.1, HO.out.2, by omega, HLO.out, JB.out⟩
              case measure => simp [intOf]; omega
            | cons x q =>
              obtain ⟨b1, a1⟩ := x
              have hov : Fo.ov ⟨(b1, a1) :: q, last, lost⟩ = (b1, a1) := rfl
              have hoe : Fo.oe ⟨(b1, a1) :: q, last, lost⟩ = 0 := rfl
              have hos : Fo.os ⟨(b1, a1) :: q, last, lost⟩ = ⟨q, last, lost⟩ := rfl
              rw [hov, hoe]
              rw [hos] at j1 HO
              dsimp only
              have JB := Lib.hid (j1.call ((Below.refl _ _).alloc (Nat.le_refl _) (.cells #[.int .u8 b1, .int .i64 a1] 31)))
              obtain ⟨⟨a0, a1'⟩, -, az⟩ := blk2 (heap_alloc_new w3 (.cells #[.int .u8 b1, .int .i64 a1] 31))
              have hlt2 : lo.length < li.length := by have := congrArg List.length HLO.out; simp at this; omega
              have HLO2 : Hid (li = (lo ++ [(b1, a1)]) ++ q) := by have := HLO.out; simp only [List.append_assoc]; exact this
              have HLI := Lib.hid hli
              clear j1 q0 q1 hov hoe hos hli
              have HRW : Hid (Rw ((w3.alloc (.cells #[.int .u8 b1, .int .i64 a1] 31)).alloc (.cells #[.int .u8 b1, .int .i64 a1] 31)) (.slice (some ⟨w3.heap.size + 1, 0, none⟩) 1 1) 2 1 (flS [(b1, a1)])) := by
                have := Rw.lit (w3.alloc (.cells #[.int .u8 b1, .int .i64 a1] 31)) #[.int .u8 b1, .int .i64 a1] 31 2 1 1 (by simp)
                rw [one_size] at this
                exact this
              have JC := Lib.hid (JB.out.call ((Below.refl _ _).alloc (Nat.le_refl _) (.cells #[.int .u8 b1, .int .i64 a1] 31)))
              go_wp2_with (at_builtin; refine wpList_append_slr rfl (.tmp 62) (.tmp 64) 22 rfl w.heap.size 31 i0 _ 2 16 Try.underlying22 HI0.out HZ0.out HZ1.out HZ2.out rfl (by decide) _ _ _ rfl JC.out.ro _ 1 (flS [(b1, a1)]) rfl HRW.out ⟨_, _, rfl⟩ (by decide) (flS_one _) ?c1 ?c2 ?c3 ?_)
              case c1 => have := HLI.out; unfold maxLen; omega
              case c2 => have := HLI.out; omega
              case c3 => have := JC.out.lf.below.size; simpa using this
              rintro v' w' h1 h2 h3 -
              have JD := Lib.hid (JC.out.appO h1 h2 (by simpa using h3))
              clear h1 h2 h3
              go_wp2
              go_roundw
              case rel => exact ⟨k + 1, _, li, _, by omega, by omega, by go_num, HO.out.1, HO.out.2, by have := HLI.out; omega, HLO2.out, JD.out⟩
              case measure => simp [intOf]; omega
          · have hlen := JJ.out.lf.fi.len
            have HO := Lib.hid (Fo.ok_ps (room := rm) (b := x1) (a := x2) HS.out HL.out (by omega))
            have h3 := Fo.three rm s x1 x2 hlen.1
            obtain ⟨pe, hpe⟩ : ∃ pe, s.pe rm x2 = pe := ⟨_, rfl⟩
            obtain ⟨so, hso⟩ : ∃ so, s.ps rm x1 x2 = so := ⟨_, rfl⟩
            have HFP := Lib.hid (fun (wz : World) (h : Or w.heap.size w wz p g rm s (.slice Ai li.length ci) li (.slice Ao lo.length co) lo) => (fpush_or h HS.out x1 x2))
            rw [hpe, hso] at HFP h3
            rw [hso] at HO
            clear hpe hso
            have HLI := Lib.hid hli
            clear hli hll
            rcases (show pe = 0 ∧ so.q = s.q ++ [(x1, x2)] ∨ (pe == 0) = false ∧ so.q = s.q by
              rcases h3 with ⟨rfl, rfl⟩ | ⟨rfl, e1, e2, e3⟩ | ⟨rfl, e1, e2, e3⟩
              · exact .inr ⟨rfl, rfl⟩
              · exact .inr ⟨rfl, e2⟩
              · exact .inl ⟨rfl, e2⟩) with ⟨rfl, e2⟩ | ⟨e0, e2⟩
            · have HLO2 : Hid (li ++ [(x1, x2)] = lo ++ so.q) := by rw [e2, HLO.out]; exact List.append_assoc _ _ _
              clear h3 e2
              go_wp2_with fail
              go_region_held3 (fun w' => w'.cell? ⟨b, off + k * 2, none⟩ = some (.int .u8 x1) ∧ w'.cell? ⟨b, off + k * 2 + 1, none⟩ = some (.int .i64 x2)) (first | exact CL.lf (Or.lf (by assumption)) HC.out | exact HCW.out)
                (first | (go_at_call 10; refine (HFP.out _ (JJ.out.call (below_dN _ 1))).mono ?_; rintro e w' ⟨rfl, hj1⟩))
              have HCW2 := Lib.hid (CL.lf hj1.lf HC.out)
              clear q0 q1
              obtain ⟨q0, q1⟩ := HCW2.out
              have JC := Lib.hid (hj1.call ((Below.refl _ _).alloc (Nat.le_refl _) (.cells #[.int .u8 x1, .int .i64 x2] 31)))
              have HRW : Hid (Rw (w'.alloc (.cells #[.int .u8 x1, .int .i64 x2] 31)) (.slice (some ⟨w'.heap.size, 0, none⟩) 1 1) 2 1 (flS [(x1, x2)])) := Rw.lit w' #[.int .u8 x1, .int .i64 x2] 31 2 1 1 (by simp)
              clear hj1
              go_wp2_with (at_builtin; refine wpList_append_slr rfl (.tmp 79) (.tmp 84) 22 rfl w.heap.size 31 i0 _ 2 16 Try.underlying22 HI0.out HZ0.out HZ1.out HZ2.out rfl (by decide) _ _ _ rfl JC.out.ri _ 1 (flS [(x1, x2)]) rfl HRW.out ⟨_, _, rfl⟩ (by decide) (flS_one _) ?c1 ?c2 ?c3 ?_)
              case c1 => have := HLI.out; unfold maxLen; omega
              case c2 => have := HLI.out; omega
              case c3 => have := JC.out.lf.below.size; simpa using this
              rintro v' w'' h1 h2 h3 -
              have JD := Lib.hid (JC.out.appI h1 h2 (by simpa using h3))
              clear h1 h2 h3
              go_wp2
              go_roundw
              case rel => exact ⟨k + 1, so, _, lo, by omega, by omega, by go_num, HO.out.1, HO.out.2, by have := HLI.out; simp; omega, HLO2.out, JD.out⟩
              case measure => simp [intOf]; omega
            · have HLO2 : Hid (li = lo ++ so.q) := by rw [e2]; exact HLO.out
              clear h3 e2
              go_wp2_with fail
              go_region_held3 (fun w' => w'.cell? ⟨b, off + k * 2, none⟩ = some (.int .u8 x1) ∧ w'.cell? ⟨b, off + k * 2 + 1, none⟩ = some (.int .i64 x2)) (first | exact CL.lf (Or.lf (by assumption)) HC.out | exact HCW.out)
                (first | (go_at_call 10; refine (HFP.out _ (JJ.out.call (below_dN _ 1))).mono ?_; rintro e w' ⟨rfl, hj1⟩))
              have JB := Lib.hid hj1
              clear hj1 q0 q1
              go_wp2
              go_roundw
              case rel => exact ⟨k + 1, so, li, lo, by omega, by omega, by go_num, HO.out.1, HO.out.2, by have := HLI.out; omega, HLO2.out, JB.out⟩
              case measure => simp [intOf]; omega
        · have hli4 : li.length ≤ 400 := by omega
          clear hli hll
          go_wp2_with fail
          go_loopw [8] (fun vo wr => OutRel w p g rm (.slice Ai li.length ci) li vo wr) (fun vo _ => li.length - lenV vo)
          case atStart => exact ⟨s, lo, HLO.out, JJ.out⟩
          case round =>
            clear JJ HS HL HLO
            obtain ⟨s, lo, hlo, j⟩ := hrel
            obtain ⟨Ao, co, rfl⟩ := Slr.slice j.ro
            have JJ := Lib.hid j
            have HLO := Lib.hid hlo
            have hll : lo.length ≤ li.length := by rw [hlo]; simp
            obtain ⟨q, last, lost⟩ := s
            clear j hlo
            cases q with
            | nil =>
              have he : li = lo := by have := HLO.out; simpa using this
              subst he
              go_wp2_with fail
              refine (fpop_or JJ.out).mono ?_
              rintro e w3 ⟨rfl, j1⟩
              have hov : Fo.ov ⟨[], last, lost⟩ = (0, 0) := rfl
              have hoe : Fo.oe ⟨[], last, lost⟩ = 6 := rfl
              rw [hov, hoe]
              dsimp only
              have JB := Lib.hid (j1.call ((Below.refl _ _).alloc (Nat.le_refl _) (.cells #[.int .u8 0, .int .i64 0] 31)))
              clear j1 hov hoe
              go_wp2_with fail
              refine (queued_any _).mono ?_
              rintro e w4 ⟨rfl, hb⟩
              have JC := Lib.hid (JB.out.call hb)
              clear hb
              go_wp2_with fail
              refine (sameS_yes _ _ li _ JC.out.ri.rw JC.out.ro.rw (by omega)).mono ?_
              rintro e w5 ⟨rfl, hb⟩
              have JD := Lib.hid (JC.out.call hb)
              clear hb
              go_wp2
              go_ret
              exact ⟨rfl, JD.out.lf.below⟩
            | cons x q =>
              obtain ⟨b1, a1⟩ := x
              have hlt2 : lo.length < li.length := by have := congrArg List.length HLO.out; simp at this; omega
              go_wp2_with fail
              refine (fpop_or JJ.out).mono ?_
              rintro e w3 ⟨rfl, j1⟩
              have hov : Fo.ov ⟨(b1, a1) :: q, last, lost⟩ = (b1, a1) := rfl
              have hoe : Fo.oe ⟨(b1, a1) :: q, last, lost⟩ = 0 := rfl
              have hos : Fo.os ⟨(b1, a1) :: q, last, lost⟩ = ⟨q, last, lost⟩ := rfl
              rw [hov, hoe]
              rw [hos] at j1
              dsimp only
              have JB := Lib.hid (j1.call ((Below.refl _ _).alloc (Nat.le_refl _) (.cells #[.int .u8 b1, .int .i64 a1] 31)))
              obtain ⟨⟨a0, a1'⟩, -, az⟩ := blk2 (heap_alloc_new w3 (.cells #[.int .u8 b1, .int .i64 a1] 31))
              have HLO2 : Hid (li = (lo ++ [(b1, a1)]) ++ q) := by have := HLO.out; simp only [List.append_assoc]; exact this
              clear j1 hov hoe hos
              have HRW : Hid (Rw ((w3.alloc (.cells #[.int .u8 b1, .int .i64 a1] 31)).alloc (.cells #[.int .u8 b1, .int .i64 a1] 31)) (.slice (some ⟨w3.heap.size + 1, 0, none⟩) 1 1) 2 1 (flS [(b1, a1)])) := by
                have := Rw.lit (w3.alloc (.cells #[.int .u8 b1, .int .i64 a1] 31)) #[.int .u8 b1, .int .i64 a1] 31 2 1 1 (by simp)
                rw [one_size] at this
                exact this
              have JC := Lib.hid (JB.out.call ((Below.refl _ _).alloc (Nat.le_refl _) (.cells #[.int .u8 b1, .int .i64 a1] 31)))
              go_wp2_with (at_builtin; refine wpList_append_slr rfl (.tmp 98) (.tmp 100) 22 rfl w.heap.size 31 i0 _ 2 16 Try.underlying22 HI0.out HZ0.out HZ1.out HZ2.out rfl (by decide) _ _ _ rfl JC.out.ro _ 1 (flS [(b1, a1)]) rfl HRW.out ⟨_, _, rfl⟩ (by decide) (flS_one _) ?c1 ?c2 ?c3 ?_)
              case c1 => unfold maxLen; omega
              case c2 => omega
              case c3 => have := JC.out.lf.below.size; simpa using this
              rintro v' w' h1 h2 h3 -
              have JD := Lib.hid (JC.out.appO h1 h2 (by simpa using h3))
              obtain ⟨A', c', rfl⟩ := Slr.slice h1
              clear h1 h2 h3
              go_wp2
              go_roundw
              case rel => exact ⟨_, _, HLO2.out, JD.out⟩
              case measure => simp [lenV]; omega
end Go.Proofs.Ytclojdpnllnjfaa
