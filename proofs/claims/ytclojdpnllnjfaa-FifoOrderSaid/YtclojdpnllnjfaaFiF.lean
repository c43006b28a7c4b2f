/- FifoRoom. -/
import Derived.Test.YtclojdpnllnjfaaFiE
set_option linter.unusedVariables false
namespace Go.Proofs.Ytclojdpnllnjfaa
open Go.RowKit L
def RoomRel (W : World) (p g room n : Nat) (lo i : Value) (wr : World) : Prop := ∃ (k : Nat) (s : Fo), k ≤ n ∧ n ≤ 400 ∧ i = .int .i64 k ∧ lo = .int .i64 s.lost ∧ s.ok ∧ s.lost ≤ k ∧ Lf W.heap.size W wr p g room s []
theorem CL.lf {W w : World} {p g room : Nat} {s : Fo} {Bs : List (Nat × Array Value × TypeId)} (h : Lf W.heap.size W w p g room s Bs) {b o : Nat} {x y : Int} (hc : CL b o x y W) : CL b o x y w := by
  obtain ⟨h0, h1⟩ := hc
  exact ⟨by rw [old_cell h.below _ _ (World.block_lt_of_cell? W _ h0)]; exact h0, by rw [old_cell h.below _ _ (World.block_lt_of_cell? W _ h1)]; exact h1⟩
theorem fpush_lf {B : Nat} {W w : World} {p g room : Nat} {s : Fo} {Bs : List (Nat × Array Value × TypeId)} (h : Lf B W w p g room s Bs) (hs : s.ok) (b a : Int) :
    Calls Try.prog 10 #[.pointer (some ⟨p, 0, none⟩), .int .u8 b, .int .i64 a] w fun e w' => e = .returned (.int .i64 (s.pe room a)) ∧ Lf B W w' p g room (s.ps room b a) Bs :=
  (fpush_any w p g room s hs b a h.fi).mono fun e w' ⟨he, hf, hu⟩ => ⟨he, h.step hf hu⟩
theorem fpop_lf {B : Nat} {W w : World} {p g room : Nat} {s : Fo} {Bs : List (Nat × Array Value × TypeId)} (h : Lf B W w p g room s Bs) :
    Calls Try.prog 8 #[.pointer (some ⟨p, 0, none⟩)] w fun e w' => e = .returned (.tuple #[.agg #[.int .u8 s.ov.1, .int .i64 s.ov.2], .int .i64 s.oe]) ∧ Lf B W w' p g room s.os Bs :=
  (fpop_any w p g room s h.fi).mono fun e w' ⟨he, hf, hu⟩ => ⟨he, h.step hf hu⟩
theorem flen_lf {B : Nat} {W w : World} {p g room : Nat} {s : Fo} {Bs : List (Nat × Array Value × TypeId)} (h : Lf B W w p g room s Bs) : Calls Try.prog 12 #[.pointer (some ⟨p, 0, none⟩)] w fun e w' => e = .returned (.int .i64 s.q.length) ∧ w = w' := by
  obtain ⟨x, y, hc⟩ := h.fi.cells
  exact flen_any w p x y _ _ _ hc
theorem flost_lf {B : Nat} {W w : World} {p g room : Nat} {s : Fo} {Bs : List (Nat × Array Value × TypeId)} (h : Lf B W w p g room s Bs) : Calls Try.prog 13 #[.pointer (some ⟨p, 0, none⟩)] w fun e w' => e = .returned (.int .i64 s.lost) ∧ w = w' := by
  obtain ⟨x, y, hc⟩ := h.fi.cells
  exact flost_any w p x y _ _ _ hc
/-- What a push answers, and what becomes of the fifo: one of three. -/
theorem Fo.three (room : Nat) (s : Fo) (b a : Int) (hq : s.q.length ≤ room) : (s.pe room a = 1 ∧ s.ps room b a = s) ∨ (s.pe room a = 5 ∧ s.q.length = room ∧ (s.ps room b a).q = s.q ∧ (s.ps room b a).lost = s.lost + 1) ∨ (s.pe room a = 0 ∧ s.q.length < room ∧ (s.ps room b a).q = s.q ++ [(b, a)] ∧ (s.ps room b a).lost = s.lost) := by
  unfold Fo.pe Fo.ps
  by_cases h : a < s.last ∨ 1073741824 < a
  · exact .inl ⟨if_pos h, if_pos h⟩
  · rw [if_neg h, if_neg h]
    by_cases h2 : s.q.length = room
    · exact .inr (.inl ⟨if_pos h2, h2, by rw [if_pos h2], by rw [if_pos h2]⟩)
    · exact .inr (.inr ⟨if_neg h2, by omega, by rw [if_neg h2], by rw [if_neg h2]⟩)
set_option maxRecDepth 100000 in
set_option maxHeartbeats 8000000 in
theorem froom_law (room : Int) (v : Value) (l : List (Int × Int)) (w : World) (hv : Rw w v 2 l.length (flS l)) (hm : l.length ≤ maxLen) :
    Calls Try.prog 5 #[.int .i64 room, v] w fun e w' => e = .returned (.bool true) ∧ Below w.heap.size w w' := by
  obtain ⟨_, A, cap, rfl, hv⟩ := hv
  unfold maxLen at hm
  by_cases hr : room < 1 ∨ 64 < room
  · by_cases h1 : room < 1
    · go_enter Try.func5, Try.ntmps5
      go_wp2_with fail
      refine (fnew_no _ room hr).mono ?_
      rintro e w1 ⟨rfl, rfl⟩
      clear hr
      go_wp2_with fail
      refine (queued_any _).mono ?_
      rintro e w1 ⟨rfl, hb⟩
      go_wp2
      go_ret
      exact ⟨rfl, hb⟩
    · have h2 : 64 < room := by omega
      go_enter Try.func5, Try.ntmps5
      go_wp2_with fail
      refine (fnew_no _ room hr).mono ?_
      rintro e w1 ⟨rfl, rfl⟩
      clear hr
      go_wp2_with fail
      refine (queued_any _).mono ?_
      rintro e w1 ⟨rfl, hb⟩
      go_wp2
      go_ret
      exact ⟨rfl, hb⟩
  · obtain ⟨rm, rfl⟩ : ∃ n : Nat, room = n := ⟨room.toNat, by omega⟩
    have hr1 : 1 ≤ rm := by omega
    have hr2 : rm ≤ 64 := by omega
    have hi1 : ¬ (rm : Int) < 1 := by omega
    have hi2 : decide ((64 : Int) < (rm : Int)) = false := by rw [decide_eq_false_iff_not]; omega
    clear hr
    by_cases hbig : 400 < l.length
    · have hbi : decide ((400 : Int) < (l.length : Int)) = true := by rw [decide_eq_true_iff]; omega
      go_enter Try.func5, Try.ntmps5
      go_wp2_with fail
      refine (fnew_yes _ rm hr1 hr2).mono ?_
      rintro e w1 ⟨p, g, rfl, h1, h2, h3, h4⟩
      go_wp2_with fail
      refine (queued_any _).mono ?_
      rintro e w2 ⟨rfl, hb⟩
      go_wp2
      go_ret
      exact ⟨rfl, h4.trans (hb.mono h4.size)⟩
    · have hbi : decide ((400 : Int) < (l.length : Int)) = false := by rw [decide_eq_false_iff_not]; omega
      go_enter Try.func5, Try.ntmps5
      go_wp2_with fail
      refine (fnew_yes _ rm hr1 hr2).mono ?_
      rintro e w1 ⟨p, g, rfl, h1, h2, h3, h4⟩
      have V := Lib.hid (Lf.start h1 h2 h3 h4)
      clear h1 h2 h3 h4
      go_wp2_with fail
      go_loopw [7, 8] (fun lo i wr => RoomRel w p g rm l.length lo i wr) (fun _ i _ => l.length - (intOf i).toNat)
      case atStart => exact ⟨0, _, Nat.zero_le _, by omega, rfl, rfl, ⟨by decide, by decide, by decide, by decide⟩, by decide, V.out⟩
      case round =>
        obtain ⟨k, s, hk, hk4, rfl, rfl, hs, hl, j⟩ := hrel
        have JJ := Lib.hid j
        have HS := Lib.hid hs
        have HL := Lib.hid hl
        clear j hs hl V
        by_cases hlt : k < l.length
        · rcases hv with ⟨h0, _⟩ | ⟨b, off, rfl, hc⟩
          · omega
          have hat := flS_at l k (l[k]'hlt) (List.getElem?_eq_getElem hlt)
          have HC : Hid (CL b (off + k * 2) (l[k]'hlt).1 (l[k]'hlt).2 w) := ⟨hc _ _ hat.1, by rw [Nat.add_assoc]; exact hc _ _ hat.2⟩
          clear hat hc
          generalize hx : (l[k]'hlt) = x at HC
          clear hx
          obtain ⟨x1, x2⟩ := x
          have HCW := Lib.hid (CL.lf JJ.out HC.out)
          obtain ⟨q0, q1⟩ := HCW.out
          dsimp only at q0 q1
          go_wp2_with fail
          refine (flen_lf JJ.out).mono ?_
          rintro e w3 ⟨rfl, rfl⟩
          by_cases hp : x2 < -1
          · have HO := Lib.hid (Fo.ok_os HS.out HL.out)
            go_wp2_with fail
            refine (fpop_lf JJ.out).mono ?_
            rintro e w3 ⟨rfl, j1⟩
            have JB := Lib.hid j1
            clear j1 q0 q1
            go_wp2
            go_roundw
            case rel => exact ⟨k + 1, s.os, by omega, by omega, by go_num, rfl, HO.out.1, HO.out.2, JB.out⟩
            case measure => simp [intOf]; omega
          · have hlen := JJ.out.fi.len
            have HO := Lib.hid (Fo.ok_ps (room := rm) (b := x1) (a := x2) HS.out HL.out (by omega))
            have h3 := Fo.three rm s x1 x2 hlen.1
            have ho := HS.out
            obtain ⟨o1, o2, o3, o4⟩ := ho
            have hs2 := IntWalk.i64_in (s.lost + 1) (by omega)
            obtain ⟨pe, hpe⟩ : ∃ pe, s.pe rm x2 = pe := ⟨_, rfl⟩
            obtain ⟨so, hso⟩ : ∃ so, s.ps rm x1 x2 = so := ⟨_, rfl⟩
            have HFP := Lib.hid (fun (wz : World) (h : Lf w.heap.size w wz p g rm s []) => (fpush_lf h HS.out x1 x2))
            rw [hpe, hso] at HFP h3
            rw [hso] at HO
            clear hpe hso o1 o2 o4
            rcases h3 with ⟨rfl, rfl⟩ | ⟨rfl, e1, e2, e3⟩ | ⟨rfl, e1, e2, e3⟩
            · have m1 : decide ((rm : Int) < (so.q.length : Int)) = false := by rw [decide_eq_false_iff_not]; omega
              go_wp2_with fail
              go_region_held3 (fun w' => w'.cell? ⟨b, off + k * 2, none⟩ = some (.int .u8 x1) ∧ w'.cell? ⟨b, off + k * 2 + 1, none⟩ = some (.int .i64 x2)) (first | exact CL.lf (by assumption) HC.out | exact HCW.out)
                (first | (go_at_call 10; refine (HFP.out _ (JJ.out.call (below_dN _ 1))).mono ?_; rintro e w' ⟨rfl, hj1⟩))
              have JB := Lib.hid hj1
              clear hj1 q0 q1
              go_wp2_with fail
              refine (flen_lf JB.out).mono ?_
              rintro e w5 ⟨rfl, rfl⟩
              go_wp2_with fail
              refine (flost_lf JB.out).mono ?_
              rintro e w5 ⟨rfl, rfl⟩
              go_wp2
              go_roundw
              case rel => exact ⟨k + 1, so, by omega, by omega, by go_num, rfl, HO.out.1, HO.out.2, JB.out⟩
              case measure => simp [intOf]; omega
            · have m1 : decide ((rm : Int) < (so.q.length : Int)) = false := by rw [decide_eq_false_iff_not, e2]; omega
              have m5 : so.q.length ≤ rm := by rw [e2]; omega
              have m2 : ((s.q.length : Int) == (rm : Int)) = true := by rw [beq_iff_eq]; omega
              have m3 : ((s.q.length : Int) != (rm : Int)) = false := by rw [bne, m2]; rfl
              have m4 : (so.lost != s.lost + 1) = false := by rw [e3]; simp
              have E3 := Lib.hid e3
              clear e1 e2 e3
              go_wp2_with fail
              go_region_held3 (fun w' => w'.cell? ⟨b, off + k * 2, none⟩ = some (.int .u8 x1) ∧ w'.cell? ⟨b, off + k * 2 + 1, none⟩ = some (.int .i64 x2)) (first | exact CL.lf (by assumption) HC.out | exact HCW.out)
                (first | (go_at_call 10; refine (HFP.out _ (JJ.out.call (below_dN _ 1))).mono ?_; rintro e w' ⟨rfl, hj1⟩))
              have JB := Lib.hid hj1
              clear hj1 q0 q1
              go_wp2_with fail
              refine (flen_lf JB.out).mono ?_
              rintro e w5 ⟨rfl, rfl⟩
              go_wp2_with fail
              refine (flost_lf JB.out).mono ?_
              rintro e w5 ⟨rfl, rfl⟩
              go_wp2
              go_roundw
              case rel => exact ⟨k + 1, so, by omega, by omega, by go_num, by rw [E3.out], HO.out.1, HO.out.2, JB.out⟩
              case measure => simp [intOf]; omega
            · have m1 : decide ((rm : Int) < (so.q.length : Int)) = false := by rw [decide_eq_false_iff_not, e2]; simp; omega
              have m5 : so.q.length ≤ rm := by rw [e2]; simp; omega
              have m6 : ¬ s.q.length = rm := by omega
              have m2 : ((s.q.length : Int) == (rm : Int)) = false := by rw [beq_eq_false_iff_ne]; omega
              have m3 : ((s.q.length : Int) != (rm : Int)) = true := by rw [bne, m2]; rfl
              have m4 : (so.lost != s.lost) = false := by rw [e3]; simp
              have E3 := Lib.hid e3
              clear e1 e2 e3
              go_wp2_with fail
              go_region_held3 (fun w' => w'.cell? ⟨b, off + k * 2, none⟩ = some (.int .u8 x1) ∧ w'.cell? ⟨b, off + k * 2 + 1, none⟩ = some (.int .i64 x2)) (first | exact CL.lf (by assumption) HC.out | exact HCW.out)
                (first | (go_at_call 10; refine (HFP.out _ (JJ.out.call (below_dN _ 1))).mono ?_; rintro e w' ⟨rfl, hj1⟩))
              have JB := Lib.hid hj1
              clear hj1 q0 q1
              go_wp2_with fail
              refine (flen_lf JB.out).mono ?_
              rintro e w5 ⟨rfl, rfl⟩
              go_wp2_with fail
              refine (flost_lf JB.out).mono ?_
              rintro e w5 ⟨rfl, rfl⟩
              go_wp2
              go_roundw
              case rel => exact ⟨k + 1, so, by omega, by omega, by go_num, by rw [E3.out], HO.out.1, HO.out.2, JB.out⟩
              case measure => simp [intOf]; omega
        · go_wp2_with fail
          refine (queued_any _).mono ?_
          rintro e w3 ⟨rfl, hb⟩
          go_wp2
          go_ret
          exact ⟨rfl, (JJ.out.call hb).below⟩
end Go.Proofs.Ytclojdpnllnjfaa
