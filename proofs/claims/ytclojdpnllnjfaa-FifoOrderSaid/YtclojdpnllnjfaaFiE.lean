/- FifoDoes. -/
import Derived.Test.YtclojdpnllnjfaaFiD
import Derived.Deep.RegionHeld3
set_option linter.unusedVariables false
namespace Go.Proofs.Ytclojdpnllnjfaa
open Go.RowKit L
/-- A fifo and the reference's, beside each other, and blocks that were made. -/
structure Jn (B : Nat) (W w : World) (p g m room : Nat) (s t : Fo) (Bs : List (Nat × Array Value × TypeId)) : Prop where
  lf : Lf B W w p g room s Bs
  rf : ∃ v, Rf w B m room v t ∧ v.ownBlock ≠ some p ∧ v.ownBlock ≠ some g ∧ ∀ (i : Nat) (x : Nat × Array Value × TypeId), Bs[i]? = some x → v.ownBlock ≠ some x.1
  pm : p ≠ m
  gm : g ≠ m
  hm : B ≤ m
  bm : ∀ (i : Nat) (x : Nat × Array Value × TypeId), Bs[i]? = some x → x.1 ≠ m
theorem Rf.lt {w : World} {B p room : Nat} {v : Value} {s : Fo} (h : Rf w B p room v s) : p < w.heap.size := lt_of_block h.1
theorem Jn.stepF {B : Nat} {W w w' : World} {p g m room : Nat} {s s' t : Fo} {Bs : List (Nat × Array Value × TypeId)} (h : Jn B W w p g m room s t Bs) (hf : Fi w' p g room s') (hU : Upd (S2 p g) w w') : Jn B W w' p g m room s' t Bs := by
  obtain ⟨v, hv, h1, h2, h3⟩ := h.rf
  exact ⟨h.lf.step hf hU, ⟨v, hv.keep hU (by rintro (e | e); exact h.pm e.symm; exact h.gm e.symm) (fun k hk hS => by rcases hS with rfl | rfl; exact h1 hk; exact h2 hk), h1, h2, h3⟩, h.pm, h.gm, h.hm, h.bm⟩
theorem Jn.call {B : Nat} {W w w' : World} {p g m room : Nat} {s t : Fo} {Bs : List (Nat × Array Value × TypeId)} (h : Jn B W w p g m room s t Bs) (hb : Below w.heap.size w w') : Jn B W w' p g m room s t Bs := by
  obtain ⟨v, hv, h1, h2, h3⟩ := h.rf
  exact ⟨h.lf.call hb, ⟨v, hv.keep (Upd.of_below (S := fun _ => False) hb) (fun h => h) (fun _ _ h => h), h1, h2, h3⟩, h.pm, h.gm, h.hm, h.bm⟩
theorem Jn.drop {B : Nat} {W w : World} {p g m room : Nat} {s t : Fo} {Bs : List (Nat × Array Value × TypeId)} (h : Jn B W w p g m room s t Bs) : Jn B W w p g m room s t [] := by
  obtain ⟨v, hv, h1, h2, h3⟩ := h.rf
  exact ⟨⟨h.lf.below, h.lf.fi, fun i x hx => by simp at hx, h.lf.hp, h.lf.hg, h.lf.hB⟩, ⟨v, hv, h1, h2, fun i x hx => by simp at hx⟩, h.pm, h.gm, h.hm, fun i x hx => by simp at hx⟩
theorem Jn.box {B : Nat} {W w : World} {p g m room : Nat} {s t : Fo} {Bs : List (Nat × Array Value × TypeId)} (h : Jn B W w p g m room s t Bs) (cs : Array Value) (y : TypeId) : Jn B W (w.alloc (.cells cs y)) p g m room s t ((w.heap.size, cs, y) :: Bs) := by
  obtain ⟨v, hv, h1, h2, h3⟩ := h.rf
  refine ⟨h.lf.box cs y, ⟨v, hv.keep (S := fun _ => False) ((Upd.refl _ w).alloc _) (fun h => h) (fun _ _ h => h), h1, h2, fun i x hx => ?_⟩, h.pm, h.gm, h.hm, fun i x hx => ?_⟩
  · cases i with
    | zero => simp at hx; subst hx; intro e; have := (hv.2.1.lt _ e).2; simp at this
    | succ i => exact h3 i x (by simpa using hx)
  · cases i with
    | zero => simp at hx; subst hx; have := hv.lt; show w.heap.size ≠ m; omega
    | succ i => exact h.bm i x (by simpa using hx)
/-- The reference's step, told beside the fifo. -/
theorem Jn.stepR {B : Nat} {W w w' : World} {p g m room : Nat} {s t t' : Fo} {Bs : List (Nat × Array Value × TypeId)} (h : Jn B W w p g m room s t Bs) {v : Value} (hv : Rf w B m room v t) (h1 : v.ownBlock ≠ some p) (h2 : v.ownBlock ≠ some g) (h3 : ∀ (i : Nat) (x : Nat × Array Value × TypeId), Bs[i]? = some x → v.ownBlock ≠ some x.1) (hr : RfTold w B m room v t' w') : Jn B W w' p g m room s t' Bs := by
  obtain ⟨v', hv', hm, hU⟩ := hr
  have hz := h.lf.fi.lt
  have hB := Nat.le_trans h.lf.hB h.lf.below.size
  have n1 : ¬ SR m v p := by rintro (e | e); exact h.pm e; exact h1 e
  have n2 : ¬ SR m v g := by rintro (e | e); exact h.gm e; exact h2 e
  have mv : ∀ k, k < w.heap.size → v.ownBlock ≠ some k → v'.ownBlock ≠ some k := fun k hk hn => by
    rcases hm with e | ⟨b, e, hb⟩
    · rw [e]; exact hn
    · rw [e]; intro he; have := Option.some.inj he; omega
  refine ⟨⟨h.lf.below.trans (hU.below hB (fun k hk => by rcases hk with rfl | hk; exact h.hm; exact (hv.2.1.lt k hk).1)), h.lf.fi.keep hU n1 n2, fun i x hx => ?_, h.lf.hp, h.lf.hg, h.lf.hB⟩, ⟨v', hv', mv p hz.1 h1, mv g hz.2 h2, fun i x hx => mv _ (lt_of_block (h.lf.bks i x hx).1) (h3 i x hx)⟩, h.pm, h.gm, h.hm, h.bm⟩
  exact ⟨hU.keep (h.lf.bks i x hx).1 (by rintro (e | e); exact h.bm i x hx e; exact h3 i x hx e), (h.lf.bks i x hx).2⟩
theorem rpush_jn {B : Nat} {W w : World} {p g m room : Nat} {s t : Fo} {Bs : List (Nat × Array Value × TypeId)} (h : Jn B W w p g m room s t Bs) (ht : t.ok) (hq : t.q.length ≤ 64) (b a : Int) :
    Calls Try.prog 11 #[.pointer (some ⟨m, 0, none⟩), .int .u8 b, .int .i64 a] w fun e w' => e = .returned (.int .i64 (t.pe room a)) ∧ Jn B W w' p g m room s (t.ps room b a) Bs := by
  obtain ⟨v, hv, h1, h2, h3⟩ := h.rf
  exact (rpush_any w B m room v t ht hq b a hv (Nat.le_trans h.lf.hB h.lf.below.size)).mono fun e w' ⟨he, hr⟩ => ⟨he, h.stepR hv h1 h2 h3 hr⟩
theorem rpop_jn {B : Nat} {W w : World} {p g m room : Nat} {s t : Fo} {Bs : List (Nat × Array Value × TypeId)} (h : Jn B W w p g m room s t Bs) (hq : t.q.length ≤ 64) :
    Calls Try.prog 9 #[.pointer (some ⟨m, 0, none⟩)] w fun e w' => e = .returned (.tuple #[.agg #[.int .u8 t.ov.1, .int .i64 t.ov.2], .int .i64 t.oe]) ∧ Jn B W w' p g m room s t.os Bs := by
  obtain ⟨v, hv, h1, h2, h3⟩ := h.rf
  exact (rpop_any w B m room v t hq hv).mono fun e w' ⟨he, hr⟩ => ⟨he, h.stepR hv h1 h2 h3 hr⟩
theorem fpush_jn {B : Nat} {W w : World} {p g m room : Nat} {s t : Fo} {Bs : List (Nat × Array Value × TypeId)} (h : Jn B W w p g m room s t Bs) (hs : s.ok) (b a : Int) :
    Calls Try.prog 10 #[.pointer (some ⟨p, 0, none⟩), .int .u8 b, .int .i64 a] w fun e w' => e = .returned (.int .i64 (s.pe room a)) ∧ Jn B W w' p g m room (s.ps room b a) t Bs :=
  (fpush_any w p g room s hs b a h.lf.fi).mono fun e w' ⟨he, hf, hu⟩ => ⟨he, h.stepF hf hu⟩
theorem fpop_jn {B : Nat} {W w : World} {p g m room : Nat} {s t : Fo} {Bs : List (Nat × Array Value × TypeId)} (h : Jn B W w p g m room s t Bs) :
    Calls Try.prog 8 #[.pointer (some ⟨p, 0, none⟩)] w fun e w' => e = .returned (.tuple #[.agg #[.int .u8 s.ov.1, .int .i64 s.ov.2], .int .i64 s.oe]) ∧ Jn B W w' p g m room s.os t Bs :=
  (fpop_any w p g room s h.lf.fi).mono fun e w' ⟨he, hf, hu⟩ => ⟨he, h.stepF hf hu⟩
theorem Fi.len {w : World} {p g room : Nat} {s : Fo} (h : Fi w p g room s) : s.q.length ≤ room ∧ room ≤ 64 := by
  obtain ⟨_, _, _, _, _, _, _, h1, h2, _⟩ := h
  exact ⟨h1, h2⟩
theorem flen_jn {B : Nat} {W w : World} {p g m room : Nat} {s t : Fo} {Bs : List (Nat × Array Value × TypeId)} (h : Jn B W w p g m room s t Bs) : Calls Try.prog 12 #[.pointer (some ⟨p, 0, none⟩)] w fun e w' => e = .returned (.int .i64 s.q.length) ∧ w = w' := by
  obtain ⟨x, y, hc⟩ := h.lf.fi.cells
  exact flen_any w p x y _ _ _ hc
theorem flost_jn {B : Nat} {W w : World} {p g m room : Nat} {s t : Fo} {Bs : List (Nat × Array Value × TypeId)} (h : Jn B W w p g m room s t Bs) : Calls Try.prog 13 #[.pointer (some ⟨p, 0, none⟩)] w fun e w' => e = .returned (.int .i64 s.lost) ∧ w = w' := by
  obtain ⟨x, y, hc⟩ := h.lf.fi.cells
  exact flost_any w p x y _ _ _ hc
theorem below_dN (w : World) (n : Nat) : Below w.heap.size w (w.drewN n) := ⟨rfl, rfl, rfl, Nat.le_refl _, fun _ _ => rfl⟩
theorem Jn.mcells {B : Nat} {W w : World} {p g m room : Nat} {s t : Fo} {Bs : List (Nat × Array Value × TypeId)} (h : Jn B W w p g m room s t Bs) : ∃ A cap, w.heap[m]? = some (.cells #[.int .i64 room, .slice A t.q.length cap, .int .i64 t.last, .int .i64 t.lost] 37 (0, 0)) := by
  obtain ⟨v, hv, _⟩ := h.rf
  obtain ⟨A, cap, rfl⟩ : ∃ A cap, v = .slice A t.q.length cap := by
    rcases hv.2.1.form with ⟨rfl, h0⟩ | ⟨g, off, cap, rfl, _⟩
    · exact ⟨none, 0, by rw [h0]⟩
    · exact ⟨_, cap, rfl⟩
  exact ⟨A, cap, hv.1⟩
theorem Fo.ok_ps {room : Nat} {s : Fo} {b a : Int} {k : Nat} (h : s.ok) (hl : s.lost ≤ k) (hk : k < 100000) : (s.ps room b a).ok ∧ (s.ps room b a).lost ≤ ((k + 1 : Nat) : Int) := by
  obtain ⟨o1, o2, o3, o4⟩ := h
  unfold Fo.ps
  split
  · exact ⟨⟨o1, o2, o3, o4⟩, by omega⟩
  · rename_i hn
    split
    · refine ⟨⟨?_, ?_, ?_, ?_⟩, ?_⟩ <;> simp only <;> omega
    · refine ⟨⟨?_, ?_, ?_, ?_⟩, ?_⟩ <;> simp only <;> omega
theorem Fo.ok_os {s : Fo} {k : Nat} (h : s.ok) (hl : s.lost ≤ k) : s.os.ok ∧ s.os.lost ≤ ((k + 1 : Nat) : Int) := ⟨h, by show s.lost ≤ _; omega⟩
def CL (b o : Nat) (x y : Int) (w : World) : Prop := w.cell? ⟨b, o, none⟩ = some (.int .u8 x) ∧ w.cell? ⟨b, o + 1, none⟩ = some (.int .i64 y)
theorem CL.jn {B : Nat} {W w : World} {p g m room : Nat} {s t : Fo} {Bs : List (Nat × Array Value × TypeId)} (h : Jn B W w p g m room s t Bs) (hB : B = W.heap.size) {b o : Nat} {x y : Int} (hc : CL b o x y W) : CL b o x y w := by
  subst hB
  obtain ⟨h0, h1⟩ := hc
  exact ⟨by rw [old_cell h.lf.below _ _ (World.block_lt_of_cell? W _ h0)]; exact h0, by rw [old_cell h.lf.below _ _ (World.block_lt_of_cell? W _ h1)]; exact h1⟩
def DoesRel (W : World) (p g m room n : Nat) (i : Value) (wr : World) : Prop := ∃ (k : Nat) (s : Fo), k ≤ n ∧ k ≤ 400 ∧ i = .int .i64 k ∧ s.ok ∧ s.lost ≤ k ∧ Jn W.heap.size W wr p g m room s s []
set_option maxRecDepth 100000 in
set_option maxHeartbeats 8000000 in
theorem fdoes_law (room : Int) (v : Value) (l : List (Int × Int)) (w : World) (hv : Rw w v 2 l.length (flS l)) (hm : l.length ≤ maxLen) :
    Calls Try.prog 3 #[.int .i64 room, v] w fun e w' => e = .returned (.bool true) ∧ Below w.heap.size w w' := by
  obtain ⟨_, A, cap, rfl, hv⟩ := hv
  unfold maxLen at hm
  by_cases hr : room < 1 ∨ 64 < room
  · go_enter Try.func3, Try.ntmps3
    go_wp2_with fail
    refine (fnew_no _ room hr).mono ?_
    rintro e w1 ⟨rfl, rfl⟩
    go_wp2_with fail
    refine (rnew_no _ room hr).mono ?_
    rintro e w1 ⟨rfl, rfl⟩
    clear hr
    go_wp2_with fail
    go_loopw [9] (fun i wr => i = .int .i64 0 ∧ wr = w) (fun i _ => 0)
    case atStart => exact ⟨rfl, rfl⟩
    case round =>
      obtain ⟨rfl, rfl⟩ := hrel
      by_cases h0 : 0 < l.length
      · go_wp2_with fail
        refine (queued_any _).mono ?_
        rintro e w1 ⟨rfl, hb⟩
        go_wp2
        go_ret
        exact ⟨rfl, hb⟩
      · go_wp2_with fail
        refine (queued_any _).mono ?_
        rintro e w1 ⟨rfl, hb⟩
        go_wp2
        go_ret
        exact ⟨rfl, hb⟩
  · obtain ⟨rm, rfl⟩ : ∃ n : Nat, room = n := ⟨room.toNat, by omega⟩
    have hr1 : 1 ≤ rm := by omega
    have hr2 : rm ≤ 64 := by omega
    clear hr
    go_enter Try.func3, Try.ntmps3
    go_wp2_with fail
    refine (fnew_yes _ rm hr1 hr2).mono ?_
    rintro e w1 ⟨p, g, rfl, h1, h2, h3, h4⟩
    have V := Lib.hid (Lf.start h1 h2 h3 h4)
    clear h1 h2 h3 h4
    go_wp2_with fail
    refine (rnew_yes _ w.heap.size rm hr1 hr2).mono ?_
    rintro e w2 ⟨rfl, hrf, hb⟩
    have hz := V.out.fi.lt
    have J : Hid (Jn w.heap.size w w2 p g w1.heap.size rm ⟨[], 0, 0⟩ ⟨[], 0, 0⟩ []) := ⟨V.out.call hb, ⟨_, hrf, by simp [Value.ownBlock], by simp [Value.ownBlock], fun i x hx => by simp at hx⟩, by omega, by omega, V.out.below.size, fun i x hx => by simp at hx⟩
    generalize w1.heap.size = m at *
    clear hrf hb hz V
    go_wp2_with fail
    go_loopw [9] (fun i wr => DoesRel w p g m rm l.length i wr) (fun i _ => 400 - (intOf i).toNat)
    case atStart => exact ⟨0, _, Nat.zero_le _, by omega, rfl, ⟨by decide, by decide, by decide, by decide⟩, by decide, J.out⟩
    case round =>
      obtain ⟨k, s, hk, hk4, rfl, hs, hl, j⟩ := hrel
      have JJ := Lib.hid j
      have HS := Lib.hid hs
      have HL := Lib.hid hl
      clear j hs hl J
      by_cases hlt : k < l.length
      · by_cases h400 : k < 400
        · have h4i : (k : Int) < 400 := by omega
          rcases hv with ⟨h0, _⟩ | ⟨b, off, rfl, hc⟩
          · omega
          have hat := flS_at l k (l[k]'hlt) (List.getElem?_eq_getElem hlt)
          have HC : Hid (CL b (off + k * 2) (l[k]'hlt).1 (l[k]'hlt).2 w) := ⟨hc _ _ hat.1, by rw [Nat.add_assoc]; exact hc _ _ hat.2⟩
          clear hat hc
          generalize hx : (l[k]'hlt) = x at HC
          clear hx
          obtain ⟨x1, x2⟩ := x
          have HCW := Lib.hid (CL.jn JJ.out rfl HC.out)
          obtain ⟨q0, q1⟩ := HCW.out
          dsimp only at q0 q1
          by_cases hp : x2 < -1
          · go_wp2_with fail
            refine (fpop_jn JJ.out).mono ?_
            rintro e w3 ⟨rfl, j1⟩
            have hlen := JJ.out.lf.fi.len
            have JB := Lib.hid (j1.box #[.int .u8 s.ov.1, .int .i64 s.ov.2] 31)
            have HO := Lib.hid (Fo.ok_os HS.out HL.out)
            generalize hov : s.ov = ov at *
            generalize hoe : s.oe = oe at *
            obtain ⟨ov1, ov2⟩ := ov
            dsimp only at JB ⊢
            have HOV := Lib.hid hov
            have HOE := Lib.hid hoe
            clear j1 hov hoe q0 q1
            go_wp2_with fail
            refine (rpop_jn JB.out (by omega)).mono ?_
            rintro e w4 ⟨rfl, j2⟩
            rw [HOV.out, HOE.out]
            dsimp only
            have JC := Lib.hid (j2.box #[.int .u8 ov1, .int .i64 ov2] 31)
            clear j2
            obtain ⟨⟨a0, a1⟩, -, az⟩ := blk2 (JC.out.lf.bks 0 _ rfl).1
            obtain ⟨⟨b0, b1⟩, -, bz⟩ := blk2 (JC.out.lf.bks 1 _ rfl).1
            dsimp only at a0 a1 b0 b1 az bz
            go_wp2_with fail
            have JD := Lib.hid JC.out.drop
            obtain ⟨A', cap', hmc⟩ := JC.out.mcells
            obtain ⟨⟨c0, c1, c2, c3⟩, -, cz⟩ := blk4 hmc
            clear a0 a1 b0 b1 az bz hmc
            have hlb : s.os.q.length ≤ 64 := by have := JC.out.lf.fi.len; omega
            generalize hso : s.os = so at *
            have HSO := Lib.hid hso
            clear hso
            obtain ⟨qo, lo, ls⟩ := so
            dsimp only at c0 c1 c2 c3 hlb
            go_quiet ((first | (go_at_call 12; exact Calls.quiet_of_same ((flen_jn (JD.out.call (below_dN _ _))).mono fun e w' ⟨h1, h2⟩ => ⟨h1, h2.symm⟩)) | (go_at_call 13; exact Calls.quiet_of_same ((flost_jn (JD.out.call (below_dN _ _))).mono fun e w' ⟨h1, h2⟩ => ⟨h1, h2.symm⟩))))
            go_wp2
            go_roundw
            case rel => exact ⟨k + 1, ⟨qo, lo, ls⟩, by omega, by omega, by go_num, HO.out.1, HO.out.2, JD.out.call (below_dN _ _)⟩
            case measure => simp [intOf]; omega
          · have hlen := JJ.out.lf.fi.len
            have HO := Lib.hid (Fo.ok_ps (room := rm) (b := x1) (a := x2) HS.out HL.out (by omega))
            have hq64 : s.q.length ≤ 64 := by omega
            have HPE := Lib.hid (rfl : s.pe rm x2 = s.pe rm x2)
            obtain ⟨pe, hpe⟩ : ∃ pe, s.pe rm x2 = pe := ⟨_, rfl⟩
            obtain ⟨so, hso⟩ : ∃ so, s.ps rm x1 x2 = so := ⟨_, rfl⟩
            have HPE := Lib.hid hpe
            have HSO := Lib.hid hso
            clear hpe hso
            have HFP := Lib.hid (fun (wz : World) (h : Jn w.heap.size w wz p g m rm s s []) => (fpush_jn h HS.out x1 x2))
            have HRP := Lib.hid (fun (wz : World) (h : Jn w.heap.size w wz p g m rm so s []) => (rpush_jn h HS.out hq64 x1 x2))
            rw [HPE.out, HSO.out] at HFP HRP
            rw [HSO.out] at HO
            go_wp2_with fail
            go_region_held3 (fun w' => w'.cell? ⟨b, off + k * 2, none⟩ = some (.int .u8 x1) ∧ w'.cell? ⟨b, off + k * 2 + 1, none⟩ = some (.int .i64 x2)) (first | exact CL.jn (by assumption) rfl HC.out | exact HCW.out)
              (first | (go_at_call 10; refine (HFP.out _ (JJ.out.call (below_dN _ 1))).mono ?_; rintro e w' ⟨rfl, hj1⟩)
                     | (go_at_call 11; refine (HRP.out _ (by assumption)).mono ?_; rintro e w' ⟨rfl, hj2⟩))
            have JD := Lib.hid hj2
            obtain ⟨A', cap', hmc⟩ := hj2.mcells
            obtain ⟨⟨c0, c1, c2, c3⟩, -, cz⟩ := blk4 hmc
            clear hmc hj1 hj2 q0 q1
            obtain ⟨qo, lo, ls⟩ := so
            dsimp only at c0 c1 c2 c3
            go_wp2_with fail
            go_quiet ((first | (go_at_call 12; exact Calls.quiet_of_same ((flen_jn (JD.out.call (below_dN _ _))).mono fun e w' ⟨h1, h2⟩ => ⟨h1, h2.symm⟩)) | (go_at_call 13; exact Calls.quiet_of_same ((flost_jn (JD.out.call (below_dN _ _))).mono fun e w' ⟨h1, h2⟩ => ⟨h1, h2.symm⟩))))
            go_wp2
            go_roundw
            case rel => exact ⟨k + 1, ⟨qo, lo, ls⟩, by omega, by omega, by go_num, HO.out.1, HO.out.2, JD.out.call (below_dN _ _)⟩
            case measure => simp [intOf]; omega
        · have h4i : ¬ (k : Int) < 400 := by omega
          go_wp2_with fail
          refine (queued_any _).mono ?_
          rintro e w3 ⟨rfl, hb⟩
          go_wp2
          go_ret
          exact ⟨rfl, (JJ.out.call hb).lf.below⟩
      · go_wp2_with fail
        refine (queued_any _).mono ?_
        rintro e w3 ⟨rfl, hb⟩
        go_wp2
        go_ret
        exact ⟨rfl, (JJ.out.call hb).lf.below⟩
end Go.Proofs.Ytclojdpnllnjfaa
