/- What lasts beside a fifo; the statements' example. -/
import Derived.Test.YtclojdpnllnjfaaFiC
import Derived.BigGuardPart
import Derived.BigQuiet
import Derived.Deep.QuietTactic
set_option linter.unusedVariables false
namespace Go.Proofs.Ytclojdpnllnjfaa
open Go.RowKit L
/-- What lasts beside a fifo: all that was there ahead, and blocks that were made. -/
structure Lf (B : Nat) (W w : World) (p g room : Nat) (s : Fo) (Bs : List (Nat × Array Value × TypeId)) : Prop where
  below : Below B W w
  fi : Fi w p g room s
  bks : ∀ (i : Nat) (x : Nat × Array Value × TypeId), Bs[i]? = some x → w.heap[x.1]? = some (.cells x.2.1 x.2.2 (0, 0)) ∧ x.1 ≠ p ∧ x.1 ≠ g
  hp : B ≤ p
  hg : B ≤ g
  hB : B ≤ W.heap.size
theorem Fi.lt {w : World} {p g room : Nat} {s : Fo} (h : Fi w p g room s) : p < w.heap.size ∧ g < w.heap.size := by
  obtain ⟨_, _, hp, hg, _⟩ := h
  exact ⟨lt_of_block hp, lt_of_block hg⟩
theorem Lf.step {B : Nat} {W w w' : World} {p g room : Nat} {s s' : Fo} {Bs : List (Nat × Array Value × TypeId)} (h : Lf B W w p g room s Bs) (hf : Fi w' p g room s') (hU : Upd (S2 p g) w w') : Lf B W w' p g room s' Bs :=
  ⟨h.below.trans (hU.below (Nat.le_trans h.hB h.below.size) (fun k hk => by rcases hk with rfl | rfl; exact h.hp; exact h.hg)), hf, fun i x hx => ⟨hU.keep (h.bks i x hx).1 (by rintro (e | e); exact (h.bks i x hx).2.1 e; exact (h.bks i x hx).2.2 e), (h.bks i x hx).2⟩, h.hp, h.hg, h.hB⟩
theorem Lf.call {B : Nat} {W w w' : World} {p g room : Nat} {s : Fo} {Bs : List (Nat × Array Value × TypeId)} (h : Lf B W w p g room s Bs) (hb : Below w.heap.size w w') : Lf B W w' p g room s Bs :=
  ⟨h.below.trans (hb.mono (Nat.le_trans h.hB h.below.size)), h.fi.keep (Upd.of_below (S := fun _ => False) hb) (fun h => h) (fun h => h), fun i x hx => ⟨carry hb (h.bks i x hx).1, (h.bks i x hx).2⟩, h.hp, h.hg, h.hB⟩
theorem Lf.box {B : Nat} {W w : World} {p g room : Nat} {s : Fo} {Bs : List (Nat × Array Value × TypeId)} (h : Lf B W w p g room s Bs) (cs : Array Value) (t : TypeId) : Lf B W (w.alloc (.cells cs t)) p g room s ((w.heap.size, cs, t) :: Bs) := by
  have h' := h.call ((Below.refl _ _).alloc (Nat.le_refl _) (.cells cs t))
  refine ⟨h'.below, h'.fi, fun i x hx => ?_, h.hp, h.hg, h.hB⟩
  cases i with
  | zero => simp at hx; subst hx; exact ⟨heap_alloc_new w _, by have := h.fi.lt.1; show w.heap.size ≠ p; omega, by have := h.fi.lt.2; show w.heap.size ≠ g; omega⟩
  | succ i => exact h'.bks i x (by simpa using hx)
theorem Lf.start {w w' : World} {p g room : Nat} (h1 : w.heap.size ≤ p) (h2 : w.heap.size ≤ g) (h3 : Fi w' p g room ⟨[], 0, 0⟩) (h4 : Below w.heap.size w w') : Lf w.heap.size w w' p g room ⟨[], 0, 0⟩ [] :=
  ⟨h4, h3, fun i x hx => by simp at hx, h1, h2, Nat.le_refl _⟩
namespace Fo
def s1 : Fo := ⟨[(97, 5)], 5, 0⟩
def s2 : Fo := ⟨[(97, 5), (98, 7)], 7, 0⟩
def s3 : Fo := ⟨[(97, 5), (98, 7)], 9, 1⟩
def s4 : Fo := ⟨[(98, 7)], 9, 1⟩
def s5 : Fo := ⟨[], 9, 1⟩
theorem a1 : ps 2 ⟨[], 0, 0⟩ 97 5 = s1 ∧ pe 2 ⟨[], 0, 0⟩ 5 = 0 ∧ ok ⟨[], 0, 0⟩ := by refine ⟨?_, ?_, ?_⟩ <;> simp [ps, pe, ok, s1]
theorem a2 : ps 2 s1 98 7 = s2 ∧ pe 2 s1 7 = 0 ∧ ok s1 := by refine ⟨?_, ?_, ?_⟩ <;> simp [ps, pe, ok, s1, s2]
theorem a3 : ps 2 s2 99 9 = s3 ∧ pe 2 s2 9 = 5 ∧ ok s2 := by refine ⟨?_, ?_, ?_⟩ <;> simp [ps, pe, ok, s2, s3]
theorem a4 : ps 2 s3 100 8 = s3 ∧ pe 2 s3 8 = 1 ∧ ok s3 := by refine ⟨?_, ?_, ?_⟩ <;> simp [ps, pe, ok, s3]
theorem a5 : os s3 = s4 ∧ ov s3 = (97, 5) ∧ oe s3 = 0 ∧ os s4 = s5 ∧ ov s4 = (98, 7) ∧ oe s4 = 0 ∧ os s5 = s5 ∧ ov s5 = (0, 0) ∧ oe s5 = 6 := by refine ⟨rfl, rfl, rfl, rfl, rfl, rfl, rfl, rfl, rfl⟩
end Fo
theorem Fi.cells {w : World} {p g room : Nat} {s : Fo} (h : Fi w p g room s) : ∃ a b, w.heap[p]? = some (.cells #[a, b, .int .i64 s.q.length, .int .i64 s.last, .int .i64 s.lost] 45 (0, 0)) := by
  obtain ⟨_, _, hp, _⟩ := h
  exact ⟨_, _, hp⟩
set_option maxRecDepth 100000 in
set_option maxHeartbeats 16000000 in
theorem queued_any (w : World) : Calls Try.prog 14 #[] w fun e w' => e = .returned (.bool true) ∧ Below w.heap.size w w' := by
  go_enter Try.func14, Try.ntmps14
  simp only [List.append]
  go_wp2_with fail
  refine (fnew_yes w 2 (by decide) (by decide)).mono ?_
  rintro e w1 ⟨p, g, rfl, h1, h2, h3, h4⟩
  have V := Lib.hid (Lf.start h1 h2 h3 h4)
  clear h1 h2 h3 h4
  go_wp2_with fail
  refine (fpush_any _ p g 2 _ Fo.a1.2.2 97 5 V.out.fi).mono ?_
  rintro e w2 ⟨rfl, hf, hu⟩
  rw [Fo.a1.1] at hf
  rw [Fo.a1.2.1]
  replace V := Lib.hid (V.out.step hf hu)
  clear hf hu
  go_wp2_with fail
  refine (fpush_any _ p g 2 _ Fo.a2.2.2 98 7 V.out.fi).mono ?_
  rintro e w3 ⟨rfl, hf, hu⟩
  rw [Fo.a2.1] at hf
  rw [Fo.a2.2.1]
  replace V := Lib.hid (V.out.step hf hu)
  clear hf hu
  go_wp2_with fail
  refine (fpush_any _ p g 2 _ Fo.a3.2.2 99 9 V.out.fi).mono ?_
  rintro e w4 ⟨rfl, hf, hu⟩
  rw [Fo.a3.1] at hf
  rw [Fo.a3.2.1]
  replace V := Lib.hid (V.out.step hf hu)
  clear hf hu
  go_wp2_with fail
  refine (fpush_any _ p g 2 _ Fo.a4.2.2 100 8 V.out.fi).mono ?_
  rintro e w5 ⟨rfl, hf, hu⟩
  rw [Fo.a4.1] at hf
  rw [Fo.a4.2.1]
  replace V := Lib.hid (V.out.step hf hu)
  clear hf hu
  go_wp2_with fail
  refine (fpop_any _ p g 2 _ V.out.fi).mono ?_
  rintro e w6 ⟨rfl, hf, hu⟩
  rw [Fo.a5.1] at hf
  rw [Fo.a5.2.1, Fo.a5.2.2.1]
  replace V := Lib.hid ((V.out.step hf hu).box #[.int .u8 97, .int .i64 5] 31)
  clear hf hu
  go_wp2_with fail
  refine (fpop_any _ p g 2 _ V.out.fi).mono ?_
  rintro e w7 ⟨rfl, hf, hu⟩
  rw [Fo.a5.2.2.2.1] at hf
  rw [Fo.a5.2.2.2.2.1, Fo.a5.2.2.2.2.2.1]
  replace V := Lib.hid ((V.out.step hf hu).box #[.int .u8 98, .int .i64 7] 31)
  clear hf hu
  go_wp2_with fail
  refine (fpop_any _ p g 2 _ V.out.fi).mono ?_
  rintro e w8 ⟨rfl, hf, hu⟩
  rw [Fo.a5.2.2.2.2.2.2.1] at hf
  rw [Fo.a5.2.2.2.2.2.2.2.1, Fo.a5.2.2.2.2.2.2.2.2]
  replace V := Lib.hid ((V.out.step hf hu).box #[.int .u8 0, .int .i64 0] 31)
  clear hf hu
  go_wp2_with fail
  refine (fnew_no _ 65 (by decide)).mono ?_
  rintro e w9 ⟨rfl, rfl⟩
  go_wp2_with fail
  refine (fpop_nil _).mono ?_
  rintro e w10 ⟨rfl, hb⟩
  replace V := Lib.hid ((V.out.call hb).box #[.int .u8 0, .int .i64 0] 31)
  clear hb
  go_wp2_with fail
  refine (fpush_nil 1 1 _).mono ?_
  rintro e w11 ⟨rfl, rfl⟩
  go_wp2_with fail
  refine (flen_nil _).mono ?_
  rintro e w11 ⟨rfl, rfl⟩
  have g1 := (V.out.bks 3 _ rfl).1
  have g2 := (V.out.bks 2 _ rfl).1
  dsimp only at g1 g2
  obtain ⟨⟨a0, a1⟩, -, az⟩ := blk2 g1
  obtain ⟨⟨b0, b1⟩, -, bz⟩ := blk2 g2
  clear g1 g2
  go_wp2_with fail
  obtain ⟨x, y, hc⟩ := V.out.fi.cells
  refine (flost_any _ p x y _ _ _ hc).mono ?_
  rintro e w11 ⟨rfl, rfl⟩
  clear hc
  go_wp2_with fail
  obtain ⟨x, y, hc⟩ := V.out.fi.cells
  refine (flen_any _ p x y _ _ _ hc).mono ?_
  rintro e w11 ⟨rfl, rfl⟩
  clear hc
  go_wp2
  go_ret
  exact ⟨rfl, V.out.below⟩
end Go.Proofs.Ytclojdpnllnjfaa
