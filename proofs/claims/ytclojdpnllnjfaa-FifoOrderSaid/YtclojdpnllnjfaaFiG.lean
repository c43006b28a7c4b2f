/- What went in, and what came out. -/
import Derived.Test.YtclojdpnllnjfaaFiF
import Derived.RegionTactic
set_option linter.unusedVariables false
namespace Go.Proofs.Ytclojdpnllnjfaa
open Go.RowKit L
theorem take_snocS {l : List (Int × Int)} {k : Nat} (h : k < l.length) : l.take (k + 1) = l.take k ++ [l[k]] := by rw [List.take_succ_eq_append_getElem h]
set_option maxHeartbeats 2000000 in
theorem sameS_yes (v1 v2 : Value) (l : List (Int × Int)) (w : World) (h1 : Rw w v1 2 l.length (flS l)) (h2 : Rw w v2 2 l.length (flS l)) (hm : l.length ≤ 1000000) :
    Calls Try.prog 15 #[v1, v2] w fun e w' => e = .returned (.bool true) ∧ Below w.heap.size w w' := by
  obtain ⟨_, A1, c1, rfl, h1⟩ := h1
  obtain ⟨_, A2, c2, rfl, h2⟩ := h2
  go_enter Try.func15, Try.ntmps15
  go_wp2
  go_loopw [5] (fun i wr => ∃ k : Nat, k ≤ l.length ∧ i = .int .i64 k ∧ Below w.heap.size w wr) (fun i _ => l.length - (intOf i).toNat)
  case atStart => exact ⟨0, Nat.zero_le _, rfl, Below.refl _ _⟩
  case round =>
    obtain ⟨k, hk, rfl, hw⟩ := hrel
    by_cases hlt : k < l.length
    · rcases h1 with ⟨h1, _⟩ | ⟨b1, off1, rfl, hca⟩
      · omega
      rcases h2 with ⟨h2, _⟩ | ⟨b2, off2, rfl, hcb⟩
      · omega
      have hat := flS_at l k (l[k]'hlt) (List.getElem?_eq_getElem hlt)
      have keep : ∀ {b o u}, w.cell? ⟨b, o, none⟩ = some u → wr.cell? ⟨b, o, none⟩ = some u := fun {b o u} hu => by
        rw [old_cell hw _ _ (World.block_lt_of_cell? w _ hu)]; exact hu
      have p1 := keep (hca _ _ hat.1)
      have q1 := keep (hca _ _ hat.2)
      have p2 := keep (hcb _ _ hat.1)
      have q2 := keep (hcb _ _ hat.2)
      rw [← Nat.add_assoc] at q1 q2
      clear hca hcb keep hat
      generalize (l[k]'hlt) = x at p1 q1 p2 q2
      obtain ⟨x1, x2⟩ := x
      simp only at p1 q1 p2 q2
      have HW := Lib.hid hw
      clear hw
      go_wp2
      go_quiet (fail)
      go_wp2
      go_roundw
      case rel => exact ⟨k + 1, by omega, by go_num, HW.out.trans ((below_dN _ _).mono HW.out.size)⟩
      case measure => simp [intOf]; omega
    · go_wp2
      go_ret
      exact ⟨rfl, hw⟩
theorem Slr.slice {w : World} {B : Nat} {e : TypeId} {size n : Nat} {v : Value} {xs : List Value} (h : Slr w B e size v n xs) : ∃ A cap, v = .slice A n cap := by
  rcases h.form with ⟨rfl, h0⟩ | ⟨g, off, cap, rfl, _⟩
  · exact ⟨none, 0, by rw [h0]⟩
  · exact ⟨_, cap, rfl⟩
/-- A fifo, what went in, and what came out. -/
structure Or (B : Nat) (W w : World) (p g room : Nat) (s : Fo) (vi : Value) (li : List (Int × Int)) (vo : Value) (lo : List (Int × Int)) : Prop where
  lf : Lf B W w p g room s []
  ri : Slr w B 31 2 vi li.length (flS li)
  ro : Slr w B 31 2 vo lo.length (flS lo)
  ni : vi.ownBlock ≠ some p ∧ vi.ownBlock ≠ some g
  no : vo.ownBlock ≠ some p ∧ vo.ownBlock ≠ some g
  nn : ∀ k, vi.ownBlock = some k → vo.ownBlock ≠ some k
theorem Or.step {B : Nat} {W w w' : World} {p g room : Nat} {s s' : Fo} {vi vo : Value} {li lo : List (Int × Int)} (h : Or B W w p g room s vi li vo lo) (hf : Fi w' p g room s') (hU : Upd (S2 p g) w w') : Or B W w' p g room s' vi li vo lo :=
  ⟨h.lf.step hf hU, h.ri.same fun k hk => hU.block k (h.ri.lt k hk).2 (by rintro (rfl | rfl); exact h.ni.1 hk; exact h.ni.2 hk), h.ro.same fun k hk => hU.block k (h.ro.lt k hk).2 (by rintro (rfl | rfl); exact h.no.1 hk; exact h.no.2 hk), h.ni, h.no, h.nn⟩
theorem Or.call {B : Nat} {W w w' : World} {p g room : Nat} {s : Fo} {vi vo : Value} {li lo : List (Int × Int)} (h : Or B W w p g room s vi li vo lo) (hb : Below w.heap.size w w') : Or B W w' p g room s vi li vo lo :=
  ⟨h.lf.call hb, h.ri.below hb, h.ro.below hb, h.ni, h.no, h.nn⟩
theorem Or.drew {B : Nat} {W w : World} {p g room : Nat} {s : Fo} {vi vo : Value} {li lo : List (Int × Int)} (h : Or B W w p g room s vi li vo lo) : Or B W w.drew p g room s vi li vo lo := h.call (below_dN w 1)
theorem grown_fi {w w' : World} {p g room : Nat} {s : Fo} {v : Value} (hf : Fi w p g room s) (hg : w.grownBy w' v.ownBlock) (h1 : v.ownBlock ≠ some p) (h2 : v.ownBlock ≠ some g) : Fi w' p g room s :=
  hf.keep (S := fun k => v.ownBlock = some k) ⟨hg.os, hg.tape, hg.output, hg.size, fun k hk hn => hg.block k hk fun e => hn e.symm⟩ h1 h2
theorem Or.appI {B : Nat} {W w w' : World} {p g room : Nat} {s : Fo} {vi vo v' : Value} {li lo : List (Int × Int)} {x : Int × Int} (h : Or B W w p g room s vi li vo lo) (h1 : Slr w' B 31 2 v' (li.length + 1) (flS li ++ flS [x])) (h2 : w.grownBy w' vi.ownBlock) (h3 : v'.ownBlock = vi.ownBlock ∨ ∃ g, v'.ownBlock = some g ∧ w.heap.size ≤ g) : Or B W w' p g room s v' (li ++ [x]) vo lo := by
  have hz := h.lf.fi.lt
  have hB := Nat.le_trans h.lf.hB h.lf.below.size
  have mv : ∀ k, k < w.heap.size → vi.ownBlock ≠ some k → v'.ownBlock ≠ some k := fun k hk hn => by
    rcases h3 with e | ⟨b, e, hb⟩
    · rw [e]; exact hn
    · rw [e]; intro he; have := Option.some.inj he; omega
  refine ⟨⟨h.lf.below.grown h2 hB (fun k hk => (h.ri.lt k hk).1), grown_fi h.lf.fi h2 h.ni.1 h.ni.2, fun i x hx => by simp at hx, h.lf.hp, h.lf.hg, h.lf.hB⟩, by simpa [flS_append] using h1, h.ro.kept h2 (fun k hk e => h.nn k e.symm hk), ⟨mv _ hz.1 h.ni.1, mv _ hz.2 h.ni.2⟩, h.no, fun k hk hk2 => mv k (h.ro.lt k hk2).2 (fun e => h.nn k e hk2) hk⟩
theorem Or.appO {B : Nat} {W w w' : World} {p g room : Nat} {s : Fo} {vi vo v' : Value} {li lo : List (Int × Int)} {x : Int × Int} (h : Or B W w p g room s vi li vo lo) (h1 : Slr w' B 31 2 v' (lo.length + 1) (flS lo ++ flS [x])) (h2 : w.grownBy w' vo.ownBlock) (h3 : v'.ownBlock = vo.ownBlock ∨ ∃ g, v'.ownBlock = some g ∧ w.heap.size ≤ g) : Or B W w' p g room s vi li v' (lo ++ [x]) := by
  have hz := h.lf.fi.lt
  have hB := Nat.le_trans h.lf.hB h.lf.below.size
  have mv : ∀ k, k < w.heap.size → vo.ownBlock ≠ some k → v'.ownBlock ≠ some k := fun k hk hn => by
    rcases h3 with e | ⟨b, e, hb⟩
    · rw [e]; exact hn
    · rw [e]; intro he; have := Option.some.inj he; omega
  refine ⟨⟨h.lf.below.grown h2 hB (fun k hk => (h.ro.lt k hk).1), grown_fi h.lf.fi h2 h.no.1 h.no.2, fun i x hx => by simp at hx, h.lf.hp, h.lf.hg, h.lf.hB⟩, h.ri.kept h2 (fun k hk e => h.nn k hk e.symm), by simpa [flS_append] using h1, h.ni, ⟨mv _ hz.1 h.no.1, mv _ hz.2 h.no.2⟩, fun k hk => mv k (h.ri.lt k hk).2 (h.nn k hk)⟩
theorem fpush_or {B : Nat} {W w : World} {p g room : Nat} {s : Fo} {vi vo : Value} {li lo : List (Int × Int)} (h : Or B W w p g room s vi li vo lo) (hs : s.ok) (b a : Int) :
    Calls Try.prog 10 #[.pointer (some ⟨p, 0, none⟩), .int .u8 b, .int .i64 a] w fun e w' => e = .returned (.int .i64 (s.pe room a)) ∧ Or B W w' p g room (s.ps room b a) vi li vo lo :=
  (fpush_any w p g room s hs b a h.lf.fi).mono fun e w' ⟨he, hf, hu⟩ => ⟨he, h.step hf hu⟩
theorem fpop_or {B : Nat} {W w : World} {p g room : Nat} {s : Fo} {vi vo : Value} {li lo : List (Int × Int)} (h : Or B W w p g room s vi li vo lo) :
    Calls Try.prog 8 #[.pointer (some ⟨p, 0, none⟩)] w fun e w' => e = .returned (.tuple #[.agg #[.int .u8 s.ov.1, .int .i64 s.ov.2], .int .i64 s.oe]) ∧ Or B W w' p g room s.os vi li vo lo :=
  (fpop_any w p g room s h.lf.fi).mono fun e w' ⟨he, hf, hu⟩ => ⟨he, h.step hf hu⟩
def OrdRel (W : World) (p g room n : Nat) (vi vo i : Value) (wr : World) : Prop := ∃ (k : Nat) (s : Fo) (li lo : List (Int × Int)), k ≤ n ∧ n ≤ 400 ∧ i = .int .i64 k ∧ s.ok ∧ s.lost ≤ k ∧ li.length ≤ k ∧ li = lo ++ s.q ∧ Or W.heap.size W wr p g room s vi li vo lo
def OutRel (W : World) (p g room : Nat) (vi : Value) (li : List (Int × Int)) (vo : Value) (wr : World) : Prop := ∃ (s : Fo) (lo : List (Int × Int)), li = lo ++ s.q ∧ Or W.heap.size W wr p g room s vi li vo lo
def lenV : Value → Nat | .slice _ n _ => n | _ => 0
end Go.Proofs.Ytclojdpnllnjfaa
