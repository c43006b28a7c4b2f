/- From the rows' list of variables to the table of the commands with one form; links that came in, opened. -/
import Derived.Test.YtgpebdoafblacaaDoorCards
import Derived.Test.YtgpebdoafblacaaDoorTie
import Derived.ProofKit
import Derived.OpenShut
import Derived.LaidMore
import Derived.Lay
import Derived.Lib.LaidTab
import Derived.Deep.Slices
import Derived.SevenTiedAt
import Derived.Stop.Joined
import Derived.Deep.DeepHandedRow
import Derived.Lib.SmallJoins
import Derived.Deep.Strs
import Derived.Test.YtgpebdoafblacaaDoorMGp
import Derived.Test.YtgpebdoafblacaaDoorMVc
import Derived.Test.YtgpebdoafblacaaDoorMVq
import Derived.Test.YtgpebdoafblacaaDoorMLb
import Derived.Test.YtgpebdoafblacaaDoorCr
import Derived.Test.YtgpebdoafblacaaDoorRows
import Derived.Test.YtgpebdoafblacaaDoorLkA
set_option linter.unusedVariables false
namespace Go.Proofs.YtgpebdoafblacaaDoor
open Go.ChangeShapes Go.WideShapes Go.ChangeAt Go.RowKit L Vt
namespace TabV
theorem cmdCells : Tryd.prog.cellsOf 26 = 4 := by kernel_rfl
theorem formCells : Tryd.prog.cellsOf 56 = 2 := by kernel_rfl
theorem int32Cells : Tryd.prog.cellsOf 21 = 1 := by kernel_rfl
theorem intCells : Tryd.prog.cellsOf 3 = 1 := by kernel_rfl
theorem strCells : Tryd.prog.cellsOf 9 = 1 := by kernel_rfl
theorem gT : Tryd.prog.globalNamed "typebar/vt.oneForms" = some 0 := by kernel_rfl
theorem tT : (Tryd.prog.globals[0]?).map (·.type) = some 62 := by kernel_rfl
theorem arrCells : Tryd.prog.cellsOf 62 = 12 := by kernel_rfl
/-- A form that can be read. -/
theorem form_cells {H : Type} {enc : TypeId × Value → H} {w : World} {base : Nat} {sp : Nat → Bool} {held : Bool} {fuel : Nat} {cs : List Value} {s : List UInt8} {n : Int} {p : List MemPlace}
    (h : DataW.trod enc Tryd.prog w base sp held fuel 56 cs = some (.agg [.lit (.string s), .lit (.int .i64 n)], p)) : cs = [.string ⟨s.toArray⟩, .int .i64 n] := by
  obtain ⟨y0, y1, m, hx, hl, h0, h1⟩ := trod_struct2 Tryd.underlying56 h
  rw [formCells] at hl
  rw [strCells] at h0
  rw [intCells] at h1
  obtain ⟨z0, e0, r0, _⟩ := DataW.trod_string Tryd.underlying9 h0
  obtain ⟨z1, e1, r1, _⟩ := DataW.trod_int Tryd.underlying3 h1
  match cs, hl with
  | [c0, c1], _ =>
    simp at e0 e1
    subst r0 r1
    simp at hx
    rw [e0, e1, hx.1.1, hx.1.2]
theorem addr_none {w : World} {a : Addr} {u : Value} (h : w.cell? a = some u) : ∃ b off, a = ⟨b, off, none⟩ := by
  obtain ⟨b, off, path⟩ := a
  cases path with
  | none => exact ⟨b, off, rfl⟩
  | some _ =>
    exfalso
    simp only [World.cell?] at h
    split at h <;> simp at h
/-- A variable that is laid as the table of forms. -/
theorem forms_at {W : World} {g0 : Nat} {t0 : TypeId} {cs0 : Array Value} {fuel : Nat} {p : List MemPlace} {base : Nat} {sp : Nat → Bool} {held : Bool} {H : Type} {enc : TypeId × Value → H}
    (hg : Tryd.prog.globalNamed "typebar/vt.oneForms" = some g0) (ht : (Tryd.prog.globals[g0]?).map (·.type) = some t0) (hv : W.var? Tryd.prog "typebar/vt.oneForms" = some cs0)
    (hd : DataW.trod enc Tryd.prog W base sp held fuel t0 cs0.toList = some (Rows.laid_typebar_vt_oneForms, p)) : Forms W 0 := by
  obtain rfl := Option.some.inj (gT.symm.trans hg)
  obtain rfl := Option.some.inj (tT.symm.trans ht)
  obtain ⟨xs, m, _, hx, hl, hlen, hf⟩ := DataW.trod_array Tryd.underlying62 hd
  rw [formCells] at hf
  rw [arrCells] at hl
  match xs, hlen with
  | [a0, a1, a2, a3, a4, a5], _ =>
    simp [Rows.laid_typebar_vt_oneForms] at hx
    obtain ⟨⟨e0, e1, e2, e3, e4, e5⟩, _⟩ := hx
    match hcs : cs0.toList, hl with
    | [c0, c1, c2, c3, c4, c5, c6, c7, c8, c9, c10, c11], _ =>
      rw [hcs] at hf
      have hp : ∀ (x : DataW H × List MemPlace) (d : DataW H), d = x.1 → x = (d, x.2) := fun x d h => by rw [h]
      have k0 := form_cells (show _ = some (_, a0.2) by rw [← hp a0 _ e0]; exact hf 0 (by omega))
      have k1 := form_cells (show _ = some (_, a1.2) by rw [← hp a1 _ e1]; exact hf 1 (by omega))
      have k2 := form_cells (show _ = some (_, a2.2) by rw [← hp a2 _ e2]; exact hf 2 (by omega))
      have k3 := form_cells (show _ = some (_, a3.2) by rw [← hp a3 _ e3]; exact hf 3 (by omega))
      have k4 := form_cells (show _ = some (_, a4.2) by rw [← hp a4 _ e4]; exact hf 4 (by omega))
      have k5 := form_cells (show _ = some (_, a5.2) by rw [← hp a5 _ e5]; exact hf 5 (by omega))
      simp at k0 k1 k2 k3 k4 k5
      have hc : ∀ j : Nat, W.cell? ⟨0, j, none⟩ = [c0, c1, c2, c3, c4, c5, c6, c7, c8, c9, c10, c11][j]? := fun j => by
        rw [World.var?_cell hg hv j, ← Array.getElem?_toList, hcs]
      refine ⟨?_, ?_, ?_, ?_, ?_, ?_, ?_, ?_, ?_, ?_, ?_, ?_⟩
      all_goals rw [hc]
      all_goals simp [k0, k1, k2, k3, k4, k5]
/-- A command that can be read is three numbers and a sign. -/
theorem cmd_cells {H : Type} {enc : TypeId × Value → H} {w : World} {base : Nat} {sp : Nat → Bool} {held : Bool} {fuel : Nat} {cs : List Value} {x : DataW H × List MemPlace}
    (h : DataW.trod enc Tryd.prog w base sp held fuel 26 cs = some x) : ∃ c : Cmd, cs = cells4 c := by
  obtain ⟨y0, y1, y2, y3, n, hx, hl, h0, h1, h2, h3⟩ := Go.Joins.trod_struct4 Tryd.underlying26 h
  rw [cmdCells] at hl
  rw [intCells] at h0 h1 h2
  rw [int32Cells] at h3
  obtain ⟨z0, e0, _⟩ := DataW.trod_int Tryd.underlying3 h0
  obtain ⟨z1, e1, _⟩ := DataW.trod_int Tryd.underlying3 h1
  obtain ⟨z2, e2, _⟩ := DataW.trod_int Tryd.underlying3 h2
  obtain ⟨z3, e3, _⟩ := DataW.trod_int Tryd.underlying21 h3
  match cs, hl with
  | [c0, c1, c2, c3], _ =>
    simp at e0 e1 e2 e3
    exact ⟨(z0, z1, z2, z3), by rw [e0, e1, e2, e3]; rfl⟩
set_option maxRecDepth 100000 in
/-- A slice of commands that came in. -/
theorem open_cmds {H : Type} {enc : TypeId × Value → H} {W : World} {base : Nat} {v : Value} {d : DataW H} {p : List MemPlace}
    (hok : Value.okWide Tryd.prog W .any base 22 v) (h0 : DataW.Trod enc Tryd.prog W 0 (fun _ => true) true 22 v d p) : ∃ l : List Cmd, Rw W v 4 l.length (flatC l) ∧ l.length ≤ maxLen := by
  obtain ⟨A0, len0, cap0, rfl⟩ := okWide_slice Tryd.underlying22 hok
  obtain ⟨fuel, h⟩ := h0
  rcases Deep.open_slice Tryd.underlying22 h with ⟨hcs, _⟩ | ⟨a, len, cap, m, n, D, Pl, hcs, _, hl, hmx, hm, hx, hi⟩
  · simp [Value.cells] at hcs
    obtain ⟨rfl, rfl, rfl⟩ := hcs
    exact ⟨[], ⟨rfl, none, 0, rfl, .inl ⟨rfl, fun _ => rfl⟩⟩, Nat.zero_le _⟩
  · simp [Value.cells] at hcs
    obtain ⟨rfl, rfl, rfl⟩ := hcs
    have hmm : len0 ≤ m := by rw [hm]; split <;> omega
    have hc : ∀ i, ∃ c : Cmd, i < len0 → W.cell? ((a.add (i * 4)).add 0) = some (.int .i64 c.1) ∧ W.cell? ((a.add (i * 4)).add 1) = some (.int .i64 c.2.1) ∧ W.cell? ((a.add (i * 4)).add 2) = some (.int .i64 c.2.2.1) ∧ W.cell? ((a.add (i * 4)).add 3) = some (.int .i32 c.2.2.2) := fun i => by
      by_cases hil : i < len0
      · obtain ⟨cs', hc, ht'⟩ := hi i (by omega)
        obtain ⟨c, rfl⟩ := cmd_cells ht'
        rw [cmdCells] at hc
        obtain ⟨_, _, hat⟩ := World.cells?_some hc
        exact ⟨c, fun _ => ⟨hat 0 (by omega), hat 1 (by omega), hat 2 (by omega), hat 3 (by omega)⟩⟩
      · exact ⟨d0, fun h => absurd h hil⟩
    refine ⟨(List.range len0).map fun i => (hc i).choose, ?_, by simp; omega⟩
    have hlen : ((List.range len0).map fun i => (hc i).choose).length = len0 := by simp
    rw [hlen]
    refine ⟨by rw [flatC_len, hlen], some a, _, rfl, ?_⟩
    by_cases h0 : len0 = 0
    · exact .inl ⟨h0, fun h => by cases h⟩
    · obtain ⟨b, off, rfl⟩ := addr_none (w := W) (a := a) (by simpa [Addr.add] using ((hc 0).choose_spec (by omega)).1)
      refine .inr ⟨b, off, rfl, fun j u hu => ?_⟩
      have hj : j < len0 * 4 := by
        have := (List.getElem?_eq_some_iff.1 hu).1
        rw [flatC_len, hlen] at this; exact this
      have hj2 : j / 4 < len0 := by omega
      obtain ⟨f1, f2, f3, f4⟩ := flatC_at ((List.range len0).map fun i => (hc i).choose) (j / 4) (by rw [hlen]; exact hj2)
      unfold cK cA cB cR at *
      have hg : ((List.range len0).map fun i => (hc i).choose).getD (j / 4) d0 = (hc (j / 4)).choose := by simp [List.getD, hj2]
      rw [hg] at f1 f2 f3 f4
      have hsp := (hc (j / 4)).choose_spec hj2
      generalize (hc (j / 4)).choose = c at hsp f1 f2 f3 f4
      obtain ⟨c1, c2, c3, c4⟩ := hsp
      rw [add_none, add_none] at c1 c2 c3 c4
      rcases (show j = j / 4 * 4 ∨ j = j / 4 * 4 + 1 ∨ j = j / 4 * 4 + 2 ∨ j = j / 4 * 4 + 3 by omega) with e | e | e | e
      · rw [e] at hu ⊢
        rw [f1] at hu
        obtain rfl := Option.some.inj hu
        simpa using c1
      · rw [e] at hu ⊢
        rw [f2] at hu
        obtain rfl := Option.some.inj hu
        simpa [Nat.add_assoc] using c2
      · rw [e] at hu ⊢
        rw [f3] at hu
        obtain rfl := Option.some.inj hu
        simpa [Nat.add_assoc] using c3
      · rw [e] at hu ⊢
        rw [f4] at hu
        obtain rfl := Option.some.inj hu
        simpa [Nat.add_assoc] using c4
end TabV
end Go.Proofs.YtgpebdoafblacaaDoor
namespace Go.Proofs.YtgpebdoafblacaaDoor
open Go.ChangeShapes Go.WideShapes Go.ChangeAt Go.RowKit Go.Joins L Vt
namespace TabK
theorem linkCells : Tryd.prog.cellsOf 24 = 5 := by kernel_rfl
theorem sliceCells : Tryd.prog.cellsOf 22 = 1 := by kernel_rfl
theorem boolCells : Tryd.prog.cellsOf 4 = 1 := by kernel_rfl
theorem array5 {α : Type} {cs : Array α} (h : cs.size = 5) : ∃ c0 c1 c2 c3 c4, cs = #[c0, c1, c2, c3, c4] := by
  obtain ⟨l⟩ := cs
  match l, h with
  | [a, b, c, d, e], _ => exact ⟨a, b, c, d, e, rfl⟩
theorem int_bd {n : Int} (h : (Lit.int .i64 n).wf = true) : -9223372036854775808 ≤ n ∧ n ≤ 9223372036854775807 := by
  simpa [Lit.wf, IntKind.min, IntKind.max, IntKind.signed, IntKind.bits] using h
theorem fields5 {P : Program} {H : Type} {enc : TypeId × Value → H} {w : World} {base : Nat} {spare : Nat → Bool} {held : Bool} {t : TypeId} {f0 f1 f2 f3 f4 : Field} {fuel : Nat} {cs : List Value} {x : DataW H × List MemPlace} (ht : P.underlying t = some (.struct #[f0, f1, f2, f3, f4])) (h : DataW.trod enc P w base spare held fuel t cs = some x) :
    ∃ y0 y1 y2 y3 y4 n, DataW.trod enc P w base spare held n f0.type ((cs.drop f0.offset).take (P.cellsOf f0.type)) = some y0 ∧
      DataW.trod enc P w base spare held n f1.type ((cs.drop f1.offset).take (P.cellsOf f1.type)) = some y1 ∧ DataW.trod enc P w base spare held n f2.type ((cs.drop f2.offset).take (P.cellsOf f2.type)) = some y2 ∧
      DataW.trod enc P w base spare held n f3.type ((cs.drop f3.offset).take (P.cellsOf f3.type)) = some y3 ∧ DataW.trod enc P w base spare held n f4.type ((cs.drop f4.offset).take (P.cellsOf f4.type)) = some y4 := by
  obtain ⟨xs, n, _, rfl, hl, hlen, hf⟩ := DataW.trod_struct ht h
  match xs, hlen with
  | [y0, y1, y2, y3, y4], _ => exact ⟨y0, y1, y2, y3, y4, n, by simpa using hf 0 f0 rfl, by simpa using hf 1 f1 rfl, by simpa using hf 2 f2 rfl, by simpa using hf 3 f3 rfl, by simpa using hf 4 f4 rfl⟩
set_option maxRecDepth 100000 in
theorem open_row {H : Type} {enc : TypeId × Value → H} {W : World} {base : Nat} {sp : Nat → Bool} {held : Bool} {fuel : Nat} {v : Value} {x : DataW H × List MemPlace}
    (h : DataW.trod enc Tryd.prog W base sp held fuel 22 [v] = some x) : ∃ l : List Cmd, Rk W v l ∧ l.length ≤ maxLen := by
  rcases Deep.open_slice Tryd.underlying22 h with ⟨hcs, _⟩ | ⟨a, len, cap, m, n, D, Pl, hcs, _, hl, hmx, hm, hx, hi⟩
  · obtain rfl : v = .slice none 0 0 := by simpa using hcs
    exact ⟨[], Rk.nil _ _ _ (fun _ => rfl), Nat.zero_le _⟩
  · obtain rfl : v = .slice (some a) len cap := by simpa using hcs
    have hmm : len ≤ m := by rw [hm]; split <;> omega
    have hlc : len ≤ cap := by omega
    have hc : ∀ i, ∃ c : Cmd, i < len → W.cell? ((a.add (i * 4)).add 0) = some (.int .i64 c.1) ∧ W.cell? ((a.add (i * 4)).add 1) = some (.int .i64 c.2.1) ∧ W.cell? ((a.add (i * 4)).add 2) = some (.int .i64 c.2.2.1) ∧ W.cell? ((a.add (i * 4)).add 3) = some (.int .i32 c.2.2.2) := fun i => by
      by_cases hil : i < len
      · obtain ⟨cs', hc, ht'⟩ := hi i (by omega)
        obtain ⟨c, rfl⟩ := TabV.cmd_cells ht'
        rw [TabV.cmdCells] at hc
        obtain ⟨_, _, hat⟩ := World.cells?_some hc
        exact ⟨c, fun _ => ⟨hat 0 (by omega), hat 1 (by omega), hat 2 (by omega), hat 3 (by omega)⟩⟩
      · exact ⟨d0, fun h => absurd h hil⟩
    have hlen : ((List.range len).map fun i => (hc i).choose).length = len := by simp
    refine ⟨(List.range len).map fun i => (hc i).choose, ⟨some a, cap, by rw [hlen], by rw [hlen]; exact hlc, ?_⟩, by simp; omega⟩
    rw [hlen]
    refine ⟨by rw [flatC_len, hlen], some a, cap, rfl, ?_⟩
    by_cases h0 : len = 0
    · exact .inl ⟨h0, fun h => by cases h⟩
    · obtain ⟨b, off, rfl⟩ := TabV.addr_none (w := W) (a := a) (by simpa [Addr.add] using ((hc 0).choose_spec (by omega)).1)
      refine .inr ⟨b, off, rfl, fun j u hu => ?_⟩
      have hj : j < len * 4 := by
        have := (List.getElem?_eq_some_iff.1 hu).1
        rw [flatC_len, hlen] at this; exact this
      have hj2 : j / 4 < len := by omega
      obtain ⟨f1, f2, f3, f4⟩ := flatC_at ((List.range len).map fun i => (hc i).choose) (j / 4) (by rw [hlen]; exact hj2)
      have hg : ((List.range len).map fun i => (hc i).choose).getD (j / 4) d0 = (hc (j / 4)).choose := by simp [List.getD, hj2]
      unfold cK at f1
      unfold cA at f2
      unfold cB at f3
      unfold Vt.cR at f4
      rw [hg] at f1 f2 f3 f4
      have hsp := (hc (j / 4)).choose_spec hj2
      generalize (hc (j / 4)).choose = c at hsp f1 f2 f3 f4
      obtain ⟨c1, c2, c3, c4⟩ := hsp
      rw [L.add_none, L.add_none] at c1 c2 c3 c4
      rcases (show j = j / 4 * 4 ∨ j = j / 4 * 4 + 1 ∨ j = j / 4 * 4 + 2 ∨ j = j / 4 * 4 + 3 by omega) with e | e | e | e
      · rw [e] at hu ⊢
        rw [f1] at hu
        obtain rfl := Option.some.inj hu
        simpa using c1
      · rw [e] at hu ⊢
        rw [f2] at hu
        obtain rfl := Option.some.inj hu
        simpa [Nat.add_assoc] using c2
      · rw [e] at hu ⊢
        rw [f3] at hu
        obtain rfl := Option.some.inj hu
        simpa [Nat.add_assoc] using c3
      · rw [e] at hu ⊢
        rw [f4] at hu
        obtain rfl := Option.some.inj hu
        simpa [Nat.add_assoc] using c4
theorem open_link {H : Type} {enc : TypeId × Value → H} {W : World} {b0 base : Nat} {sp : Nat → Bool} {held : Bool} {r : Reach} {v : Value} {d : DataW H} {p : List MemPlace} (hv : Value.okWide Tryd.prog W r b0 24 v) (h : DataW.Trod enc Tryd.prog W base sp held 24 v d p) :
    ∃ (room sent pad : Int) (off : Bool) (A : Option Addr) (cap : Nat) (l : List Cmd), v = .agg #[.int .i64 room, .slice A l.length cap, .int .i64 sent, .int .i64 pad, .bool off] ∧ Rk W (.slice A l.length cap) l ∧ l.length ≤ maxLen := by
  obtain ⟨cs, rfl, hsz⟩ := okWide_struct Tryd.underlying24 hv
  obtain ⟨c0, c1, c2, c3, c4, rfl⟩ := array5 (hsz.trans linkCells)
  obtain ⟨fuel, hf⟩ := h
  obtain ⟨y0, y1, y2, y3, y4, n, h0, h1, h2, h3, h4⟩ := fields5 Tryd.underlying24 hf
  simp only [Value.cells, TabV.intCells, sliceCells, boolCells] at h0 h1 h2 h3 h4
  have h0' : DataW.trod enc Tryd.prog W base sp held n 3 [c0] = some y0 := h0
  have h1' : DataW.trod enc Tryd.prog W base sp held n 22 [c1] = some y1 := h1
  have h2' : DataW.trod enc Tryd.prog W base sp held n 3 [c2] = some y2 := h2
  have h3' : DataW.trod enc Tryd.prog W base sp held n 3 [c3] = some y3 := h3
  have h4' : DataW.trod enc Tryd.prog W base sp held n 4 [c4] = some y4 := h4
  obtain ⟨room, e0, _, _⟩ := DataW.trod_int Tryd.underlying3 h0'
  obtain ⟨sent, e2, _, _⟩ := DataW.trod_int Tryd.underlying3 h2'
  obtain ⟨pad, e3, _, _⟩ := DataW.trod_int Tryd.underlying3 h3'
  obtain ⟨off, e4, _⟩ := DataW.trod_bool Tryd.underlying4 h4'
  obtain ⟨l, hr, hm⟩ := open_row h1'
  obtain ⟨A, cap, rfl, _⟩ := id hr
  simp only [List.cons.injEq, and_true] at e0 e2 e3 e4
  subst e0 e2 e3 e4
  exact ⟨room, sent, pad, off, A, cap, l, rfl, hr, hm⟩
end TabK
end Go.Proofs.YtgpebdoafblacaaDoor
namespace Go.Proofs.YtgpebdoafblacaaDoor
open Go.ChangeShapes Go.WideShapes Go.ChangeAt Go.RowKit L Vt
def seatLaid : List (String × DataW Unit) := [("math/bits.deBruijn32tab", Rows.laid_math_bits_deBruijn32tab), ("math/bits.deBruijn64tab", Rows.laid_math_bits_deBruijn64tab), ("internal/strconv.uint64pow10", Rows.laid_internal_strconv_uint64pow10), ("typebar/vt.oneForms", Rows.laid_typebar_vt_oneForms)]
theorem tabs_of {W : World} (h : laidMetH Tryd.prog seatLaid W) : Forms W 0 := by
  rw [MakeChecks.laidMetH_plain _ _ _ (by kernel_rfl)] at h
  obtain ⟨ps, ⟨_, _, _, _, _, _, _, _, _, _, ⟨_, _, _, _, _, _, _, _, _, _, ⟨_, _, _, _, _, _, _, _, _, _, ⟨g3, t3, cs3, f3, p3, q3, hg3, ht3, hv3, hd3, _, _⟩, _⟩, _⟩, _⟩, _, _⟩ := h
  exact TabV.forms_at hg3 ht3 hv3 hd3
end Go.Proofs.YtgpebdoafblacaaDoor
