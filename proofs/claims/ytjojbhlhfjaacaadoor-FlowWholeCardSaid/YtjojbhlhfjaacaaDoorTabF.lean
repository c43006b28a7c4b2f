/- From the rows' list of variables to the table of the wide signs' spans and to the blank cell, cell by cell. -/
import Derived.Test.YtjojbhlhfjaacaaDoorCards
import Derived.Test.YtjojbhlhfjaacaaDoorTie
import Derived.Test.YtjojbhlhfjaacaaDoorWdA
import Derived.Test.YtjojbhlhfjaacaaDoorLibC
import Derived.Test.YtjojbhlhfjaacaaDoorBk
import Derived.ProofKit
import Derived.OpenShut
import Derived.LaidMore
import Derived.Lay
import Derived.Lib.LaidTab
import Derived.Deep.Slices
import Derived.SevenTiedAt
import Derived.Stop.Joined
import Derived.Deep.DeepHandedRow
set_option linter.unusedVariables false
namespace Go.Proofs.YtjojbhlhfjaacaaDoor
open Go.ChangeShapes Go.WideShapes Go.ChangeAt Go.RowKit L Wd
namespace TabF
theorem spanCells : Tryd.prog.cellsOf 54 = 2 := by kernel_rfl
theorem cellCells : Tryd.prog.cellsOf 40 = 2 := by kernel_rfl
theorem int32Cells : Tryd.prog.cellsOf 21 = 1 := by kernel_rfl
theorem intCells : Tryd.prog.cellsOf 3 = 1 := by kernel_rfl
theorem gS : Tryd.prog.globalNamed "typebar/wide.wideSpans" = some 1 := by kernel_rfl
theorem tS : (Tryd.prog.globals[1]?).map (·.type) = some 52 := by kernel_rfl
theorem gB : Tryd.prog.globalNamed "typebar/flow.blank" = some 0 := by kernel_rfl
theorem tB : (Tryd.prog.globals[0]?).map (·.type) = some 40 := by kernel_rfl
theorem pair_cells {H : Type} {enc : TypeId × Value → H} {w : World} {base : Nat} {sp : Nat → Bool} {held : Bool} {fuel : Nat} {cs : List Value} {a b : Int} {p : List MemPlace}
    (h : DataW.trod enc Tryd.prog w base sp held fuel 54 cs = some (.agg [.lit (.int .i32 a), .lit (.int .i32 b)], p)) : cs = [.int .i32 a, .int .i32 b] := by
  obtain ⟨y0, y1, n, hx, hl, h0, h1⟩ := trod_struct2 Tryd.underlying54 h
  rw [spanCells] at hl
  rw [int32Cells] at h0 h1
  obtain ⟨z0, e0, r0, _⟩ := DataW.trod_int Tryd.underlying21 h0
  obtain ⟨z1, e1, r1, _⟩ := DataW.trod_int Tryd.underlying21 h1
  match cs, hl with
  | [c0, c1], _ =>
    simp at e0 e1
    subst r0 r1
    simp at hx
    rw [e0, e1, hx.1.1, hx.1.2]
/-- A cell that can be read is two numbers. -/
theorem cell_cells {H : Type} {enc : TypeId × Value → H} {w : World} {base : Nat} {sp : Nat → Bool} {held : Bool} {fuel : Nat} {cs : List Value} {x : DataW H × List MemPlace}
    (h : DataW.trod enc Tryd.prog w base sp held fuel 40 cs = some x) : ∃ a b, cs = [.int .i32 a, .int .i64 b] ∧ x.1 = .agg [.lit (.int .i32 a), .lit (.int .i64 b)] := by
  obtain ⟨y0, y1, n, hx, hl, h0, h1⟩ := trod_struct2 Tryd.underlying40 h
  rw [cellCells] at hl
  rw [int32Cells] at h0
  rw [intCells] at h1
  obtain ⟨z0, e0, r0, _⟩ := DataW.trod_int Tryd.underlying21 h0
  obtain ⟨z1, e1, r1, _⟩ := DataW.trod_int Tryd.underlying3 h1
  match cs, hl with
  | [c0, c1], _ =>
    simp at e0 e1
    subst r0 r1
    exact ⟨z0, z1, by rw [e0, e1], by rw [hx]⟩
theorem laid_eq {H : Type} : (Rows.laid_typebar_wide_wideSpans : DataW H) = .slice ((List.range 11).map fun i => .agg [.lit (.int .i32 (Wd.lo i)), .lit (.int .i32 (Wd.hi i))]) [] := rfl
theorem addr_none {w : World} {a : Addr} {u : Value} (h : w.cell? a = some u) : ∃ b off, a = ⟨b, off, none⟩ := by
  obtain ⟨b, off, path⟩ := a
  cases path with
  | none => exact ⟨b, off, rfl⟩
  | some _ =>
    exfalso
    simp only [World.cell?] at h
    split at h <;> simp at h
/-- A variable that is laid as the table of spans. -/
theorem spans_at {W : World} {g0 : Nat} {t0 : TypeId} {cs0 : Array Value} {fuel : Nat} {p : List MemPlace} {base : Nat} {sp : Nat → Bool} {held : Bool} {H : Type} {enc : TypeId × Value → H}
    (hg : Tryd.prog.globalNamed "typebar/wide.wideSpans" = some g0) (ht : (Tryd.prog.globals[g0]?).map (·.type) = some t0) (hv : W.var? Tryd.prog "typebar/wide.wideSpans" = some cs0)
    (hd : DataW.trod enc Tryd.prog W base sp held fuel t0 cs0.toList = some (Rows.laid_typebar_wide_wideSpans, p)) : Spans W 1 := by
  obtain rfl := Option.some.inj (gS.symm.trans hg)
  obtain rfl := Option.some.inj (tS.symm.trans ht)
  rw [laid_eq] at hd
  rcases Deep.open_slice Tryd.underlying52 hd with ⟨_, h⟩ | ⟨a, len, cap, m, n, D, Pl, hcs, _, hl, _, hm, hx, hi⟩
  · cases h
  · have e1 : (List.range 11).map (fun i => DataW.agg (H := H) [.lit (.int .i32 (Wd.lo i)), .lit (.int .i32 (Wd.hi i))]) = (List.range len).map D := (DataW.slice.inj (Prod.mk.inj hx).1).1
    have hlen : len = 11 := by have := congrArg List.length e1; simpa using this.symm
    subst hlen
    have hD : ∀ i, i < 11 → D i = .agg [.lit (.int .i32 (Wd.lo i)), .lit (.int .i32 (Wd.hi i))] := fun i h => by
      have := congrArg (fun l => l[i]?) e1
      simp [h] at this
      exact this.symm
    have hmm : 11 ≤ m := by rw [hm]; split <;> omega
    have hc : ∀ i, i < 11 → W.cell? ((a.add (i * 2)).add 0) = some (.int .i32 (Wd.lo i)) ∧ W.cell? ((a.add (i * 2)).add 1) = some (.int .i32 (Wd.hi i)) := fun i h => by
      obtain ⟨cs', hc, ht'⟩ := hi i (by omega)
      rw [hD i h] at ht'
      have := pair_cells ht'
      subst this
      rw [spanCells] at hc
      obtain ⟨_, _, hat⟩ := World.cells?_some hc
      exact ⟨hat 0 (by omega), hat 1 (by omega)⟩
    obtain ⟨b, off, rfl⟩ := addr_none (w := W) (a := a) (by simpa [Addr.add] using (hc 0 (by omega)).1)
    refine ⟨b, off, cap, ?_, fun k hk => ?_⟩
    · have h0 := World.var?_cell hg hv 0
      rw [h0, ← Array.getElem?_toList, hcs]
      rfl
    · have := hc k hk
      rw [add_none, add_none, add_none] at this
      simpa using this
/-- A variable that is laid as the blank cell. -/
theorem blank_at {W : World} {g0 : Nat} {t0 : TypeId} {cs0 : Array Value} {fuel : Nat} {p : List MemPlace} {base : Nat} {sp : Nat → Bool} {held : Bool} {H : Type} {enc : TypeId × Value → H}
    (hg : Tryd.prog.globalNamed "typebar/flow.blank" = some g0) (ht : (Tryd.prog.globals[g0]?).map (·.type) = some t0) (hv : W.var? Tryd.prog "typebar/flow.blank" = some cs0)
    (hd : DataW.trod enc Tryd.prog W base sp held fuel t0 cs0.toList = some (Rows.laid_typebar_flow_blank, p)) : Blk W 0 := by
  obtain rfl := Option.some.inj (gB.symm.trans hg)
  obtain rfl := Option.some.inj (tB.symm.trans ht)
  obtain ⟨a, b, hcs, hx⟩ := cell_cells hd
  simp [Rows.laid_typebar_flow_blank] at hx
  obtain ⟨rfl, rfl⟩ := hx
  exact ⟨by rw [World.var?_cell hg hv 0, ← Array.getElem?_toList, hcs]; rfl, by rw [World.var?_cell hg hv 1, ← Array.getElem?_toList, hcs]; rfl⟩
end TabF
def seatLaid : List (String × DataW Unit) := [("typebar/wide.wideSpans", Rows.laid_typebar_wide_wideSpans), ("typebar/flow.blank", Rows.laid_typebar_flow_blank)]
theorem tabs_of {W : World} (h : laidMetH Tryd.prog seatLaid W) : Spans W 1 ∧ Blk W 0 := by
  rw [MakeChecks.laidMetH_plain _ _ _ (by kernel_rfl)] at h
  obtain ⟨ps, ⟨g0, t0, cs0, f0, p0, q0, hg0, ht0, hv0, hd0, ⟨g1, t1, cs1, f1, p1, q1, hg1, ht1, hv1, hd1, _, _⟩, _⟩, _, _⟩ := h
  exact ⟨TabF.spans_at hg0 ht0 hv0 hd0, TabF.blank_at hg1 ht1 hv1 hd1⟩
end Go.Proofs.YtjojbhlhfjaacaaDoor
