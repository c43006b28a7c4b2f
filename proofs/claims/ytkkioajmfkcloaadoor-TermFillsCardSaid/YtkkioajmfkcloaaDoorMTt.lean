/- From variables that are laid to the tables; rows in general; a terminal that came in. -/
import Derived.Test.YtkkioajmfkcloaaDoorCards
import Derived.Test.YtkkioajmfkcloaaDoorTie
import Derived.Test.YtkkioajmfkcloaaDoorMGa
import Derived.Test.YtkkioajmfkcloaaDoorMGu
import Derived.ProofKit
import Derived.OpenShut
import Derived.LaidMore
import Derived.Lay
import Derived.Lib.LaidTab
import Derived.Deep.Slices
import Derived.SevenTiedAt
import Derived.Stop.Joined
import Derived.Deep.DeepHandedRow
import Derived.Test.YtkkioajmfkcloaaDoorMGp
import Derived.Test.YtkkioajmfkcloaaDoorMVc
import Derived.Test.YtkkioajmfkcloaaDoorMVq
import Derived.Lib.SmallJoins
import Derived.Test.YtkkioajmfkcloaaDoorMLb
import Derived.Test.YtkkioajmfkcloaaDoorCr
import Derived.Test.YtkkioajmfkcloaaDoorRows
import Derived.Test.YtkkioajmfkcloaaDoorTmA
import Derived.Deep.Strs
/- From variables that are laid to the tables, cell by cell. -/
/- From the rows' list of variables to the table of the wide signs' spans and to the blank cell, cell by cell; a slice of cells that came in. -/
set_option linter.unusedVariables false
namespace Go.Proofs.YtkkioajmfkcloaaDoor
open Go.ChangeShapes Go.WideShapes Go.ChangeAt Go.RowKit L Wd
namespace TabG
theorem spanCells : Tryd.prog.cellsOf 95 = 2 := by kernel_rfl
theorem cellCells : Tryd.prog.cellsOf 48 = 2 := by kernel_rfl
theorem int32Cells : Tryd.prog.cellsOf 21 = 1 := by kernel_rfl
theorem intCells : Tryd.prog.cellsOf 3 = 1 := by kernel_rfl
theorem gS : Tryd.prog.globalNamed "typebar/wide.wideSpans" = some 2 := by kernel_rfl
theorem tS : (Tryd.prog.globals[2]?).map (·.type) = some 93 := by kernel_rfl
theorem gB : Tryd.prog.globalNamed "typebar/grid.blank" = some 0 := by kernel_rfl
theorem tB : (Tryd.prog.globals[0]?).map (·.type) = some 48 := by kernel_rfl
theorem pair_cells {H : Type} {enc : TypeId × Value → H} {w : World} {base : Nat} {sp : Nat → Bool} {held : Bool} {fuel : Nat} {cs : List Value} {a b : Int} {p : List MemPlace}
    (h : DataW.trod enc Tryd.prog w base sp held fuel 95 cs = some (.agg [.lit (.int .i32 a), .lit (.int .i32 b)], p)) : cs = [.int .i32 a, .int .i32 b] := by
  obtain ⟨y0, y1, n, hx, hl, h0, h1⟩ := trod_struct2 Tryd.underlying95 h
  rw [spanCells] at hl
  rw [int32Cells] at h0 h1
  obtain ⟨z0, e0, r0, _⟩ := DataW.trod_int Tryd.underlying21 h0
  obtain ⟨z1, e1, r1, _⟩ := DataW.trod_int Tryd.underlying21 h1
  match cs, hl with
  | [c0, c1], _ =>
    simp at e0 e1
    subst r0 r1
    simp at hx
    rw [e0, e1, hx.1.1, hx.1.2]
/-- A cell that can be read is two numbers. -/
theorem cell_cells {H : Type} {enc : TypeId × Value → H} {w : World} {base : Nat} {sp : Nat → Bool} {held : Bool} {fuel : Nat} {cs : List Value} {x : DataW H × List MemPlace}
    (h : DataW.trod enc Tryd.prog w base sp held fuel 48 cs = some x) : ∃ a b, cs = [.int .i32 a, .int .i64 b] ∧ x.1 = .agg [.lit (.int .i32 a), .lit (.int .i64 b)] := by
  obtain ⟨y0, y1, n, hx, hl, h0, h1⟩ := trod_struct2 Tryd.underlying48 h
  rw [cellCells] at hl
  rw [int32Cells] at h0
  rw [intCells] at h1
  obtain ⟨z0, e0, r0, _⟩ := DataW.trod_int Tryd.underlying21 h0
  obtain ⟨z1, e1, r1, _⟩ := DataW.trod_int Tryd.underlying3 h1
  match cs, hl with
  | [c0, c1], _ =>
    simp at e0 e1
    subst r0 r1
    exact ⟨z0, z1, by rw [e0, e1], by rw [hx]⟩
theorem laid_eq {H : Type} : (Rows.laid_typebar_wide_wideSpans : DataW H) = .slice ((List.range 11).map fun i => .agg [.lit (.int .i32 (Wd.lo i)), .lit (.int .i32 (Wd.hi i))]) [] := rfl
theorem addr_none {w : World} {a : Addr} {u : Value} (h : w.cell? a = some u) : ∃ b off, a = ⟨b, off, none⟩ := by
  obtain ⟨b, off, path⟩ := a
  cases path with
  | none => exact ⟨b, off, rfl⟩
  | some _ =>
    exfalso
    simp only [World.cell?] at h
    split at h <;> simp at h
/-- A variable that is laid as the table of spans. -/
theorem spans_at {W : World} {g0 : Nat} {t0 : TypeId} {cs0 : Array Value} {fuel : Nat} {p : List MemPlace} {base : Nat} {sp : Nat → Bool} {held : Bool} {H : Type} {enc : TypeId × Value → H}
    (hg : Tryd.prog.globalNamed "typebar/wide.wideSpans" = some g0) (ht : (Tryd.prog.globals[g0]?).map (·.type) = some t0) (hv : W.var? Tryd.prog "typebar/wide.wideSpans" = some cs0)
    (hd : DataW.trod enc Tryd.prog W base sp held fuel t0 cs0.toList = some (Rows.laid_typebar_wide_wideSpans, p)) : Spans W 2 := by
  obtain rfl := Option.some.inj (gS.symm.trans hg)
  obtain rfl := Option.some.inj (tS.symm.trans ht)
  rw [laid_eq] at hd
  rcases Deep.open_slice Tryd.underlying93 hd with ⟨_, h⟩ | ⟨a, len, cap, m, n, D, Pl, hcs, _, hl, _, hm, hx, hi⟩
  · cases h
  · have e1 : (List.range 11).map (fun i => DataW.agg (H := H) [.lit (.int .i32 (Wd.lo i)), .lit (.int .i32 (Wd.hi i))]) = (List.range len).map D := (DataW.slice.inj (Prod.mk.inj hx).1).1
    have hlen : len = 11 := by have := congrArg List.length e1; simpa using this.symm
    subst hlen
    have hD : ∀ i, i < 11 → D i = .agg [.lit (.int .i32 (Wd.lo i)), .lit (.int .i32 (Wd.hi i))] := fun i h => by
      have := congrArg (fun l => l[i]?) e1
      simp [h] at this
      exact this.symm
    have hmm : 11 ≤ m := by rw [hm]; split <;> omega
    have hc : ∀ i, i < 11 → W.cell? ((a.add (i * 2)).add 0) = some (.int .i32 (Wd.lo i)) ∧ W.cell? ((a.add (i * 2)).add 1) = some (.int .i32 (Wd.hi i)) := fun i h => by
      obtain ⟨cs', hc, ht'⟩ := hi i (by omega)
      rw [hD i h] at ht'
      have := pair_cells ht'
      subst this
      rw [spanCells] at hc
      obtain ⟨_, _, hat⟩ := World.cells?_some hc
      exact ⟨hat 0 (by omega), hat 1 (by omega)⟩
    obtain ⟨b, off, rfl⟩ := addr_none (w := W) (a := a) (by simpa [Addr.add] using (hc 0 (by omega)).1)
    refine ⟨b, off, cap, ?_, fun k hk => ?_⟩
    · have h0 := World.var?_cell hg hv 0
      rw [h0, ← Array.getElem?_toList, hcs]
      rfl
    · have := hc k hk
      rw [add_none, add_none, add_none] at this
      simpa using this
/-- A variable that is laid as the blank cell. -/
theorem blank_at {W : World} {g0 : Nat} {t0 : TypeId} {cs0 : Array Value} {fuel : Nat} {p : List MemPlace} {base : Nat} {sp : Nat → Bool} {held : Bool} {H : Type} {enc : TypeId × Value → H}
    (hg : Tryd.prog.globalNamed "typebar/grid.blank" = some g0) (ht : (Tryd.prog.globals[g0]?).map (·.type) = some t0) (hv : W.var? Tryd.prog "typebar/grid.blank" = some cs0)
    (hd : DataW.trod enc Tryd.prog W base sp held fuel t0 cs0.toList = some (Rows.laid_typebar_grid_blank, p)) : Blk W 0 := by
  obtain rfl := Option.some.inj (gB.symm.trans hg)
  obtain rfl := Option.some.inj (tB.symm.trans ht)
  obtain ⟨a, b, hcs, hx⟩ := cell_cells hd
  simp [Rows.laid_typebar_grid_blank] at hx
  obtain ⟨rfl, rfl⟩ := hx
  exact ⟨by rw [World.var?_cell hg hv 0, ← Array.getElem?_toList, hcs]; rfl, by rw [World.var?_cell hg hv 1, ← Array.getElem?_toList, hcs]; rfl⟩
/-- A slice of cells that came in. -/
theorem open_cells {H : Type} {enc : TypeId × Value → H} {W : World} {base : Nat} {sp : Nat → Bool} {held : Bool} {fuel : Nat} {v : Value} {x : DataW H × List MemPlace}
    (h : DataW.trod enc Tryd.prog W base sp held fuel 22 [v] = some x) : ∃ L : List (Int × Int), Rw W v 2 L.length (flat L) ∧ L.length ≤ maxLen ∧ Capped v := by
  rcases Deep.open_slice Tryd.underlying22 h with ⟨hcs, _⟩ | ⟨a, len, cap, m, n, D, Pl, hcs, _, hl, hmx, hm, hx, hi⟩
  · obtain rfl : v = .slice none 0 0 := by simpa using hcs
    exact ⟨[], ⟨rfl, none, 0, rfl, .inl ⟨rfl, fun _ => rfl⟩⟩, Nat.zero_le _, fun A n c he => by injection he with h1 h2 h3; omega⟩
  · obtain rfl : v = .slice (some a) len cap := by simpa using hcs
    have hmm : len ≤ m := by rw [hm]; split <;> omega
    have hc : ∀ i, ∃ c : Int × Int, i < len → W.cell? ((a.add (i * 2)).add 0) = some (.int .i32 c.1) ∧ W.cell? ((a.add (i * 2)).add 1) = some (.int .i64 c.2) := fun i => by
      by_cases hil : i < len
      · obtain ⟨cs', hc, ht'⟩ := hi i (by omega)
        obtain ⟨p, q, rfl, _⟩ := cell_cells ht'
        rw [cellCells] at hc
        obtain ⟨_, _, hat⟩ := World.cells?_some hc
        exact ⟨(p, q), fun _ => ⟨hat 0 (by omega), hat 1 (by omega)⟩⟩
      · exact ⟨(0, 0), fun h => absurd h hil⟩
    refine ⟨(List.range len).map fun i => (hc i).choose, ?_, by simp; omega, fun A n c he => by injection he with h1 h2 h3; omega⟩
    have hlen : ((List.range len).map fun i => (hc i).choose).length = len := by simp
    rw [hlen]
    refine ⟨by rw [flat_len, hlen], some a, cap, rfl, ?_⟩
    by_cases h0 : len = 0
    · exact .inl ⟨h0, fun h => by cases h⟩
    · obtain ⟨b, off, rfl⟩ := addr_none (w := W) (a := a) (by simpa [Addr.add] using ((hc 0).choose_spec (by omega)).1)
      refine .inr ⟨b, off, rfl, fun j u hu => ?_⟩
      have hj : j < len * 2 := by
        have := (List.getElem?_eq_some_iff.1 hu).1
        rw [flat_len, hlen] at this; exact this
      have hj2 : j / 2 < len := by omega
      obtain ⟨f1, f2⟩ := flat_at ((List.range len).map fun i => (hc i).choose) (j / 2) (by rw [hlen]; exact hj2)
      have hg : ((List.range len).map fun i => (hc i).choose).getD (j / 2) (0, 0) = (hc (j / 2)).choose := by simp [List.getD, hj2]
      rw [hg] at f1 f2
      have hsp := (hc (j / 2)).choose_spec hj2
      generalize (hc (j / 2)).choose = c at hsp f1 f2
      obtain ⟨c1, c2⟩ := hsp
      rw [add_none, add_none] at c1 c2
      rcases (show j = j / 2 * 2 ∨ j = j / 2 * 2 + 1 by omega) with e | e
      · rw [e] at hu ⊢
        rw [f1] at hu
        obtain rfl := Option.some.inj hu
        simpa using c1
      · rw [e] at hu ⊢
        rw [f2] at hu
        obtain rfl := Option.some.inj hu
        simpa [Nat.add_assoc] using c2
end TabG
def seatLaid : List (String × DataW Unit) := [("typebar/wide.wideSpans", Rows.laid_typebar_wide_wideSpans), ("typebar/grid.blank", Rows.laid_typebar_grid_blank)]
theorem tabs_of {W : World} (h : laidMetH Tryd.prog seatLaid W) : Spans W 2 ∧ Blk W 0 := by
  rw [MakeChecks.laidMetH_plain _ _ _ (by kernel_rfl)] at h
  obtain ⟨ps, ⟨g0, t0, cs0, f0, p0, q0, hg0, ht0, hv0, hd0, ⟨g1, t1, cs1, f1, p1, q1, hg1, ht1, hv1, hd1, _, _⟩, _⟩, _, _⟩ := h
  exact ⟨TabG.spans_at hg0 ht0 hv0 hd0, TabG.blank_at hg1 ht1 hv1 hd1⟩
end Go.Proofs.YtkkioajmfkcloaaDoor
/- From variables that are laid to the two tables of unicode/utf8, cell by cell. -/
namespace Go.Proofs.YtkkioajmfkcloaaDoor
open Go.ChangeShapes Go.WideShapes Go.ChangeAt Go.RowKit
theorem cells116 : Tryd.prog.cellsOf 116 = 256 := by kernel_rfl
theorem cells119 : Tryd.prog.cellsOf 119 = 32 := by kernel_rfl
theorem cells118 : Tryd.prog.cellsOf 118 = 2 := by kernel_rfl
theorem cells5 : Tryd.prog.cellsOf 5 = 1 := by kernel_rfl
theorem first_eq : Rows.laid_unicode_utf8_first = Lib.tabData .u8 (Pinned.utf8FirstZ.map fun n : Nat => (n : Int)) := by
  unfold Rows.laid_unicode_utf8_first Pinned.utf8First Lib.tabData Pinned.numbers
  rw [List.map_map]; rfl
theorem first_x0 : ((List.range 256).all fun b => (Pinned.utf8FirstZ.map fun n : Nat => (n : Int)).getD b 0 == Gl.x0 b) = true := by decide +kernel
theorem pair_cells {H : Type} {enc : TypeId × Value → H} {w : World} {base : Nat} {sp : Nat → Bool} {held : Bool} {fuel : Nat} {cs : List Value} {a b : Int} {p : List MemPlace}
    (h : DataW.trod enc Tryd.prog w base sp held fuel 118 cs = some (.agg [.lit (.int .u8 a), .lit (.int .u8 b)], p)) : cs = [.int .u8 a, .int .u8 b] := by
  obtain ⟨y0, y1, n, hx, hl, h0, h1⟩ := trod_struct2 Tryd.underlying118 h
  rw [cells118] at hl
  rw [cells5] at h0 h1
  obtain ⟨z0, e0, r0, _⟩ := DataW.trod_int Tryd.underlying5 h0
  obtain ⟨z1, e1, r1, _⟩ := DataW.trod_int Tryd.underlying5 h1
  match cs, hl with
  | [c0, c1], _ =>
    simp at e0 e1
    subst r0 r1
    simp at hx
    rw [e0, e1, hx.1.1, hx.1.2]
theorem gF : Tryd.prog.globalNamed "unicode/utf8.first" = some 3 := by kernel_rfl
theorem gA : Tryd.prog.globalNamed "unicode/utf8.acceptRanges" = some 4 := by kernel_rfl
theorem tF : (Tryd.prog.globals[3]?).map (·.type) = some 116 := by kernel_rfl
theorem tA : (Tryd.prog.globals[4]?).map (·.type) = some 119 := by kernel_rfl
theorem first_len : (Pinned.utf8FirstZ.map fun n : Nat => (n : Int)).length = 256 := by kernel_rfl
/-- Two variables that are laid as the two tables. -/
theorem tabs_at {W : World} {g0 g1 : Nat} {t0 t1 : TypeId} {cs0 cs1 : Array Value} {f0 f1 : Nat} {p0 p1 : List MemPlace} {base0 base1 : Nat} {sp0 sp1 : Nat → Bool} {held0 held1 : Bool} {enc0 enc1 : TypeId × Value → Unit}
    (hg0 : Tryd.prog.globalNamed "unicode/utf8.acceptRanges" = some g0) (ht0 : (Tryd.prog.globals[g0]?).map (·.type) = some t0) (hv0 : W.var? Tryd.prog "unicode/utf8.acceptRanges" = some cs0) (hd0 : DataW.trod enc0 Tryd.prog W base0 sp0 held0 f0 t0 cs0.toList = some (Rows.laid_unicode_utf8_acceptRanges, p0))
    (hg1 : Tryd.prog.globalNamed "unicode/utf8.first" = some g1) (ht1 : (Tryd.prog.globals[g1]?).map (·.type) = some t1) (hv1 : W.var? Tryd.prog "unicode/utf8.first" = some cs1) (hd1 : DataW.trod enc1 Tryd.prog W base1 sp1 held1 f1 t1 cs1.toList = some (Rows.laid_unicode_utf8_first, p1)) : Gl.Tabs W 3 4 := by
  obtain rfl := Option.some.inj (gA.symm.trans hg0)
  obtain rfl := Option.some.inj (gF.symm.trans hg1)
  obtain rfl := Option.some.inj (tA.symm.trans ht0)
  obtain rfl := Option.some.inj (tF.symm.trans ht1)
  rw [first_eq] at hd1
  have e1 := Lib.cells_of_tab Tryd.underlying116 Tryd.underlying5 cells5 cells116 hd1
  obtain ⟨xs, m, _, ex, hl, hn, hel⟩ := DataW.trod_array Tryd.underlying119 hd0
  rw [cells119] at hl
  rw [cells118] at hel
  have e2 : xs.map (·.1) = _ := (DataW.agg.inj (Prod.mk.inj ex).1).symm
  have at' : ∀ i a b, i < 16 → (xs.map (·.1))[i]? = some (.agg [.lit (.int .u8 a), .lit (.int .u8 b)]) → cs0.toList[i * 2]? = some (.int .u8 a) ∧ cs0.toList[i * 2 + 1]? = some (.int .u8 b) := by
    intro i a b hi he
    have h1 := hel i hi
    rw [List.getElem?_map, List.getElem?_eq_getElem (by omega : i < xs.length)] at he
    rw [List.getElem?_eq_getElem (by omega : i < xs.length)] at h1
    simp only [Option.map_some, Option.some.injEq] at he
    generalize xs[i] = y at h1 he
    obtain ⟨y1, y2⟩ := y
    simp only at he
    subst he
    have := pair_cells h1
    constructor
    · have h3 : ((cs0.toList.drop (i * 2)).take 2)[0]? = some (.int .u8 a) := by rw [this]; rfl
      simpa using h3
    · have h3 : ((cs0.toList.drop (i * 2)).take 2)[1]? = some (.int .u8 b) := by rw [this]; rfl
      simpa using h3
  rw [e2] at at'
  have c : ∀ k v, cs0.toList[k]? = some v → W.cell? ⟨4, k, none⟩ = some v := fun k v hk => by
    rw [World.var?_cell hg0 hv0 k]; simpa using hk
  refine ⟨fun b h0 h1 => ?_, c _ _ (at' 0 _ _ (by decide) rfl).1, c _ _ (at' 0 _ _ (by decide) rfl).2, c _ _ (at' 1 _ _ (by decide) rfl).1, c _ _ (at' 1 _ _ (by decide) rfl).2, c _ _ (at' 2 _ _ (by decide) rfl).1, c _ _ (at' 2 _ _ (by decide) rfl).2,
    c _ _ (at' 3 _ _ (by decide) rfl).1, c _ _ (at' 3 _ _ (by decide) rfl).2, c _ _ (at' 4 _ _ (by decide) rfl).1, c _ _ (at' 4 _ _ (by decide) rfl).2⟩
  obtain ⟨n, rfl⟩ := Int.eq_ofNat_of_zero_le h0
  rw [World.var?_cell hg1 hv1 _]
  have hx := List.all_eq_true.1 first_x0 n (List.mem_range.2 (by omega))
  rw [beq_iff_eq] at hx
  rw [← hx, ← Array.getElem?_toList, e1, List.getElem?_map]
  simp only [Int.toNat_natCast]
  rw [List.getD, List.getElem?_eq_getElem (by rw [first_len]; omega)]
  rfl
end Go.Proofs.YtkkioajmfkcloaaDoor
/- From a variable that is laid to the table of the commands with one form, cell by cell; a slice of commands that came in. -/
set_option linter.unusedVariables false
namespace Go.Proofs.YtkkioajmfkcloaaDoor
open Go.ChangeShapes Go.WideShapes Go.ChangeAt Go.RowKit L Vt
namespace TabV
theorem cmdCells : Tryd.prog.cellsOf 36 = 4 := by kernel_rfl
theorem formCells : Tryd.prog.cellsOf 64 = 2 := by kernel_rfl
theorem int32Cells : Tryd.prog.cellsOf 21 = 1 := by kernel_rfl
theorem intCells : Tryd.prog.cellsOf 3 = 1 := by kernel_rfl
theorem strCells : Tryd.prog.cellsOf 9 = 1 := by kernel_rfl
theorem gT : Tryd.prog.globalNamed "typebar/vt.oneForms" = some 1 := by kernel_rfl
theorem tT : (Tryd.prog.globals[1]?).map (·.type) = some 88 := by kernel_rfl
theorem arrCells : Tryd.prog.cellsOf 88 = 12 := by kernel_rfl
/-- A form that can be read. -/
theorem form_cells {H : Type} {enc : TypeId × Value → H} {w : World} {base : Nat} {sp : Nat → Bool} {held : Bool} {fuel : Nat} {cs : List Value} {s : List UInt8} {n : Int} {p : List MemPlace}
    (h : DataW.trod enc Tryd.prog w base sp held fuel 64 cs = some (.agg [.lit (.string s), .lit (.int .i64 n)], p)) : cs = [.string ⟨s.toArray⟩, .int .i64 n] := by
  obtain ⟨y0, y1, m, hx, hl, h0, h1⟩ := trod_struct2 Tryd.underlying64 h
  rw [formCells] at hl
  rw [strCells] at h0
  rw [intCells] at h1
  obtain ⟨z0, e0, r0, _⟩ := DataW.trod_string Tryd.underlying9 h0
  obtain ⟨z1, e1, r1, _⟩ := DataW.trod_int Tryd.underlying3 h1
  match cs, hl with
  | [c0, c1], _ =>
    simp at e0 e1
    subst r0 r1
    simp at hx
    rw [e0, e1, hx.1.1, hx.1.2]
theorem addr_none {w : World} {a : Addr} {u : Value} (h : w.cell? a = some u) : ∃ b off, a = ⟨b, off, none⟩ := by
  obtain ⟨b, off, path⟩ := a
  cases path with
  | none => exact ⟨b, off, rfl⟩
  | some _ =>
    exfalso
    simp only [World.cell?] at h
    split at h <;> simp at h
/-- A variable that is laid as the table of forms. -/
theorem forms_at {W : World} {g0 : Nat} {t0 : TypeId} {cs0 : Array Value} {fuel : Nat} {p : List MemPlace} {base : Nat} {sp : Nat → Bool} {held : Bool} {H : Type} {enc : TypeId × Value → H}
    (hg : Tryd.prog.globalNamed "typebar/vt.oneForms" = some g0) (ht : (Tryd.prog.globals[g0]?).map (·.type) = some t0) (hv : W.var? Tryd.prog "typebar/vt.oneForms" = some cs0)
    (hd : DataW.trod enc Tryd.prog W base sp held fuel t0 cs0.toList = some (Rows.laid_typebar_vt_oneForms, p)) : Forms W 1 := by
  obtain rfl := Option.some.inj (gT.symm.trans hg)
  obtain rfl := Option.some.inj (tT.symm.trans ht)
  obtain ⟨xs, m, _, hx, hl, hlen, hf⟩ := DataW.trod_array Tryd.underlying88 hd
  rw [formCells] at hf
  rw [arrCells] at hl
  match xs, hlen with
  | [a0, a1, a2, a3, a4, a5], _ =>
    simp [Rows.laid_typebar_vt_oneForms] at hx
    obtain ⟨⟨e0, e1, e2, e3, e4, e5⟩, _⟩ := hx
    match hcs : cs0.toList, hl with
    | [c0, c1, c2, c3, c4, c5, c6, c7, c8, c9, c10, c11], _ =>
      rw [hcs] at hf
      have hp : ∀ (x : DataW H × List MemPlace) (d : DataW H), d = x.1 → x = (d, x.2) := fun x d h => by rw [h]
      have k0 := form_cells (show _ = some (_, a0.2) by rw [← hp a0 _ e0]; exact hf 0 (by omega))
      have k1 := form_cells (show _ = some (_, a1.2) by rw [← hp a1 _ e1]; exact hf 1 (by omega))
      have k2 := form_cells (show _ = some (_, a2.2) by rw [← hp a2 _ e2]; exact hf 2 (by omega))
      have k3 := form_cells (show _ = some (_, a3.2) by rw [← hp a3 _ e3]; exact hf 3 (by omega))
      have k4 := form_cells (show _ = some (_, a4.2) by rw [← hp a4 _ e4]; exact hf 4 (by omega))
      have k5 := form_cells (show _ = some (_, a5.2) by rw [← hp a5 _ e5]; exact hf 5 (by omega))
      simp at k0 k1 k2 k3 k4 k5
      have hc : ∀ j : Nat, W.cell? ⟨1, j, none⟩ = [c0, c1, c2, c3, c4, c5, c6, c7, c8, c9, c10, c11][j]? := fun j => by
        rw [World.var?_cell hg hv j, ← Array.getElem?_toList, hcs]
      refine ⟨?_, ?_, ?_, ?_, ?_, ?_, ?_, ?_, ?_, ?_, ?_, ?_⟩
      all_goals rw [hc]
      all_goals simp [k0, k1, k2, k3, k4, k5]
/-- A command that can be read is three numbers and a sign. -/
theorem cmd_cells {H : Type} {enc : TypeId × Value → H} {w : World} {base : Nat} {sp : Nat → Bool} {held : Bool} {fuel : Nat} {cs : List Value} {x : DataW H × List MemPlace}
    (h : DataW.trod enc Tryd.prog w base sp held fuel 36 cs = some x) : ∃ c : Cmd, cs = cells4 c := by
  obtain ⟨y0, y1, y2, y3, n, hx, hl, h0, h1, h2, h3⟩ := Go.Joins.trod_struct4 Tryd.underlying36 h
  rw [cmdCells] at hl
  rw [intCells] at h0 h1 h2
  rw [int32Cells] at h3
  obtain ⟨z0, e0, _⟩ := DataW.trod_int Tryd.underlying3 h0
  obtain ⟨z1, e1, _⟩ := DataW.trod_int Tryd.underlying3 h1
  obtain ⟨z2, e2, _⟩ := DataW.trod_int Tryd.underlying3 h2
  obtain ⟨z3, e3, _⟩ := DataW.trod_int Tryd.underlying21 h3
  match cs, hl with
  | [c0, c1, c2, c3], _ =>
    simp at e0 e1 e2 e3
    exact ⟨(z0, z1, z2, z3), by rw [e0, e1, e2, e3]; rfl⟩
set_option maxRecDepth 100000 in
/-- A slice of commands that came in. -/
theorem open_cmds {H : Type} {enc : TypeId × Value → H} {W : World} {base : Nat} {v : Value} {d : DataW H} {p : List MemPlace}
    (hok : Value.okWide Tryd.prog W .any base 60 v) (h0 : DataW.Trod enc Tryd.prog W 0 (fun _ => true) true 60 v d p) : ∃ l : List Cmd, Rw W v 4 l.length (flatC l) ∧ l.length ≤ maxLen := by
  obtain ⟨A0, len0, cap0, rfl⟩ := okWide_slice Tryd.underlying60 hok
  obtain ⟨fuel, h⟩ := h0
  rcases Deep.open_slice Tryd.underlying60 h with ⟨hcs, _⟩ | ⟨a, len, cap, m, n, D, Pl, hcs, _, hl, hmx, hm, hx, hi⟩
  · simp [Value.cells] at hcs
    obtain ⟨rfl, rfl, rfl⟩ := hcs
    exact ⟨[], ⟨rfl, none, 0, rfl, .inl ⟨rfl, fun _ => rfl⟩⟩, Nat.zero_le _⟩
  · simp [Value.cells] at hcs
    obtain ⟨rfl, rfl, rfl⟩ := hcs
    have hmm : len0 ≤ m := by rw [hm]; split <;> omega
    have hc : ∀ i, ∃ c : Cmd, i < len0 → W.cell? ((a.add (i * 4)).add 0) = some (.int .i64 c.1) ∧ W.cell? ((a.add (i * 4)).add 1) = some (.int .i64 c.2.1) ∧ W.cell? ((a.add (i * 4)).add 2) = some (.int .i64 c.2.2.1) ∧ W.cell? ((a.add (i * 4)).add 3) = some (.int .i32 c.2.2.2) := fun i => by
      by_cases hil : i < len0
      · obtain ⟨cs', hc, ht'⟩ := hi i (by omega)
        obtain ⟨c, rfl⟩ := cmd_cells ht'
        rw [cmdCells] at hc
        obtain ⟨_, _, hat⟩ := World.cells?_some hc
        exact ⟨c, fun _ => ⟨hat 0 (by omega), hat 1 (by omega), hat 2 (by omega), hat 3 (by omega)⟩⟩
      · exact ⟨d0, fun h => absurd h hil⟩
    refine ⟨(List.range len0).map fun i => (hc i).choose, ?_, by simp; omega⟩
    have hlen : ((List.range len0).map fun i => (hc i).choose).length = len0 := by simp
    rw [hlen]
    refine ⟨by rw [flatC_len, hlen], some a, _, rfl, ?_⟩
    by_cases h0 : len0 = 0
    · exact .inl ⟨h0, fun h => by cases h⟩
    · obtain ⟨b, off, rfl⟩ := addr_none (w := W) (a := a) (by simpa [Addr.add] using ((hc 0).choose_spec (by omega)).1)
      refine .inr ⟨b, off, rfl, fun j u hu => ?_⟩
      have hj : j < len0 * 4 := by
        have := (List.getElem?_eq_some_iff.1 hu).1
        rw [flatC_len, hlen] at this; exact this
      have hj2 : j / 4 < len0 := by omega
      obtain ⟨f1, f2, f3, f4⟩ := flatC_at ((List.range len0).map fun i => (hc i).choose) (j / 4) (by rw [hlen]; exact hj2)
      unfold cK cA cB cR at *
      have hg : ((List.range len0).map fun i => (hc i).choose).getD (j / 4) d0 = (hc (j / 4)).choose := by simp [List.getD, hj2]
      rw [hg] at f1 f2 f3 f4
      have hsp := (hc (j / 4)).choose_spec hj2
      generalize (hc (j / 4)).choose = c at hsp f1 f2 f3 f4
      obtain ⟨c1, c2, c3, c4⟩ := hsp
      rw [add_none, add_none] at c1 c2 c3 c4
      rcases (show j = j / 4 * 4 ∨ j = j / 4 * 4 + 1 ∨ j = j / 4 * 4 + 2 ∨ j = j / 4 * 4 + 3 by omega) with e | e | e | e
      · rw [e] at hu ⊢
        rw [f1] at hu
        obtain rfl := Option.some.inj hu
        simpa using c1
      · rw [e] at hu ⊢
        rw [f2] at hu
        obtain rfl := Option.some.inj hu
        simpa [Nat.add_assoc] using c2
      · rw [e] at hu ⊢
        rw [f3] at hu
        obtain rfl := Option.some.inj hu
        simpa [Nat.add_assoc] using c3
      · rw [e] at hu ⊢
        rw [f4] at hu
        obtain rfl := Option.some.inj hu
        simpa [Nat.add_assoc] using c4
end TabV
end Go.Proofs.YtkkioajmfkcloaaDoor
/- From the rows' list of variables to the tables of terminals; a terminal that came in. -/
set_option linter.unusedVariables false
namespace Go.Proofs.YtkkioajmfkcloaaDoor
open Go.ChangeShapes Go.WideShapes Go.ChangeAt Go.RowKit Go.Joins L Wd Vt Gd
namespace TabT
theorem termCells : Tryd.prog.cellsOf 26 = 6 := by kernel_rfl
theorem gridCells : Tryd.prog.cellsOf 24 = 3 := by kernel_rfl
theorem sliceCells : Tryd.prog.cellsOf 22 = 1 := by kernel_rfl
theorem boolCells : Tryd.prog.cellsOf 4 = 1 := by kernel_rfl
theorem array6 {α : Type} {cs : Array α} (h : cs.size = 6) : ∃ c0 c1 c2 c3 c4 c5, cs = #[c0, c1, c2, c3, c4, c5] := by
  obtain ⟨l⟩ := cs
  match l, h with
  | [c0, c1, c2, c3, c4, c5], _ => exact ⟨c0, c1, c2, c3, c4, c5, rfl⟩
theorem int_bd {n : Int} (h : (Lit.int .i64 n).wf = true) : -9223372036854775808 ≤ n ∧ n ≤ 9223372036854775807 := by
  simpa [Lit.wf, IntKind.min, IntKind.max, IntKind.signed, IntKind.bits] using h
set_option maxRecDepth 100000 in
theorem open_term {H : Type} {enc : TypeId × Value → H} {W : World} {b0 base : Nat} {sp : Nat → Bool} {held : Bool} {r : Reach} {v : Value} {d : DataW H} {p : List MemPlace} (hv : Value.okWide Tryd.prog W r b0 26 v) (h : DataW.Trod enc Tryd.prog W base sp held 26 v d p) :
    ∃ (gw gh x y : Int) (k : Bool) (A : Option Addr) (cap : Nat) (l : List (Int × Int)), v = .agg #[.int .i64 gw, .int .i64 gh, .slice A l.length cap, .int .i64 x, .int .i64 y, .bool k] ∧ Rc W (.slice A l.length cap) l ∧ l.length ≤ maxLen ∧ (-9223372036854775808 ≤ gw ∧ gw ≤ 9223372036854775807) ∧ (-9223372036854775808 ≤ gh ∧ gh ≤ 9223372036854775807) := by
  obtain ⟨cs, rfl, hsz⟩ := okWide_struct Tryd.underlying26 hv
  obtain ⟨c0, c1, c2, c3, c4, c5, rfl⟩ := array6 (hsz.trans termCells)
  obtain ⟨fuel, hf⟩ := h
  obtain ⟨y0, y1, y2, y3, n, hx, _, h0, h1, h2, h3⟩ := trod_struct4 Tryd.underlying26 hf
  simp only [Value.cells, gridCells, TabG.intCells, boolCells] at h0 h1 h2 h3
  have h0' : DataW.trod enc Tryd.prog W base sp held n 24 [c0, c1, c2] = some y0 := h0
  have h1' : DataW.trod enc Tryd.prog W base sp held n 3 [c3] = some y1 := h1
  have h2' : DataW.trod enc Tryd.prog W base sp held n 3 [c4] = some y2 := h2
  have h3' : DataW.trod enc Tryd.prog W base sp held n 4 [c5] = some y3 := h3
  obtain ⟨z0, z1, z2, m, _, _, g0, g1, g2⟩ := Deep.trod_struct3 Tryd.underlying24 h0'
  simp only [TabG.intCells, sliceCells] at g0 g1 g2
  have g0' : DataW.trod enc Tryd.prog W base sp held m 3 [c0] = some z0 := g0
  have g1' : DataW.trod enc Tryd.prog W base sp held m 3 [c1] = some z1 := g1
  have g2' : DataW.trod enc Tryd.prog W base sp held m 22 [c2] = some z2 := g2
  obtain ⟨gw, e0, _, w0⟩ := DataW.trod_int Tryd.underlying3 g0'
  obtain ⟨gh, e1, _, w1⟩ := DataW.trod_int Tryd.underlying3 g1'
  obtain ⟨x, e3, _, _⟩ := DataW.trod_int Tryd.underlying3 h1'
  obtain ⟨y, e4, _, _⟩ := DataW.trod_int Tryd.underlying3 h2'
  obtain ⟨k, e5, _⟩ := DataW.trod_bool Tryd.underlying4 h3'
  obtain ⟨l, hr, hm, hcp⟩ := TabG.open_cells g2'
  obtain ⟨A, cap, rfl⟩ : ∃ A cap, c2 = .slice A l.length cap := ⟨_, _, hr.2.choose_spec.choose_spec.1⟩
  simp only [List.cons.injEq, and_true] at e0 e1 e3 e4 e5
  subst e0 e1 e3 e4 e5
  exact ⟨gw, gh, x, y, k, A, cap, l, rfl, ⟨A, cap, rfl, hcp A _ _ rfl, hr⟩, hm, int_bd w0, int_bd w1⟩
end TabT
def seatLaid8 : List (String × DataW Unit) := [("math/bits.deBruijn32tab", Rows.laid_math_bits_deBruijn32tab), ("math/bits.deBruijn64tab", Rows.laid_math_bits_deBruijn64tab), ("internal/strconv.uint64pow10", Rows.laid_internal_strconv_uint64pow10), ("unicode/utf8.acceptRanges", Rows.laid_unicode_utf8_acceptRanges), ("typebar/wide.wideSpans", Rows.laid_typebar_wide_wideSpans), ("typebar/grid.blank", Rows.laid_typebar_grid_blank), ("typebar/vt.oneForms", Rows.laid_typebar_vt_oneForms), ("unicode/utf8.first", Rows.laid_unicode_utf8_first)]
theorem tabs8_of {W : World} (h : laidMetH Tryd.prog seatLaid8 W) : Spans W 2 ∧ Blk W 0 ∧ Forms W 1 ∧ Gl.Tabs W 3 4 := by
  rw [MakeChecks.laidMetH_plain _ _ _ (by kernel_rfl)] at h
  obtain ⟨ps, ⟨_, _, _, _, _, _, _, _, _, _, ⟨_, _, _, _, _, _, _, _, _, _, ⟨_, _, _, _, _, _, _, _, _, _, ⟨g3, t3, cs3, f3, p3, q3, hg3, ht3, hv3, hd3, ⟨g4, t4, cs4, f4, p4, q4, hg4, ht4, hv4, hd4, ⟨g5, t5, cs5, f5, p5, q5, hg5, ht5, hv5, hd5, ⟨g6, t6, cs6, f6, p6, q6, hg6, ht6, hv6, hd6, ⟨g7, t7, cs7, f7, p7, q7, hg7, ht7, hv7, hd7, _, _⟩, _⟩, _⟩, _⟩, _⟩, _⟩, _⟩, _⟩, _, _⟩ := h
  exact ⟨TabG.spans_at hg4 ht4 hv4 hd4, TabG.blank_at hg5 ht5 hv5 hd5, TabV.forms_at hg6 ht6 hv6 hd6, tabs_at hg3 ht3 hv3 hd3 hg7 ht7 hv7 hd7⟩
end Go.Proofs.YtkkioajmfkcloaaDoor
