/- From the rows' list of variables to the two tables of unicode/utf8, cell by cell. -/
import Derived.Test.YtfnmcnbfagnlhaaDoorCards
import Derived.Test.YtfnmcnbfagnlhaaDoorTie
import Derived.Test.YtfnmcnbfagnlhaaDoorGlQ
import Derived.ProofKit
import Derived.OpenShut
import Derived.LaidMore
import Derived.Lay
import Derived.Lib.LaidTab
import Derived.SevenTiedAt
import Derived.Stop.Joined
import Derived.Deep.DeepHandedRow
namespace Go.Proofs.YtfnmcnbfagnlhaaDoor
open Go.ChangeShapes Go.WideShapes Go.ChangeAt Go.RowKit
def seatLaid : List (String × DataW Unit) := [("unicode/utf8.acceptRanges", Rows.laid_unicode_utf8_acceptRanges), ("unicode/utf8.first", Rows.laid_unicode_utf8_first)]
theorem cells43 : Tryd.prog.cellsOf 43 = 256 := by kernel_rfl
theorem cells46 : Tryd.prog.cellsOf 46 = 32 := by kernel_rfl
theorem cells45 : Tryd.prog.cellsOf 45 = 2 := by kernel_rfl
theorem cells5 : Tryd.prog.cellsOf 5 = 1 := by kernel_rfl
theorem first_eq : Rows.laid_unicode_utf8_first = Lib.tabData .u8 (Pinned.utf8FirstZ.map fun n : Nat => (n : Int)) := by
  unfold Rows.laid_unicode_utf8_first Pinned.utf8First Lib.tabData Pinned.numbers
  rw [List.map_map]; rfl
theorem first_x0 : ((List.range 256).all fun b => (Pinned.utf8FirstZ.map fun n : Nat => (n : Int)).getD b 0 == Gl.x0 b) = true := by decide +kernel
theorem pair_cells {H : Type} {enc : TypeId × Value → H} {w : World} {base : Nat} {sp : Nat → Bool} {held : Bool} {fuel : Nat} {cs : List Value} {a b : Int} {p : List MemPlace}
    (h : DataW.trod enc Tryd.prog w base sp held fuel 45 cs = some (.agg [.lit (.int .u8 a), .lit (.int .u8 b)], p)) : cs = [.int .u8 a, .int .u8 b] := by
  obtain ⟨y0, y1, n, hx, hl, h0, h1⟩ := trod_struct2 Tryd.underlying45 h
  rw [cells45] at hl
  rw [cells5] at h0 h1
  obtain ⟨z0, e0, r0, _⟩ := DataW.trod_int Tryd.underlying5 h0
  obtain ⟨z1, e1, r1, _⟩ := DataW.trod_int Tryd.underlying5 h1
  match cs, hl with
  | [c0, c1], _ =>
    simp at e0 e1
    subst r0 r1
    simp at hx
    rw [e0, e1, hx.1.1, hx.1.2]

theorem gF : Tryd.prog.globalNamed "unicode/utf8.first" = some 0 := by kernel_rfl
theorem gA : Tryd.prog.globalNamed "unicode/utf8.acceptRanges" = some 1 := by kernel_rfl
theorem tF : (Tryd.prog.globals[0]?).map (·.type) = some 43 := by kernel_rfl
theorem tA : (Tryd.prog.globals[1]?).map (·.type) = some 46 := by kernel_rfl
theorem first_len : (Pinned.utf8FirstZ.map fun n : Nat => (n : Int)).length = 256 := by kernel_rfl
theorem tabs_of {W : World} (h : laidMetH Tryd.prog seatLaid W) : Gl.Tabs W 0 1 := by
  rw [MakeChecks.laidMetH_plain _ _ _ (by kernel_rfl)] at h
  obtain ⟨ps, ⟨g0, t0, cs0, f0, p0, q0, hg0, ht0, hv0, hd0, ⟨g1, t1, cs1, f1, p1, q1, hg1, ht1, hv1, hd1, _, _⟩, _⟩, _, _⟩ := h
  obtain rfl := Option.some.inj (gA.symm.trans hg0)
  obtain rfl := Option.some.inj (gF.symm.trans hg1)
  obtain rfl := Option.some.inj (tA.symm.trans ht0)
  obtain rfl := Option.some.inj (tF.symm.trans ht1)
  rw [first_eq] at hd1
  have e1 := Lib.cells_of_tab Tryd.underlying43 Tryd.underlying5 cells5 cells43 hd1
  obtain ⟨xs, m, _, ex, hl, hn, hel⟩ := DataW.trod_array Tryd.underlying46 hd0
  rw [cells46] at hl
  rw [cells45] at hel
  have e2 : xs.map (·.1) = _ := (DataW.agg.inj (Prod.mk.inj ex).1).symm
  have at' : ∀ i a b, i < 16 → (xs.map (·.1))[i]? = some (.agg [.lit (.int .u8 a), .lit (.int .u8 b)]) → cs0.toList[i * 2]? = some (.int .u8 a) ∧ cs0.toList[i * 2 + 1]? = some (.int .u8 b) := by
    intro i a b hi he
    have h1 := hel i hi
    rw [List.getElem?_map, List.getElem?_eq_getElem (by omega : i < xs.length)] at he
    rw [List.getElem?_eq_getElem (by omega : i < xs.length)] at h1
    simp only [Option.map_some, Option.some.injEq] at he
    generalize xs[i] = y at h1 he
    obtain ⟨y1, y2⟩ := y
    simp only at he
    subst he
    have := pair_cells h1
    constructor
    · have h3 : ((cs0.toList.drop (i * 2)).take 2)[0]? = some (.int .u8 a) := by rw [this]; rfl
      simpa using h3
    · have h3 : ((cs0.toList.drop (i * 2)).take 2)[1]? = some (.int .u8 b) := by rw [this]; rfl
      simpa using h3
  rw [e2] at at'
  have c : ∀ k v, cs0.toList[k]? = some v → W.cell? ⟨1, k, none⟩ = some v := fun k v hk => by
    rw [World.var?_cell hg0 hv0 k]; simpa using hk
  refine ⟨fun b h0 h1 => ?_, c _ _ (at' 0 _ _ (by decide) rfl).1, c _ _ (at' 0 _ _ (by decide) rfl).2, c _ _ (at' 1 _ _ (by decide) rfl).1, c _ _ (at' 1 _ _ (by decide) rfl).2, c _ _ (at' 2 _ _ (by decide) rfl).1, c _ _ (at' 2 _ _ (by decide) rfl).2,
    c _ _ (at' 3 _ _ (by decide) rfl).1, c _ _ (at' 3 _ _ (by decide) rfl).2, c _ _ (at' 4 _ _ (by decide) rfl).1, c _ _ (at' 4 _ _ (by decide) rfl).2⟩
  obtain ⟨n, rfl⟩ := Int.eq_ofNat_of_zero_le h0
  rw [World.var?_cell hg1 hv1 _]
  have hx := List.all_eq_true.1 first_x0 n (List.mem_range.2 (by omega))
  rw [beq_iff_eq] at hx
  rw [← hx, ← Array.getElem?_toList, e1, List.getElem?_map]
  simp only [Int.toNat_natCast]
  rw [List.getD, List.getElem?_eq_getElem (by rw [first_len]; omega)]
  rfl
end Go.Proofs.YtfnmcnbfagnlhaaDoor
