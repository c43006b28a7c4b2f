/- From the rows' list of variables to the tables of terminals; a terminal that came in. -/
import Derived.Test.YtcakklafjfobeaaDoorMTb
import Derived.Test.YtcakklafjfobeaaDoorTmA
import Derived.Deep.Strs
set_option linter.unusedVariables false
namespace Go.Proofs.YtcakklafjfobeaaDoor
open Go.ChangeShapes Go.WideShapes Go.ChangeAt Go.RowKit Go.Joins L Wd Vt Gd
namespace TabT
theorem termCells : Tryd.prog.cellsOf 26 = 6 := by kernel_rfl
theorem gridCells : Tryd.prog.cellsOf 24 = 3 := by kernel_rfl
theorem sliceCells : Tryd.prog.cellsOf 22 = 1 := by kernel_rfl
theorem boolCells : Tryd.prog.cellsOf 4 = 1 := by kernel_rfl
theorem array6 {α : Type} {cs : Array α} (h : cs.size = 6) : ∃ c0 c1 c2 c3 c4 c5, cs = #[c0, c1, c2, c3, c4, c5] := by
  obtain ⟨l⟩ := cs
  match l, h with
  | [c0, c1, c2, c3, c4, c5], _ => exact ⟨c0, c1, c2, c3, c4, c5, rfl⟩
theorem int_bd {n : Int} (h : (Lit.int .i64 n).wf = true) : -9223372036854775808 ≤ n ∧ n ≤ 9223372036854775807 := by
  simpa [Lit.wf, IntKind.min, IntKind.max, IntKind.signed, IntKind.bits] using h
set_option maxRecDepth 100000 in
theorem open_term {H : Type} {enc : TypeId × Value → H} {W : World} {b0 base : Nat} {sp : Nat → Bool} {held : Bool} {r : Reach} {v : Value} {d : DataW H} {p : List MemPlace} (hv : Value.okWide Tryd.prog W r b0 26 v) (h : DataW.Trod enc Tryd.prog W base sp held 26 v d p) :
    ∃ (gw gh x y : Int) (k : Bool) (A : Option Addr) (cap : Nat) (l : List (Int × Int)), v = .agg #[.int .i64 gw, .int .i64 gh, .slice A l.length cap, .int .i64 x, .int .i64 y, .bool k] ∧ Rc W (.slice A l.length cap) l ∧ l.length ≤ maxLen ∧ (-9223372036854775808 ≤ gw ∧ gw ≤ 9223372036854775807) ∧ (-9223372036854775808 ≤ gh ∧ gh ≤ 9223372036854775807) := by
  obtain ⟨cs, rfl, hsz⟩ := okWide_struct Tryd.underlying26 hv
  obtain ⟨c0, c1, c2, c3, c4, c5, rfl⟩ := array6 (hsz.trans termCells)
  obtain ⟨fuel, hf⟩ := h
  obtain ⟨y0, y1, y2, y3, n, hx, _, h0, h1, h2, h3⟩ := trod_struct4 Tryd.underlying26 hf
  simp only [Value.cells, gridCells, TabG.intCells, boolCells] at h0 h1 h2 h3
  have h0' : DataW.trod enc Tryd.prog W base sp held n 24 [c0, c1, c2] = some y0 := h0
  have h1' : DataW.trod enc Tryd.prog W base sp held n 3 [c3] = some y1 := h1
  have h2' : DataW.trod enc Tryd.prog W base sp held n 3 [c4] = some y2 := h2
  have h3' : DataW.trod enc Tryd.prog W base sp held n 4 [c5] = some y3 := h3
  obtain ⟨z0, z1, z2, m, _, _, g0, g1, g2⟩ := Deep.trod_struct3 Tryd.underlying24 h0'
  simp only [TabG.intCells, sliceCells] at g0 g1 g2
  have g0' : DataW.trod enc Tryd.prog W base sp held m 3 [c0] = some z0 := g0
  have g1' : DataW.trod enc Tryd.prog W base sp held m 3 [c1] = some z1 := g1
  have g2' : DataW.trod enc Tryd.prog W base sp held m 22 [c2] = some z2 := g2
  obtain ⟨gw, e0, _, w0⟩ := DataW.trod_int Tryd.underlying3 g0'
  obtain ⟨gh, e1, _, w1⟩ := DataW.trod_int Tryd.underlying3 g1'
  obtain ⟨x, e3, _, _⟩ := DataW.trod_int Tryd.underlying3 h1'
  obtain ⟨y, e4, _, _⟩ := DataW.trod_int Tryd.underlying3 h2'
  obtain ⟨k, e5, _⟩ := DataW.trod_bool Tryd.underlying4 h3'
  obtain ⟨l, hr, hm, hcp⟩ := TabG.open_cells g2'
  obtain ⟨A, cap, rfl⟩ : ∃ A cap, c2 = .slice A l.length cap := ⟨_, _, hr.2.choose_spec.choose_spec.1⟩
  simp only [List.cons.injEq, and_true] at e0 e1 e3 e4 e5
  subst e0 e1 e3 e4 e5
  exact ⟨gw, gh, x, y, k, A, cap, l, rfl, ⟨A, cap, rfl, hcp A _ _ rfl, hr⟩, hm, int_bd w0, int_bd w1⟩
end TabT
def seatLaid8 : List (String × DataW Unit) := [("math/bits.deBruijn32tab", Rows.laid_math_bits_deBruijn32tab), ("math/bits.deBruijn64tab", Rows.laid_math_bits_deBruijn64tab), ("internal/strconv.uint64pow10", Rows.laid_internal_strconv_uint64pow10), ("unicode/utf8.acceptRanges", Rows.laid_unicode_utf8_acceptRanges), ("typebar/wide.wideSpans", Rows.laid_typebar_wide_wideSpans), ("typebar/grid.blank", Rows.laid_typebar_grid_blank), ("typebar/vt.oneForms", Rows.laid_typebar_vt_oneForms), ("unicode/utf8.first", Rows.laid_unicode_utf8_first)]
theorem tabs8_of {W : World} (h : laidMetH Tryd.prog seatLaid8 W) : Spans W 1 ∧ Blk W 0 ∧ Forms W 2 ∧ Gl.Tabs W 3 4 := by
  rw [MakeChecks.laidMetH_plain _ _ _ (by kernel_rfl)] at h
  obtain ⟨ps, ⟨_, _, _, _, _, _, _, _, _, _, ⟨_, _, _, _, _, _, _, _, _, _, ⟨_, _, _, _, _, _, _, _, _, _, ⟨g3, t3, cs3, f3, p3, q3, hg3, ht3, hv3, hd3, ⟨g4, t4, cs4, f4, p4, q4, hg4, ht4, hv4, hd4, ⟨g5, t5, cs5, f5, p5, q5, hg5, ht5, hv5, hd5, ⟨g6, t6, cs6, f6, p6, q6, hg6, ht6, hv6, hd6, ⟨g7, t7, cs7, f7, p7, q7, hg7, ht7, hv7, hd7, _, _⟩, _⟩, _⟩, _⟩, _⟩, _⟩, _⟩, _⟩, _, _⟩ := h
  exact ⟨TabG.spans_at hg4 ht4 hv4 hd4, TabG.blank_at hg5 ht5 hv5 hd5, TabV.forms_at hg6 ht6 hv6 hd6, tabs_at hg3 ht3 hv3 hd3 hg7 ht7 hv7 hd7⟩
end Go.Proofs.YtcakklafjfobeaaDoor
