/- What lasts in the loop of TermFills. -/
import Derived.Test.YtkkioajmfkcloaaDoorTmO
import Derived.Test.YtkkioajmfkcloaaDoorMm
import Derived.BigGuardPart
import Derived.BigQuiet
import Derived.IntWalk
import Derived.Deep.QuietTactic
set_option linter.unusedVariables false
namespace Go.Proofs.YtkkioajmfkcloaaDoor
open Go.RowKit Gl L Wd Gd Tm Vt
/-- v is a row that lies in none of two blocks. -/
def Rn (w : World) (tb gb : Nat) (v : Value) (l : List (Int × Int)) : Prop := ∃ g off cap, v = .slice (some ⟨g, off, none⟩) l.length cap ∧ l.length ≤ cap ∧ g ≠ tb ∧ g ≠ gb ∧ ∀ j u, (flat l)[j]? = some u → w.cell? ⟨g, off + j, none⟩ = some u
theorem Rn.rc {w : World} {tb gb : Nat} {v : Value} {l : List (Int × Int)} (h : Rn w tb gb v l) : Rc w v l := by
  obtain ⟨g, off, cap, rfl, hc, -, -, h⟩ := h
  exact ⟨_, cap, rfl, hc, by rw [flat_len], _, cap, rfl, .inr ⟨g, off, rfl, h⟩⟩
theorem Rn.below {w w' : World} {tb gb : Nat} {v : Value} {l : List (Int × Int)} (h : Rn w tb gb v l) (hb : Below w.heap.size w w') : Rn w' tb gb v l := by
  obtain ⟨g, off, cap, rfl, hc, h1, h2, h⟩ := h
  exact ⟨g, off, cap, rfl, hc, h1, h2, fun j u hu => by rw [old_cell hb _ _ (World.block_lt_of_cell? w _ (h j u hu))]; exact h j u hu⟩
theorem Rn.set {w : World} {tb gb : Nat} {v : Value} {l : List (Int × Int)} (h : Rn w tb gb v l) {b : Nat} (hb : b = tb ∨ b = gb) (o : Nat) (u : Value) : Rn (w.setCell ⟨b, o, none⟩ u) tb gb v l := by
  obtain ⟨g, off, cap, rfl, hc, h1, h2, h⟩ := h
  exact ⟨g, off, cap, rfl, hc, h1, h2, fun j x hx => by
    rw [World.cell?_of_block (w := w) (w' := w.setCell ⟨b, o, none⟩ u) (a := ⟨g, off + j, none⟩) (Below.heap_setCell _ _ _ _ (by rcases hb with rfl | rfl; exact h1; exact h2))]; exact h j x hx⟩
theorem Rn.of_own {B : Nat} {w : World} {tb gb : Nat} {v : Value} {l : List (Int × Int)} (h : Own B w v l) (h1 : tb < B ∨ w.heap.size ≤ tb) (h2 : gb < B ∨ w.heap.size ≤ gb) : Rn w tb gb v l := by
  obtain ⟨g, cap, rfl, hc, hr⟩ := h
  have hlt := hr.lt g rfl
  refine ⟨g, 0, cap, rfl, hc, by omega, by omega, fun j u hu => ?_⟩
  have := hr.cells (g := g) rfl j u hu
  rwa [add_none] at this
theorem Rn.of_kp {B : Nat} {w w' : World} {tb gb : Nat} {vi v : Value} {li l : List (Int × Int)} (h : Kp B vi li w' v l) (hi : Rn w tb gb vi li) (hb : Below w.heap.size w w') (h1 : tb < B) (h2 : gb < B) : Rn w' tb gb v l := by
  rcases h with ⟨rfl, rfl⟩ | h
  · exact hi.below hb
  · exact Rn.of_own h (.inl h1) (.inl h2)
/-- What lasts in the loop of TermFills: the terminal's block, the command's and the grid's. -/
structure FR (W w : World) (tb cb gb : Nat) (gw gh : Int) (x y : Int) (k : Bool) (lt lg : List (Int × Int)) (v v2 : Value) (r : Int) : Prop where
  below : Below W.heap.size W w
  t : w.heap[tb]? = some (.cells #[.int .i64 gw, .int .i64 gh, v, .int .i64 x, .int .i64 y, .bool k] 26 (0, 0))
  c : w.heap[cb]? = some (.cells #[.int .i64 1, .int .i64 0, .int .i64 0, .int .i32 r] 36 (0, 0))
  g : w.heap[gb]? = some (.cells #[.int .i64 gw, .int .i64 gh, v2] 24 (0, 0))
  rt : Rn w tb gb v lt
  rg : Rn w tb gb v2 lg
  ht : W.heap.size ≤ tb
  hg : W.heap.size ≤ gb
  tc : tb ≠ cb
  tg : tb ≠ gb
  cg : cb ≠ gb
theorem FR.call {W w w' : World} {tb cb gb : Nat} {gw gh x y : Int} {k : Bool} {lt lg : List (Int × Int)} {v v2 : Value} {r : Int} (h : FR W w tb cb gb gw gh x y k lt lg v v2 r) (hb : Below w.heap.size w w') : FR W w' tb cb gb gw gh x y k lt lg v v2 r :=
  ⟨h.below.trans (hb.mono h.below.size), carry hb h.t, carry hb h.c, carry hb h.g, h.rt.below hb, h.rg.below hb, h.ht, h.hg, h.tc, h.tg, h.cg⟩
theorem fill_dim (W H : Nat) (r : Int) (i : Nat) : (fillT W H r i).w = W ∧ (fillT W H r i).h = H := by
  cases i <;> exact ⟨rfl, rfl⟩
theorem fill_l (W H : Nat) (r : Int) (i : Nat) : (fillT W H r i).l = fillL W H r i := by
  cases i <;> rfl
theorem fill_all (W H : Nat) (r : Int) (i : Nat) : fillT W H r i = ⟨W, H, fillL W H r i, (fillT W H r i).x, (fillT W H r i).y, (fillT W H r i).k⟩ := by
  cases i <;> rfl
def FillRel (W : World) (tb cb gb gw gh : Nat) (r : Int) (i : Value) (w : World) : Prop := ∃ (k : Nat) (v v2 : Value), k ≤ gw * gh ∧ i = .int .i64 k ∧
  FR W w tb cb gb gw gh (fillT gw gh r k).x (fillT gw gh r k).y (fillT gw gh r k).k (fillL gw gh r k) (fillL gw gh r k) v v2 r
/-- The new terminal is stored. -/
theorem FR.setT {W w : World} {tb cb gb : Nat} {gw gh x y x' y' : Int} {k k' : Bool} {lt lg lt' : List (Int × Int)} {v v2 v' : Value} {r : Int} (h : FR W w tb cb gb gw gh x y k lt lg v v2 r) (hr : Rn w tb gb v' lt') :
    FR W ((((((w.setCell ⟨tb, 0, none⟩ (.int .i64 gw)).setCell ⟨tb, 1, none⟩ (.int .i64 gh)).setCell ⟨tb, 2, none⟩ v').setCell ⟨tb, 3, none⟩ (.int .i64 x')).setCell ⟨tb, 4, none⟩ (.int .i64 y')).setCell ⟨tb, 5, none⟩ (.bool k')) tb cb gb gw gh x' y' k' lt' lg v' v2 r := by
  have l (o : Nat) (u : Value) {wz : World} (hb : Below W.heap.size W wz) : Below W.heap.size W (wz.setCell ⟨tb, o, none⟩ u) := hb.setCell h.ht _
  have ct : cb ≠ tb := h.tc.symm
  have gt : gb ≠ tb := h.tg.symm
  refine ⟨l _ _ (l _ _ (l _ _ (l _ _ (l _ _ (l _ _ h.below))))), ?_, ?_, ?_, ?_, ?_, h.ht, h.hg, h.tc, h.tg, h.cg⟩
  · exact setCell_at (setCell_at (setCell_at (setCell_at (setCell_at (setCell_at h.t)))))
  · exact setCell_ne (setCell_ne (setCell_ne (setCell_ne (setCell_ne (setCell_ne h.c ct) ct) ct) ct) ct) ct
  · exact setCell_ne (setCell_ne (setCell_ne (setCell_ne (setCell_ne (setCell_ne h.g gt) gt) gt) gt) gt) gt
  · exact (((((hr.set (.inl rfl) _ _).set (.inl rfl) _ _).set (.inl rfl) _ _).set (.inl rfl) _ _).set (.inl rfl) _ _).set (.inl rfl) _ _
  · exact (((((h.rg.set (.inl rfl) _ _).set (.inl rfl) _ _).set (.inl rfl) _ _).set (.inl rfl) _ _).set (.inl rfl) _ _).set (.inl rfl) _ _
/-- The new grid is stored. -/
theorem FR.setG {W w : World} {tb cb gb : Nat} {gw gh x y : Int} {k : Bool} {lt lg lg' : List (Int × Int)} {v v2 v' : Value} {r : Int} (h : FR W w tb cb gb gw gh x y k lt lg v v2 r) (hr : Rn w tb gb v' lg') :
    FR W (((w.setCell ⟨gb, 0, none⟩ (.int .i64 gw)).setCell ⟨gb, 1, none⟩ (.int .i64 gh)).setCell ⟨gb, 2, none⟩ v') tb cb gb gw gh x y k lt lg' v v' r := by
  have l (o : Nat) (u : Value) {wz : World} (hb : Below W.heap.size W wz) : Below W.heap.size W (wz.setCell ⟨gb, o, none⟩ u) := hb.setCell h.hg _
  refine ⟨l _ _ (l _ _ (l _ _ h.below)), ?_, ?_, ?_, ?_, ?_, h.ht, h.hg, h.tc, h.tg, h.cg⟩
  · exact setCell_ne (setCell_ne (setCell_ne h.t h.tg) h.tg) h.tg
  · exact setCell_ne (setCell_ne (setCell_ne h.c h.cg) h.cg) h.cg
  · exact setCell_at (setCell_at (setCell_at h.g))
  · exact ((h.rt.set (.inr rfl) _ _).set (.inr rfl) _ _).set (.inr rfl) _ _
  · exact ((hr.set (.inr rfl) _ _).set (.inr rfl) _ _).set (.inr rfl) _ _
end Go.Proofs.YtkkioajmfkcloaaDoor
