/- Lemmas of no program on rows of cells of any size: one that came in or was made; append of a row that may be nil. -/
import Derived.Test.YteafbfgmdknaeaaDoorLibB
import Derived.Laws.AppendOwnNone
import Derived.Laws.OwnMore
namespace Go.Proofs.YteafbfgmdknaeaaDoor
open Go.RowKit
namespace L
theorem old_cell {W w1 : World} (hb : Below W.heap.size W w1) (b o : Nat) (h : b < W.heap.size) : w1.cell? ⟨b, o, none⟩ = W.cell? ⟨b, o, none⟩ := hb.cell (p := ⟨b, o, none⟩) h
theorem old_frozen {W w1 : World} (hb : Below W.heap.size W w1) (b o : Nat) (h : b < W.heap.size) : w1.frozen? ⟨b, o, none⟩ = W.frozen? ⟨b, o, none⟩ := hb.frozen (p := ⟨b, o, none⟩) h
theorem add_none (b off j : Nat) : (⟨b, off, none⟩ : Addr).add j = ⟨b, off + j, none⟩ := by unfold Addr.add; split <;> simp_all

/-- v is a row of n elements of so many cells each, which hold xs. -/
def Rw (w : World) (v : Value) (size n : Nat) (xs : List Value) : Prop :=
  xs.length = n * size ∧ ∃ A cap, v = .slice A n cap ∧ (n = 0 ∧ (A = none → cap = 0) ∨ ∃ b off, A = some ⟨b, off, none⟩ ∧ ∀ j u, xs[j]? = some u → w.cell? ⟨b, off + j, none⟩ = some u)
theorem Rw.keep {w w' : World} {v : Value} {size n : Nat} {xs : List Value} (h : Rw w v size n xs) (hk : ∀ b o u, w.cell? ⟨b, o, none⟩ = some u → w'.cell? ⟨b, o, none⟩ = some u) : Rw w' v size n xs := by
  obtain ⟨h1, A, cap, rfl, h⟩ := h
  refine ⟨h1, A, cap, rfl, ?_⟩
  rcases h with h | ⟨b, off, rfl, hc⟩
  · exact .inl h
  · exact .inr ⟨b, off, rfl, fun j u hu => hk _ _ _ (hc j u hu)⟩
theorem Rw.below {w w' : World} {v : Value} {size n : Nat} {xs : List Value} (h : Rw w v size n xs) (hb : Below w.heap.size w w') : Rw w' v size n xs :=
  h.keep fun b o u hu => by rw [old_cell hb b o (World.block_lt_of_cell? w _ hu)]; exact hu
theorem Rw.alloc {w : World} {v : Value} {size n : Nat} {xs : List Value} (h : Rw w v size n xs) (o : Obj) : Rw (w.alloc o) v size n xs := h.below ((Below.refl _ _).alloc (Nat.le_refl _) _)
theorem Rw.of_owns {w : World} {base : Nat} {e : TypeId} {size n : Nat} {v : Value} {xs : List Value} (h : w.ownsRow base e size v n xs) : Rw w v size n xs := by
  refine ⟨h.1, ?_⟩
  rcases h.2 with ⟨rfl, h0⟩ | ⟨g, cap, cur, rfl, hg, hh, h3, h4, h5, h6⟩
  · subst h0
    exact ⟨none, 0, rfl, .inl ⟨rfl, fun _ => rfl⟩⟩
  · refine ⟨_, cap, rfl, .inr ⟨g, 0, rfl, fun j u hu => ?_⟩⟩
    have := h.cells (g := g) rfl j u hu
    rwa [add_none] at this
theorem Rw.lit (w : World) (cs : Array Value) (t : TypeId) (size n cap : Nat) (hs : n * size ≤ cs.size) : Rw (w.alloc (.cells cs t)) (.slice (some ⟨w.heap.size, 0, none⟩) n cap) size n (cs.toList.take (n * size)) := by
  refine ⟨by simp; omega, _, cap, rfl, .inr ⟨w.heap.size, 0, rfl, fun j u hu => ?_⟩⟩
  rw [cell_of_row (w.alloc (.cells cs t)) w.heap.size (0 + j) cs t (0, 0) (heap_alloc_new w _)]
  rw [List.getElem?_take] at hu
  split at hu
  · simpa using hu
  · cases hu
theorem wpList_append_rw {P : Program} {w : World} {ops : Array Oper} {rest : List Oper} {o : Oper} {a : Act} {Q : Exit → Act → World → Prop} (hgd : o.guard = none) (s x : Operand) (t : TypeId)
    (ho : o.op = .call { callee := .builtin .append, args := #[s, x], argTypes := #[t, t] })
    (base : Nat) (e : TypeId) (i : TypeInfo) (z : Value) (size bytes : Nat) (ht : P.underlying t = some (.slice e)) (hi : P.info? e = some i) (hz : i.zero = some z)
    (hsize : i.size = size) (hby : i.bytes = bytes) (hzs : z.cells.size = size) (hsz : 0 < size)
    (v : Value) (n : Nat) (xs : List Value) (hs : a.eval s = v) (hown : w.ownsRow base e size v n xs)
    (v2 : Value) (m : Nat) (news : List Value) (hx : a.eval x = v2) (hr : Rw w v2 size m news) (h1 : ∀ u ∈ news, u.oneCell' = true)
    (h63 : n + m ≤ maxLen) (hbytes : (n + m) * bytes ≤ 140737488355328) (hbase : base ≤ w.heap.size)
    (h : ∀ v' w', w'.ownsRow base e size v' (n + m) (xs ++ news) → w.grownBy w' v.ownBlock → (v ≠ .slice none 0 0 → v' ≠ .slice none 0 0) → wpList P ops Q rest (a.put o.dst v') w') : wpList P ops Q (o :: rest) a w := by
  obtain ⟨hl, A, cap, rfl, hr⟩ := hr
  cases A with
  | none =>
    rcases hr with ⟨rfl, hc⟩ | ⟨_, _, h, _⟩
    · obtain rfl := hc rfl
      have : news = [] := List.eq_nil_of_length_eq_zero (by simpa using hl)
      subst this
      refine wpList_append_own_none hgd s x t ho base e i size ht hi v n xs hs hown hx (h v w (by simpa using hown) ⟨rfl, rfl, rfl, Nat.le_refl _, fun k _ _ => rfl⟩ id)
    · cases h
  | some ad =>
    refine wpList_append_own _ hgd s x t ho base e i z size bytes ht hi hz hsize hby hzs hsz v n xs hs hown ad m cap news hx hl ?_ h1 h63 hbytes hbase (fun v' w' h1 h2 h3 => h v' w' h1 h2 fun hn he => hn (h3.1 he).1)
    intro j u hu
    rcases hr with ⟨rfl, _⟩ | ⟨b, off, h, hc⟩
    · have : news = [] := List.eq_nil_of_length_eq_zero (by simpa using hl)
      subst this
      simp at hu
    · cases h
      rw [add_none]
      exact hc j u hu
theorem Below.of_grown {B : Nat} {w0 w w' : World} (h : Below B w0 w) {base : Nat} {e : TypeId} {size n : Nat} {v : Value} {xs : List Value} (hown : w.ownsRow base e size v n xs) (hg : w.grownBy w' v.ownBlock) (h1 : B ≤ w.heap.size) (h2 : B ≤ base) : Below B w0 w' :=
  h.grown hg h1 fun k hk => Nat.le_trans h2 (hown.lt k hk).1
theorem IsRow.toRw {w : World} {v : Value} {k : IntKind} {xs : List Int} (h : IsRow w v k xs) (hnil : ∀ c, v = .slice none 0 c → c = 0) : Rw w v 1 xs.length (ints k xs) := by
  obtain ⟨A, cap, rfl, h⟩ := h
  refine ⟨by simp [ints], A, cap, rfl, ?_⟩
  rcases h with rfl | ⟨b, off, rfl, hc⟩
  · exact .inl ⟨rfl, fun h => hnil cap (by rw [h]; rfl)⟩
  · refine .inr ⟨b, off, rfl, fun j u hu => ?_⟩
    simp only [ints, List.getElem?_map, Option.map_eq_some_iff] at hu
    obtain ⟨x, hx, rfl⟩ := hu
    have hj : j < xs.length := (List.getElem?_eq_some_iff.1 hx).1
    rw [hc j hj, List.getD_eq_getElem?_getD, hx]
    rfl
theorem Rw.pre {w : World} {A : Option Addr} {size n cap m : Nat} {xs : List Value} (h : Rw w (.slice A n cap) size n xs) (hm : m ≤ n) : Rw w (.slice A m cap) size m (xs.take (m * size)) := by
  obtain ⟨hl, A', cap', he, h⟩ := h
  injection he with h1 h2 h3
  subst h1 h3
  have hmul : m * size ≤ n * size := Nat.mul_le_mul_right _ hm
  refine ⟨by rw [List.length_take, hl]; omega, A, cap, rfl, ?_⟩
  rcases h with ⟨rfl, h⟩ | ⟨b, off, rfl, hc⟩
  · obtain rfl : m = 0 := by omega
    exact .inl ⟨rfl, h⟩
  · refine .inr ⟨b, off, rfl, fun j u hu => hc j u ?_⟩
    rw [List.getElem?_take] at hu
    split at hu
    · exact hu
    · cases hu
theorem Rw.suf {w : World} {b off size n cap m : Nat} {xs : List Value} (h : Rw w (.slice (some ⟨b, off, none⟩) n cap) size n xs) (hm : m ≤ n) (c : Nat) : Rw w (.slice (some ⟨b, off + m * size, none⟩) (n - m) c) size (n - m) (xs.drop (m * size)) := by
  obtain ⟨hl, A', cap', he, h⟩ := h
  injection he with h1 h2 h3
  subst h1 h3
  refine ⟨by rw [List.length_drop, hl, Nat.sub_mul], _, c, rfl, ?_⟩
  rcases h with ⟨rfl, h⟩ | ⟨b', off', he', hc⟩
  · exact .inl ⟨by omega, fun h => by cases h⟩
  · cases he'
    refine .inr ⟨b, _, rfl, fun j u hu => ?_⟩
    rw [Nat.add_assoc]
    refine hc _ u ?_
    rw [List.getElem?_drop] at hu
    exact hu
theorem Rw.form {w : World} {v : Value} {base : Nat} {e : TypeId} {size n : Nat} {xs : List Value} (h : w.ownsRow base e size v n xs) : v = .slice none 0 0 ∧ n = 0 ∨ ∃ g cap, v = .slice (some ⟨g, 0, none⟩) n cap ∧ n ≤ cap := by
  rcases h.2 with h | ⟨g, cap, cur, rfl, hg, hh, h3, _⟩
  · exact .inl h
  · exact .inr ⟨g, cap, rfl, h3⟩
theorem Rw.form_ne {w : World} {v : Value} {base : Nat} {e : TypeId} {size n : Nat} {xs : List Value} (h : w.ownsRow base e size v n xs) (hv : v ≠ .slice none 0 0) : ∃ g cap, v = .slice (some ⟨g, 0, none⟩) n cap ∧ n ≤ cap :=
  (Rw.form h).resolve_left fun h => hv h.1
theorem IsRow.of_rw {w : World} {v : Value} {k : IntKind} {xs : List Int} (h : Rw w v 1 xs.length (ints k xs)) : IsRow w v k xs := by
  obtain ⟨_, A, cap, rfl, h⟩ := h
  refine ⟨A, cap, rfl, ?_⟩
  rcases h with ⟨h, _⟩ | ⟨b, off, rfl, hc⟩
  · exact .inl (List.eq_nil_of_length_eq_zero h)
  · refine .inr ⟨b, off, rfl, fun j hj => hc j _ ?_⟩
    simp [ints, List.getD, hj]
theorem ints_one (k : IntKind) (l : List Int) : ∀ u ∈ ints k l, u.oneCell' = true := by
  intro u hu
  simp only [ints, List.mem_map] at hu
  obtain ⟨x, _, rfl⟩ := hu
  rfl
theorem ints_append (k : IntKind) (l m : List Int) : ints k l ++ ints k m = ints k (l ++ m) := by simp [ints]
end L
end Go.Proofs.YteafbfgmdknaeaaDoor
