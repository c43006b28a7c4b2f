/- Of no program: rows, what lasts. -/
import Derived.WalkKit
import Derived.Handy
import Derived.Lib.Hide
import Derived.Lib.OthersKept
import Derived.WalkSmall
import Derived.Laws.AppendOwnNone
import Derived.Laws.OwnMore
/- Small lemmas of no program: a result's equation by its parts, string([]byte{..}) of a new block. Conditions: as each lemma states. -/
namespace Go.Proofs.Ytogfnhhgbmnbpaa
open Go.RowKit
namespace L
theorem ret_bool {a b : Bool} (h : a = b) : Ending.returned (.bool a) = .returned (.bool b) := by rw [h]
theorem ret_int {k : IntKind} {a b : Int} (h : a = b) : Ending.returned (.int k a) = .returned (.int k b) := by rw [h]
theorem ret_str {a b : ByteArray} (h : a = b) : Ending.returned (.string a) = .returned (.string b) := by rw [h]
theorem ret_2 {a b c d : Value} (h : a = b) (h' : c = d) : Ending.returned (.tuple #[a, c]) = .returned (.tuple #[b, d]) := by rw [h, h']
theorem ret_3 {a b c d e f : Value} (h : a = b) (h' : c = d) (h'' : e = f) : Ending.returned (.tuple #[a, c, e]) = .returned (.tuple #[b, d, f]) := by rw [h, h', h'']
theorem v_bool {a b : Bool} (h : a = b) : Value.bool a = .bool b := by rw [h]
theorem v_int {k : IntKind} {a b : Int} (h : a = b) : Value.int k a = .int k b := by rw [h]
theorem v_str {a b : ByteArray} (h : a = b) : Value.string a = .string b := by rw [h]
section
variable {P : Program}
theorem conv_new (src e dst : TypeId) (hs : P.underlying src = some (.slice e)) (he : P.underlying e = some (.int .u8)) (hd : P.underlying dst = some .string) (w : World) (t : TypeId) (xs : List Int) (len cap : Nat) (hl : xs.length = len) :
    (convert src dst (.slice (some ⟨w.heap.size, 0, none⟩) len cap)).run P (w.alloc (.cells (xs.map (Value.int .u8)).toArray t)) = .ok (.string (strOfNums xs)) (w.alloc (.cells (xs.map (Value.int .u8)).toArray t)) :=
  run_convert_bytes_arg _ src e hs he _ _ len cap xs hl (fun i hi => by
    have hb : (w.alloc (.cells (xs.map (Value.int .u8)).toArray t)).heap[w.heap.size]? = some (.cells (xs.map (Value.int .u8)).toArray t) := by
      show (w.heap.push _)[w.heap.size]? = _
      simp
    have hi' : i < xs.length := by omega
    unfold World.cell?
    simp only [Nat.zero_add]
    rw [hb]
    simp [List.getD, hi']) dst hd
theorem conv1 (src e dst : TypeId) (hs : P.underlying src = some (.slice e)) (he : P.underlying e = some (.int .u8)) (hd : P.underlying dst = some .string) (w : World) (t : TypeId) (a : Int) :
    (convert src dst (.slice (some ⟨w.heap.size, 0, none⟩) 1 1)).run P (w.alloc (.cells #[.int .u8 a] t)) = .ok (.string (strOfNums [a])) (w.alloc (.cells #[.int .u8 a] t)) := conv_new src e dst hs he hd w t [a] 1 1 rfl
theorem conv2 (src e dst : TypeId) (hs : P.underlying src = some (.slice e)) (he : P.underlying e = some (.int .u8)) (hd : P.underlying dst = some .string) (w : World) (t : TypeId) (a b : Int) :
    (convert src dst (.slice (some ⟨w.heap.size, 0, none⟩) 2 2)).run P (w.alloc (.cells #[.int .u8 a, .int .u8 b] t)) = .ok (.string (strOfNums [a, b])) (w.alloc (.cells #[.int .u8 a, .int .u8 b] t)) := conv_new src e dst hs he hd w t [a, b] 2 2 rfl
theorem conv3 (src e dst : TypeId) (hs : P.underlying src = some (.slice e)) (he : P.underlying e = some (.int .u8)) (hd : P.underlying dst = some .string) (w : World) (t : TypeId) (a b c : Int) :
    (convert src dst (.slice (some ⟨w.heap.size, 0, none⟩) 3 3)).run P (w.alloc (.cells #[.int .u8 a, .int .u8 b, .int .u8 c] t)) = .ok (.string (strOfNums [a, b, c])) (w.alloc (.cells #[.int .u8 a, .int .u8 b, .int .u8 c] t)) := conv_new src e dst hs he hd w t [a, b, c] 3 3 rfl
theorem conv4 (src e dst : TypeId) (hs : P.underlying src = some (.slice e)) (he : P.underlying e = some (.int .u8)) (hd : P.underlying dst = some .string) (w : World) (t : TypeId) (a b c d : Int) :
    (convert src dst (.slice (some ⟨w.heap.size, 0, none⟩) 4 4)).run P (w.alloc (.cells #[.int .u8 a, .int .u8 b, .int .u8 c, .int .u8 d] t)) = .ok (.string (strOfNums [a, b, c, d])) (w.alloc (.cells #[.int .u8 a, .int .u8 b, .int .u8 c, .int .u8 d] t)) := conv_new src e dst hs he hd w t [a, b, c, d] 4 4 rfl
end
end L
end Go.Proofs.Ytogfnhhgbmnbpaa
/- Lemmas of no program on rows of integers: one that came in, one that the call made; append; iterators. -/
namespace Go.Proofs.Ytogfnhhgbmnbpaa
open Go.RowKit
namespace L
theorem new1 (w : World) (x : Value) (t : TypeId) : ∀ j u, [x][j]? = some u → (w.alloc (.cells #[x] t)).cell? ((⟨w.heap.size, 0, none⟩ : Addr).add j) = some u := by
  intro j u hu
  rcases j with _ | j
  · simp at hu; subst hu
    have hb : (w.alloc (.cells #[x] t)).heap[w.heap.size]? = some (.cells #[x] t) := by
      show (w.heap.push _)[w.heap.size]? = _
      simp
    show (w.alloc (.cells #[x] t)).cell? ⟨w.heap.size, 0 + 0, none⟩ = _
    unfold World.cell?
    simp only [Nat.zero_add]
    rw [hb]
    rfl
  · simp at hu
theorem one1 (x : Value) (h : x.oneCell' = true) : ∀ u ∈ [x], u.oneCell' = true := by
  intro u hu; simp at hu; subst hu; exact h
theorem ownsRow_iterAt' {w : World} {base : Nat} {e : TypeId} {size : Nat} {v : Value} {n : Nat} {xs : List Value} (h : w.ownsRow base e size v n xs) {k : Nat} {s : ByteArray} {p : Nat} (hk : w.heap[k]? = some (.stringIter s p)) (q : Nat) :
    (w.iterAt k s q).ownsRow base e size v n xs := by
  obtain ⟨h1, h2⟩ := h
  refine ⟨h1, ?_⟩
  rcases h2 with h2 | ⟨g, cap, cur, hv, hg, hh, r⟩
  · exact .inl h2
  · refine .inr ⟨g, cap, cur, hv, hg, ?_, r⟩
    rw [Lib.iterAt_other _ _ _ _ _ (by rintro rfl; rw [hk] at hh; cases hh)]; exact hh
theorem ownsRow_mono {w : World} {b b' : Nat} {e : TypeId} {size : Nat} {v : Value} {n : Nat} {xs : List Value} (h : w.ownsRow b e size v n xs) (hb : b' ≤ b) : w.ownsRow b' e size v n xs := by
  obtain ⟨h1, h2⟩ := h
  refine ⟨h1, ?_⟩
  rcases h2 with h2 | ⟨g, cap, cur, hv, hg, r⟩
  · exact .inl h2
  · exact .inr ⟨g, cap, cur, hv, Nat.le_trans hb hg, r⟩
def ints (k : IntKind) (l : List Int) : List Value := l.map (Value.int k)
theorem ints_snoc (k : IntKind) (l : List Int) (x : Int) : ints k l ++ [Value.int k x] = ints k (l ++ [x]) := by simp [ints]
theorem ints_len (k : IntKind) (l : List Int) : (ints k l).length = l.length := by simp [ints]
/-- v is a row whose elements are the integers xs. -/
def IsRow (w : World) (v : Value) (k : IntKind) (xs : List Int) : Prop :=
  ∃ A cap, v = .slice A xs.length cap ∧ (xs = [] ∨ ∃ b off, A = some ⟨b, off, none⟩ ∧ ∀ j, j < xs.length → w.cell? ⟨b, off + j, none⟩ = some (.int k (xs.getD j 0)))
theorem IsRow.below {w w' : World} {v : Value} {k : IntKind} {xs : List Int} (h : IsRow w v k xs) (hb : Below w.heap.size w w') : IsRow w' v k xs := by
  obtain ⟨A, cap, rfl, h⟩ := h
  refine ⟨A, cap, rfl, ?_⟩
  rcases h with h | ⟨b, off, rfl, hc⟩
  · exact .inl h
  · refine .inr ⟨b, off, rfl, fun j hj => ?_⟩
    rw [hb.cell (World.block_lt_of_cell? w _ (hc j hj))]
    exact hc j hj
theorem IsRow.of_owns {w : World} {base : Nat} {e : TypeId} {v : Value} {k : IntKind} {xs : List Int} (h : w.ownsRow base e 1 v xs.length (ints k xs)) : IsRow w v k xs := by
  obtain ⟨h1, h2⟩ := h
  rcases h2 with ⟨rfl, h0⟩ | ⟨g, cap, cur, rfl, hg, hh, h3, h4, h5, h6⟩
  · exact ⟨none, 0, by rw [h0], .inl (List.eq_nil_of_length_eq_zero h0)⟩
  · refine ⟨_, cap, rfl, ?_⟩
    by_cases hx : xs = []
    · exact .inl hx
    · refine .inr ⟨g, 0, rfl, fun j hj => ?_⟩
      unfold World.cell?
      simp only [Nat.zero_add]
      rw [hh]
      show cur[j]? = _
      have e1 : (cur.toList.take (xs.length * 1))[j]? = cur.toList[j]? := by rw [List.getElem?_take, if_pos (by omega)]
      rw [h6] at e1
      rw [← Array.getElem?_toList, ← e1]
      simp [ints, List.getD, hj]
theorem ownsRow_below {w w' : World} {base : Nat} {e : TypeId} {size : Nat} {v : Value} {n : Nat} {xs : List Value} (h : w.ownsRow base e size v n xs) (hb : Below w.heap.size w w') : w'.ownsRow base e size v n xs := by
  obtain ⟨h1, h2⟩ := h
  refine ⟨h1, ?_⟩
  rcases h2 with h2 | ⟨g, cap, cur, hv, hg, hh, r⟩
  · exact .inl h2
  · exact .inr ⟨g, cap, cur, hv, hg, by rw [hb.block g (Array.getElem?_eq_some_iff.1 hh).1]; exact hh, r⟩
theorem IsRow.new (w : World) (k : IntKind) (xs : List Int) (t : TypeId) (cap : Nat) : IsRow (w.alloc (.cells (xs.map (Value.int k)).toArray t)) (.slice (some ⟨w.heap.size, 0, none⟩) xs.length cap) k xs := by
  refine ⟨_, cap, rfl, .inr ⟨w.heap.size, 0, rfl, fun j hj => ?_⟩⟩
  have hb : (w.alloc (.cells (xs.map (Value.int k)).toArray t)).heap[w.heap.size]? = some (.cells (xs.map (Value.int k)).toArray t) := by
    show (w.heap.push _)[w.heap.size]? = _
    simp
  unfold World.cell?
  simp only [Nat.zero_add]
  rw [hb]
  simp [List.getD, hj]
end L
end Go.Proofs.Ytogfnhhgbmnbpaa
/- Lemmas of no program on rows of cells of any size: one that came in or was made; append of a row that may be nil. -/
namespace Go.Proofs.Ytogfnhhgbmnbpaa
open Go.RowKit
namespace L
theorem old_cell {W w1 : World} (hb : Below W.heap.size W w1) (b o : Nat) (h : b < W.heap.size) : w1.cell? ⟨b, o, none⟩ = W.cell? ⟨b, o, none⟩ := hb.cell (p := ⟨b, o, none⟩) h
theorem old_frozen {W w1 : World} (hb : Below W.heap.size W w1) (b o : Nat) (h : b < W.heap.size) : w1.frozen? ⟨b, o, none⟩ = W.frozen? ⟨b, o, none⟩ := hb.frozen (p := ⟨b, o, none⟩) h
theorem add_none (b off j : Nat) : (⟨b, off, none⟩ : Addr).add j = ⟨b, off + j, none⟩ := by unfold Addr.add; split <;> simp_all
/-- v is a row of n elements of so many cells each, which hold xs. -/
def Rw (w : World) (v : Value) (size n : Nat) (xs : List Value) : Prop :=
  xs.length = n * size ∧ ∃ A cap, v = .slice A n cap ∧ (n = 0 ∧ (A = none → cap = 0) ∨ ∃ b off, A = some ⟨b, off, none⟩ ∧ ∀ j u, xs[j]? = some u → w.cell? ⟨b, off + j, none⟩ = some u)
theorem Rw.keep {w w' : World} {v : Value} {size n : Nat} {xs : List Value} (h : Rw w v size n xs) (hk : ∀ b o u, w.cell? ⟨b, o, none⟩ = some u → w'.cell? ⟨b, o, none⟩ = some u) : Rw w' v size n xs := by
  obtain ⟨h1, A, cap, rfl, h⟩ := h
  refine ⟨h1, A, cap, rfl, ?_⟩
  rcases h with h | ⟨b, off, rfl, hc⟩
  · exact .inl h
  · exact .inr ⟨b, off, rfl, fun j u hu => hk _ _ _ (hc j u hu)⟩
theorem Rw.below {w w' : World} {v : Value} {size n : Nat} {xs : List Value} (h : Rw w v size n xs) (hb : Below w.heap.size w w') : Rw w' v size n xs :=
  h.keep fun b o u hu => by rw [old_cell hb b o (World.block_lt_of_cell? w _ hu)]; exact hu
theorem Rw.alloc {w : World} {v : Value} {size n : Nat} {xs : List Value} (h : Rw w v size n xs) (o : Obj) : Rw (w.alloc o) v size n xs := h.below ((Below.refl _ _).alloc (Nat.le_refl _) _)
theorem Rw.of_owns {w : World} {base : Nat} {e : TypeId} {size n : Nat} {v : Value} {xs : List Value} (h : w.ownsRow base e size v n xs) : Rw w v size n xs := by
  refine ⟨h.1, ?_⟩
  rcases h.2 with ⟨rfl, h0⟩ | ⟨g, cap, cur, rfl, hg, hh, h3, h4, h5, h6⟩
  · subst h0
    exact ⟨none, 0, rfl, .inl ⟨rfl, fun _ => rfl⟩⟩
  · refine ⟨_, cap, rfl, .inr ⟨g, 0, rfl, fun j u hu => ?_⟩⟩
    have := h.cells (g := g) rfl j u hu
    rwa [add_none] at this
theorem Rw.lit (w : World) (cs : Array Value) (t : TypeId) (size n cap : Nat) (hs : n * size ≤ cs.size) : Rw (w.alloc (.cells cs t)) (.slice (some ⟨w.heap.size, 0, none⟩) n cap) size n (cs.toList.take (n * size)) := by
  refine ⟨by simp; omega, _, cap, rfl, .inr ⟨w.heap.size, 0, rfl, fun j u hu => ?_⟩⟩
  rw [cell_of_row (w.alloc (.cells cs t)) w.heap.size (0 + j) cs t (0, 0) (heap_alloc_new w _)]
  rw [List.getElem?_take] at hu
  split at hu
  · simpa using hu
  · cases hu
theorem wpList_append_rw {P : Program} {w : World} {ops : Array Oper} {rest : List Oper} {o : Oper} {a : Act} {Q : Exit → Act → World → Prop} (hgd : o.guard = none) (s x : Operand) (t : TypeId)
    (ho : o.op = .call { callee := .builtin .append, args := #[s, x], argTypes := #[t, t] })
    (base : Nat) (e : TypeId) (i : TypeInfo) (z : Value) (size bytes : Nat) (ht : P.underlying t = some (.slice e)) (hi : P.info? e = some i) (hz : i.zero = some z)
    (hsize : i.size = size) (hby : i.bytes = bytes) (hzs : z.cells.size = size) (hsz : 0 < size)
    (v : Value) (n : Nat) (xs : List Value) (hs : a.eval s = v) (hown : w.ownsRow base e size v n xs)
    (v2 : Value) (m : Nat) (news : List Value) (hx : a.eval x = v2) (hr : Rw w v2 size m news) (h1 : ∀ u ∈ news, u.oneCell' = true)
    (h63 : n + m ≤ maxLen) (hbytes : (n + m) * bytes ≤ 140737488355328) (hbase : base ≤ w.heap.size)
    (h : ∀ v' w', w'.ownsRow base e size v' (n + m) (xs ++ news) → w.grownBy w' v.ownBlock → (v ≠ .slice none 0 0 → v' ≠ .slice none 0 0) → wpList P ops Q rest (a.put o.dst v') w') : wpList P ops Q (o :: rest) a w := by
  obtain ⟨hl, A, cap, rfl, hr⟩ := hr
  cases A with
  | none =>
    rcases hr with ⟨rfl, hc⟩ | ⟨_, _, h, _⟩
    · obtain rfl := hc rfl
      have : news = [] := List.eq_nil_of_length_eq_zero (by simpa using hl)
      subst this
      refine wpList_append_own_none hgd s x t ho base e i size ht hi v n xs hs hown hx (h v w (by simpa using hown) ⟨rfl, rfl, rfl, Nat.le_refl _, fun k _ _ => rfl⟩ id)
    · cases h
  | some ad =>
    refine wpList_append_own _ hgd s x t ho base e i z size bytes ht hi hz hsize hby hzs hsz v n xs hs hown ad m cap news hx hl ?_ h1 h63 hbytes hbase (fun v' w' h1 h2 h3 => h v' w' h1 h2 fun hn he => hn (h3.1 he).1)
    intro j u hu
    rcases hr with ⟨rfl, _⟩ | ⟨b, off, h, hc⟩
    · have : news = [] := List.eq_nil_of_length_eq_zero (by simpa using hl)
      subst this
      simp at hu
    · cases h
      rw [add_none]
      exact hc j u hu
theorem Below.of_grown {B : Nat} {w0 w w' : World} (h : Below B w0 w) {base : Nat} {e : TypeId} {size n : Nat} {v : Value} {xs : List Value} (hown : w.ownsRow base e size v n xs) (hg : w.grownBy w' v.ownBlock) (h1 : B ≤ w.heap.size) (h2 : B ≤ base) : Below B w0 w' :=
  h.grown hg h1 fun k hk => Nat.le_trans h2 (hown.lt k hk).1
theorem IsRow.toRw {w : World} {v : Value} {k : IntKind} {xs : List Int} (h : IsRow w v k xs) (hnil : ∀ c, v = .slice none 0 c → c = 0) : Rw w v 1 xs.length (ints k xs) := by
  obtain ⟨A, cap, rfl, h⟩ := h
  refine ⟨by simp [ints], A, cap, rfl, ?_⟩
  rcases h with rfl | ⟨b, off, rfl, hc⟩
  · exact .inl ⟨rfl, fun h => hnil cap (by rw [h]; rfl)⟩
  · refine .inr ⟨b, off, rfl, fun j u hu => ?_⟩
    simp only [ints, List.getElem?_map, Option.map_eq_some_iff] at hu
    obtain ⟨x, hx, rfl⟩ := hu
    have hj : j < xs.length := (List.getElem?_eq_some_iff.1 hx).1
    rw [hc j hj, List.getD_eq_getElem?_getD, hx]
    rfl
theorem Rw.pre {w : World} {A : Option Addr} {size n cap m : Nat} {xs : List Value} (h : Rw w (.slice A n cap) size n xs) (hm : m ≤ n) : Rw w (.slice A m cap) size m (xs.take (m * size)) := by
  obtain ⟨hl, A', cap', he, h⟩ := h
  injection he with h1 h2 h3
  subst h1 h3
  have hmul : m * size ≤ n * size := Nat.mul_le_mul_right _ hm
  refine ⟨by rw [List.length_take, hl]; omega, A, cap, rfl, ?_⟩
  rcases h with ⟨rfl, h⟩ | ⟨b, off, rfl, hc⟩
  · obtain rfl : m = 0 := by omega
    exact .inl ⟨rfl, h⟩
  · refine .inr ⟨b, off, rfl, fun j u hu => hc j u ?_⟩
    rw [List.getElem?_take] at hu
    split at hu
    · exact hu
    · cases hu
theorem Rw.suf {w : World} {b off size n cap m : Nat} {xs : List Value} (h : Rw w (.slice (some ⟨b, off, none⟩) n cap) size n xs) (hm : m ≤ n) (c : Nat) : Rw w (.slice (some ⟨b, off + m * size, none⟩) (n - m) c) size (n - m) (xs.drop (m * size)) := by
  obtain ⟨hl, A', cap', he, h⟩ := h
  injection he with h1 h2 h3
  subst h1 h3
  refine ⟨by rw [List.length_drop, hl, Nat.sub_mul], _, c, rfl, ?_⟩
  rcases h with ⟨rfl, h⟩ | ⟨b', off', he', hc⟩
  · exact .inl ⟨by omega, fun h => by cases h⟩
  · cases he'
    refine .inr ⟨b, _, rfl, fun j u hu => ?_⟩
    rw [Nat.add_assoc]
    refine hc _ u ?_
    rw [List.getElem?_drop] at hu
    exact hu
theorem Rw.form {w : World} {v : Value} {base : Nat} {e : TypeId} {size n : Nat} {xs : List Value} (h : w.ownsRow base e size v n xs) : v = .slice none 0 0 ∧ n = 0 ∨ ∃ g cap, v = .slice (some ⟨g, 0, none⟩) n cap ∧ n ≤ cap := by
  rcases h.2 with h | ⟨g, cap, cur, rfl, hg, hh, h3, _⟩
  · exact .inl h
  · exact .inr ⟨g, cap, rfl, h3⟩
theorem Rw.form_ne {w : World} {v : Value} {base : Nat} {e : TypeId} {size n : Nat} {xs : List Value} (h : w.ownsRow base e size v n xs) (hv : v ≠ .slice none 0 0) : ∃ g cap, v = .slice (some ⟨g, 0, none⟩) n cap ∧ n ≤ cap :=
  (Rw.form h).resolve_left fun h => hv h.1
theorem IsRow.of_rw {w : World} {v : Value} {k : IntKind} {xs : List Int} (h : Rw w v 1 xs.length (ints k xs)) : IsRow w v k xs := by
  obtain ⟨_, A, cap, rfl, h⟩ := h
  refine ⟨A, cap, rfl, ?_⟩
  rcases h with ⟨h, _⟩ | ⟨b, off, rfl, hc⟩
  · exact .inl (List.eq_nil_of_length_eq_zero h)
  · refine .inr ⟨b, off, rfl, fun j hj => hc j _ ?_⟩
    simp [ints, List.getD, hj]
theorem ints_one (k : IntKind) (l : List Int) : ∀ u ∈ ints k l, u.oneCell' = true := by
  intro u hu
  simp only [ints, List.mem_map] at hu
  obtain ⟨x, _, rfl⟩ := hu
  rfl
theorem ints_append (k : IntKind) (l m : List Int) : ints k l ++ ints k m = ints k (l ++ m) := by simp [ints]
end L
end Go.Proofs.Ytogfnhhgbmnbpaa
/- A block of one cell that a call may write; all else that was there stays. -/
set_option linter.unusedVariables false
namespace Go.Proofs.Ytogfnhhgbmnbpaa
open Go.RowKit L
/-- A block of one cell that the call may write holds u; all else that was there stays. -/
def Held (W : World) (b : Nat) (t : TypeId) (u : Value) (w : World) : Prop := w.heap[b]? = some (.cells #[u] t (0, 0)) ∧ W.grownBy w (some b)
theorem Held.of {W w : World} {b : Nat} {t : TypeId} {u : Value} (hc : W.heap[b]? = some (.cells #[u] t (0, 0))) (hb : Below W.heap.size W w) : Held W b t u w :=
  ⟨by rw [hb.block _ (lt_of_block hc)]; exact hc, hb.os, hb.tape, hb.output, hb.size, fun k hk _ => hb.block k hk⟩
theorem Held.set {W w : World} {b : Nat} {t : TypeId} {u : Value} (h : Held W b t u w) (v : Value) : Held W b t v (w.setCell ⟨b, 0, none⟩ v) :=
  ⟨one_setCell h.1, h.2.os, h.2.tape, h.2.output, by have := h.2.size; simpa using this, fun k hk hne => by
    rw [Below.heap_setCell _ _ _ _ (fun e => hne (by rw [e]))]; exact h.2.block k hk hne⟩
theorem Held.drew {W w : World} {b : Nat} {t : TypeId} {u : Value} (h : Held W b t u w) (n : Nat) : Held W b t u (w.drewN n) := ⟨h.1, h.2.os, h.2.tape, h.2.output, h.2.size, h.2.block⟩
theorem Held.below {B : Nat} {W w : World} {b : Nat} {t : TypeId} {u : Value} (h : Held W b t u w) (hb : B ≤ b) (hB : B ≤ W.heap.size) : Below B W w :=
  ⟨h.2.os, h.2.tape, h.2.output, h.2.size, fun k hk => h.2.block k (Nat.lt_of_lt_of_le hk hB) (by intro e; cases e; omega)⟩
end Go.Proofs.Ytogfnhhgbmnbpaa
