/- The contracts of scan. -/
import Derived.Test.YtkkioajmfkcloaaDoorMSp
import Derived.Test.YtkkioajmfkcloaaDoorMLb
import Derived.Test.YtkkioajmfkcloaaDoorMGn
import Derived.Test.YtkkioajmfkcloaaDoorMWa
import Derived.WalkLawsBesides
/- The contracts of a reader's take and number: any bytes. -/
set_option linter.unusedVariables false
namespace Go.Proofs.YtkkioajmfkcloaaDoor
open Go.RowKit Go.PlainAid Gl L
namespace Vt
/-- A panic of the program's own, with such a number. -/
def PanE (k : Int) : Ending := .panicked [{ v := .iface 28 (.int .i64 k), recovered := false }]
theorem one_alloc {w : World} {b : Nat} {o : Obj} (h : w.heap[b]? = some o) (x : Obj) : (w.alloc x).heap[b]? = some o := by
  rw [Below.heap_alloc _ _ _ (lt_of_block h)]; exact h
end Vt
open Vt
theorem Held.trans {W w w' : World} {b : Nat} {t : TypeId} {u v : Value} (h : Held W b t u w) (h' : Held w b t v w') : Held W b t v w' :=
  ⟨h'.1, h'.2.os.trans h.2.os, h'.2.tape.trans h.2.tape, h'.2.output.trans h.2.output, Nat.le_trans h.2.size h'.2.size, fun k hk hne => by
    rw [h'.2.block k (Nat.lt_of_lt_of_le hk h.2.size) hne, h.2.block k hk hne]⟩
theorem Held.alloc {W w : World} {b : Nat} {t : TypeId} {u : Value} (h : Held W b t u w) (x : Obj) : Held W b t u (w.alloc x) :=
  h.trans (Held.of h.1 ((Below.refl _ _).alloc (Nat.le_refl _) x))
theorem Held.refl {W : World} {b : Nat} {t : TypeId} {u : Value} (h : W.heap[b]? = some (.cells #[u] t (0, 0))) : Held W b t u W := Held.of h (Below.refl _ _)
/-- What a reader's method does, as a plain reader tells: it hands a value back, or it gives up. -/
def Rds {α : Type} (val : α → Value) (R : Except Int (α × ByteArray)) (W : World) (b : Nat) (e : Ending) (w' : World) : Prop :=
  match R with
  | .ok (v, t) => e = .returned (val v) ∧ Held W b 83 (.string t) w'
  | .error k => e = PanE k ∧ ∃ t, Held W b 83 (.string t) w'
def vB (x : Int) : Value := .int .u8 x
theorem take_any (b : Nat) (s : ByteArray) (W : World) (hs : s.size ≤ maxLen) (hc : W.heap[b]? = some (.cells #[.string s] 83 (0, 0))) :
    Calls Tryd.prog 75 #[.pointer (some ⟨b, 0, none⟩)] W fun e w' => Rds vB (tkP s) W b e w' := by
  unfold maxLen at hs
  have c1 := cell_of_one hc
  have c2 := free_of_one hc
  have H := Lib.hid (Held.refl hc)
  have hb := get_bt s
  clear hc
  by_cases h0 : s.size = 0
  · have e := Lib.hid (tk_nil s h0)
    obtain rfl := of_size_zero s h0
    clear h0
    go_enter Tryd.func75, Tryd.ntmps75
    go_wp2
    exact ⟨rfl, by rw [e.out]; exact ⟨rfl, _, H.out⟩⟩
  · have e := Lib.hid (tk_ne s h0)
    have hz : 0 < s.size := by omega
    have hn := ne_empty s hz
    clear h0
    go_enter Tryd.func75, Tryd.ntmps75
    go_wp2
    go_ret
    rw [e.out]
    exact ⟨rfl, H.out.set _⟩
theorem take_end (b : Nat) (s : ByteArray) (W : World) (h0 : s.size = 0) (hs : s.size ≤ maxLen) (hc : W.heap[b]? = some (.cells #[.string s] 83 (0, 0))) :
    Calls Tryd.prog 75 #[.pointer (some ⟨b, 0, none⟩)] W fun e w' => e = PanE 3 ∧ ∃ t, Held W b 83 (.string t) w' := by
  refine (take_any b s W hs hc).mono fun e w' h => ?_
  rw [tk_nil s h0] at h
  exact h
theorem take_ok (b : Nat) (s : ByteArray) (W : World) (h0 : s.size ≠ 0) (hs : s.size ≤ maxLen) (hc : W.heap[b]? = some (.cells #[.string s] 83 (0, 0))) :
    Calls Tryd.prog 75 #[.pointer (some ⟨b, 0, none⟩)] W fun e w' => e = .returned (.int .u8 (bt s 0)) ∧ Held W b 83 (.string (suf s 1)) w' := by
  refine (take_any b s W hs hc).mono fun e w' h => ?_
  rw [tk_ne s h0] at h
  exact h
def vQ (q : Int × Int) : Value := .tuple #[.int .i64 q.1, .int .u8 q.2]
namespace Vt
theorem suf_le (s : ByteArray) (k : Nat) (h : s.size ≤ maxLen) : (suf s k).size ≤ maxLen := by rw [suf_size]; omega
/-- A round of a number's reading. -/
theorem lp_end (k : Nat) (n : Int) (t : ByteArray) (h : t.size = 0) : lp (k + 1) n t = .error 3 := by rw [lp_at, bnd_no (tk_nil t h)]
theorem lp_out (k : Nat) (n : Int) (t : ByteArray) (h : t.size ≠ 0) (hb : bt t 0 < 48 ∨ 57 < bt t 0) : lp (k + 1) n t = .ok ((n, bt t 0), suf t 1) := by rw [lp_at, bnd_ok (tk_ne t h), if_pos hb]; rfl
theorem lp_bad (k : Nat) (n : Int) (t : ByteArray) (h : t.size ≠ 0) (hb : ¬ (bt t 0 < 48 ∨ 57 < bt t 0)) (h8 : 80 < 10 * n + (bt t 0 - 48)) : lp (k + 1) n t = .error 2 := by rw [lp_at, bnd_ok (tk_ne t h), if_neg hb, if_pos h8]; rfl
theorem lp_go (k : Nat) (n : Int) (t : ByteArray) (h : t.size ≠ 0) (hb : ¬ (bt t 0 < 48 ∨ 57 < bt t 0)) (h8 : ¬ 80 < 10 * n + (bt t 0 - 48)) : lp (k + 1) n t = lp k (10 * n + (bt t 0 - 48)) (suf t 1) := by rw [lp_at, bnd_ok (tk_ne t h), if_neg hb, if_neg h8]
end Vt
set_option maxHeartbeats 2000000 in
theorem number_any (b : Nat) (f : Int) (s : ByteArray) (W : World) (hf : 0 ≤ f ∧ f ≤ 255) (hs : s.size ≤ maxLen) (hc : W.heap[b]? = some (.cells #[.string s] 83 (0, 0))) :
    Calls Tryd.prog 86 #[.pointer (some ⟨b, 0, none⟩), .int .u8 f] W fun e w' => Rds vQ (numP f s) W b e w' := by
  obtain ⟨f0, f1⟩ := hf
  have H := Lib.hid (Held.refl hc)
  have HT := Lib.hid (fun t wz ht hcz => take_any b t wz ht hcz)
  by_cases hd : f < 49 ∨ 57 < f
  · have e := Lib.hid (show numP f s = .error 2 by unfold numP; rw [if_pos hd]; rfl)
    clear hc
    rcases hd with hd | hd
    · go_enter Tryd.func86, Tryd.ntmps86
      go_wp2
      exact ⟨rfl, by rw [e.out]; exact ⟨rfl, _, H.out⟩⟩
    · have h1 : ¬ f < 49 := by omega
      go_enter Tryd.func86, Tryd.ntmps86
      go_wp2
      exact ⟨rfl, by rw [e.out]; exact ⟨rfl, _, H.out⟩⟩
  · have e := Lib.hid (show numP f s = lp 2 (f - 48) s by unfold numP; rw [if_neg hd])
    have h1 : ¬ f < 49 := by omega
    have h2 : ¬ 57 < f := by omega
    clear hd hc
    have HS := Lib.hid hs
    clear hs
    go_enter Tryd.func86, Tryd.ntmps86
    go_wp2
    go_loopw [6] (fun i wr => ∃ (k : Nat) (n : Int) (t : ByteArray), (k = 2 ∧ 1 ≤ n ∨ k = 1 ∧ 10 ≤ n) ∧ n ≤ 80 ∧ t.size ≤ maxLen ∧ i = .int .i64 n ∧ Hid (numP f s = lp k n t) ∧ Held W b 83 (.string t) wr) (fun i _ => 80 - (intOf i).toNat)
    case atStart => exact ⟨2, f - 48, s, by omega, by omega, HS.out, rfl, e, H.out⟩
    case round =>
      obtain ⟨k, n, t, hk, hn, ht, rfl, hR, hw⟩ := hrel
      have ht1 := suf_le t 1 ht
      have b0 := bt_nonneg t 0
      have b1 := bt_le t 0
      obtain ⟨j, rfl⟩ : ∃ j, k = j + 1 := ⟨k - 1, by omega⟩
      have hn1 : 1 ≤ n := by omega
      by_cases h0 : t.size = 0
      · have e2 := Lib.hid (lp_end j n t h0)
        have HC := Lib.hid (take_end b t wr h0 ht hw.1)
        clear h0
        go_wp2_with fail
        refine HC.out.mono ?_
        rintro e w1 ⟨rfl, u, hw1⟩
        unfold PanE
        go_wp2
        exact ⟨rfl, by rw [hR.out, e2.out]; exact ⟨rfl, _, hw.trans hw1⟩⟩
      · have HC := Lib.hid (take_ok b t wr h0 ht hw.1)
        by_cases hb : bt t 0 < 48 ∨ 57 < bt t 0
        · have e2 := Lib.hid (lp_out j n t h0 hb)
          rcases hb with hb | hb
          · clear h0
            go_wp2_with fail
            refine HC.out.mono ?_
            rintro e w1 ⟨rfl, hw1⟩
            go_wp2
            go_ret2
            rw [hR.out, e2.out]
            exact ⟨rfl, hw.trans hw1⟩
          · have hb2 : ¬ bt t 0 < 48 := by omega
            clear h0
            go_wp2_with fail
            refine HC.out.mono ?_
            rintro e w1 ⟨rfl, hw1⟩
            go_wp2
            go_ret2
            rw [hR.out, e2.out]
            exact ⟨rfl, hw.trans hw1⟩
        · have hb2 : ¬ bt t 0 < 48 := by omega
          have hb3 : ¬ 57 < bt t 0 := by omega
          by_cases h8 : 80 < 10 * n + (bt t 0 - 48)
          · have e2 := Lib.hid (lp_bad j n t h0 hb h8)
            clear h0 hb
            go_wp2_with fail
            refine HC.out.mono ?_
            rintro e w1 ⟨rfl, hw1⟩
            go_wp2
            exact ⟨rfl, by rw [hR.out, e2.out]; exact ⟨rfl, _, hw.trans hw1⟩⟩
          · have e2 := Lib.hid (lp_go j n t h0 hb h8)
            clear h0 hb
            go_wp2_with fail
            refine HC.out.mono ?_
            rintro e w1 ⟨rfl, hw1⟩
            go_wp2
            go_roundw
            case rel => exact ⟨j, 10 * n + (bt t 0 - 48), suf t 1, by omega, by omega, ht1, rfl, Lib.hid (hR.out.trans e2.out), hw.trans hw1⟩
            case measure => simp [intOf]; omega
end Go.Proofs.YtkkioajmfkcloaaDoor
/- The contracts of a reader's place, numbered and sequence. -/
set_option linter.unusedVariables false
namespace Go.Proofs.YtkkioajmfkcloaaDoor
open Go.RowKit Go.PlainAid Gl L Vt
def vC (c : Cmd) : Value := .agg #[.int .i64 c.1, .int .i64 c.2.1, .int .i64 c.2.2.1, .int .i32 c.2.2.2]
theorem Held.new {W w : World} {b : Nat} {t : TypeId} {u : Value} (h : Held W b t u w) {p : Addr} (hp : W.heap.size ≤ p.block) (hb : b < W.heap.size) (v : Value) : Held W b t u (w.setCell p v) :=
  ⟨by rw [Below.heap_setCell _ _ _ _ (by omega)]; exact h.1, h.2.os, h.2.tape, h.2.output, by have := h.2.size; simpa using this, fun k hk hne => by
    rw [Below.heap_setCell _ _ _ _ (by omega)]; exact h.2.block k hk hne⟩
theorem Held.cell {W w : World} {b : Nat} {t : TypeId} {u : Value} (h : Held W b t u w) (c o : Nat) (hc : c < W.heap.size) (hn : ¬ c = b) : w.cell? ⟨c, o, none⟩ = W.cell? ⟨c, o, none⟩ :=
  World.cell?_of_block (a := ⟨c, o, none⟩) (h.2.block c hc (by intro e; cases e; exact hn rfl))
theorem Held.frozen {W w : World} {b : Nat} {t : TypeId} {u : Value} (h : Held W b t u w) (c o : Nat) (hc : c < W.heap.size) (hn : ¬ c = b) : w.frozen? ⟨c, o, none⟩ = W.frozen? ⟨c, o, none⟩ :=
  World.frozen?_of_block (a := ⟨c, o, none⟩) (h.2.block c hc (by intro e; cases e; exact hn rfl))
theorem Held.pull {W w : World} {b : Nat} {t : TypeId} {u v : Value} {x : Obj} (h : Held (W.alloc x) b t u w) (hc : W.heap[b]? = some (.cells #[v] t (0, 0))) : Held W b t u w :=
  ((Held.refl hc).alloc x).trans h
theorem Held.new4 {W w : World} {b : Nat} {t : TypeId} {u : Value} (h : Held W b t u w) (hb : b < W.heap.size) (v0 v1 v2 v3 : Value) : Held W b t u ((((w.setCell ⟨W.heap.size, 0, none⟩ v0).setCell ⟨W.heap.size, 1, none⟩ v1).setCell ⟨W.heap.size, 2, none⟩ v2).setCell ⟨W.heap.size, 3, none⟩ v3) :=
  (((h.new (Nat.le_refl _) hb _).new (Nat.le_refl _) hb _).new (Nat.le_refl _) hb _).new (Nat.le_refl _) hb _
theorem smove_any (l n : Int) (W : World) (hl : 65 ≤ l ∧ l ≤ 68) : Calls Tryd.prog 81 #[.int .u8 l, .int .i64 n] W fun e w' => e = .returned (vC (mvC l n)) ∧ Below W.heap.size W w' := by
  obtain ⟨l0, l1⟩ := hl
  go_enter Tryd.func81, Tryd.ntmps81
  go_wp2
  refine bodyPost_ret (v := vC (mvC l n)) (by unfold vC mvC; simp [results, Tryd.results81, go_sem]) rfl ⟨rfl, ?_⟩
  exact (Below.refl _ _).alloc (Nat.le_refl _) _
set_option maxHeartbeats 2000000 in
theorem splace_any (b : Nat) (row : Int) (s : ByteArray) (W : World) (hr : 1 ≤ row ∧ row ≤ 80) (hs : s.size ≤ maxLen) (hc : W.heap[b]? = some (.cells #[.string s] 83 (0, 0))) :
    Calls Tryd.prog 87 #[.pointer (some ⟨b, 0, none⟩), .int .i64 row] W fun e w' => Rds vC (plP row s) W b e w' := by
  obtain ⟨r0, r1⟩ := hr
  have hne : ¬ W.heap.size = b := by have := lt_of_block hc; omega
  have hlt := lt_of_block hc
  have HA := Lib.hid (fun x => one_alloc hc x)
  have H := Lib.hid (Held.refl hc)
  have HC := Lib.hid hc
  by_cases h24 : 24 < row
  · have e := Lib.hid (show plP row s = .error 2 by unfold plP; rw [if_pos h24]; rfl)
    clear hc
    go_enter Tryd.func87, Tryd.ntmps87
    go_wp2
    exact ⟨rfl, by rw [e.out]; exact ⟨rfl, _, H.out.alloc _⟩⟩
  have e := Lib.hid (show plP row s = bnd tkP (fun b => bnd (numP b) fun q => if q.2 = 72 then yes (2, row - 1, q.1 - 1, 0) else no 2) s by unfold plP; rw [if_neg h24])
  by_cases h0 : s.size = 0
  · have e2 := Lib.hid (e.out.trans (bnd_no (tk_nil s h0)))
    have HT := Lib.hid (fun wz hcz => take_end b s wz h0 hs hcz)
    clear hc h0
    go_enter Tryd.func87, Tryd.ntmps87
    go_wp2_with fail
    refine (HT.out _ (HA.out _)).mono ?_
    rintro e w1 ⟨rfl, u, hw1⟩
    unfold PanE
    go_wp2
    exact ⟨rfl, by rw [e2.out]; exact ⟨rfl, _, hw1.pull HC.out⟩⟩
  have e2 := Lib.hid (e.out.trans (bnd_ok (tk_ne s h0)))
  have HT := Lib.hid (fun wz hcz => take_ok b s wz h0 hs hcz)
  have b0 := bt_nonneg s 0
  have b1 := bt_le s 0
  have HN := Lib.hid (fun wz hcz => number_any b (bt s 0) (suf s 1) wz ⟨b0, b1⟩ (suf_le s 1 hs) hcz)
  clear e hc h0
  rcases hN : numP (bt s 0) (suf s 1) with k | ⟨⟨n, c⟩, t⟩
  · have e3 := Lib.hid (e2.out.trans (bnd_no hN))
    rw [hN] at HN
    clear hN e2
    go_enter Tryd.func87, Tryd.ntmps87
    go_wp2_with fail
    refine (HT.out _ (HA.out _)).mono ?_
    rintro e w1 ⟨rfl, hw1⟩
    go_wp2_with fail
    refine (HN.out _ hw1.1).mono ?_
    rintro e w2 ⟨rfl, u, hw2⟩
    unfold PanE
    go_wp2
    exact ⟨rfl, by rw [e3.out]; exact ⟨rfl, _, (hw1.trans hw2).pull HC.out⟩⟩
  · have e3 := Lib.hid (e2.out.trans (bnd_ok hN))
    have hbd : 1 ≤ n ∧ n ≤ 80 ∧ 0 ≤ c ∧ c ≤ 255 := by
      rcases num_inv _ _ _ hN with ⟨n', c', ds, t', q, _, _, z⟩ | ⟨q, _⟩ | q
      · injection q with q; injection q with q1 q2; injection q1 with q1 q3
        subst q1 q3; exact ⟨z.1, z.2.1, z.2.2.1, z.2.2.2.1⟩
      · cases q
      · cases q
    obtain ⟨n0, n1, c0, c1⟩ := hbd
    rw [hN] at HN
    clear hN e2
    by_cases hH : c = 72
    · subst hH
      have e4 := Lib.hid (e3.out.trans (by dsimp only; rw [if_pos rfl]; try rfl : _ = Except.ok (((2, row - 1, n - 1, 0) : Cmd), t)))
      clear e3
      go_enter Tryd.func87, Tryd.ntmps87
      go_wp2_with fail
      refine (HT.out _ (HA.out _)).mono ?_
      rintro e w1 ⟨rfl, hw1⟩
      go_wp2_with fail
      refine (HN.out _ hw1.1).mono ?_
      rintro e w2 ⟨rfl, hw2⟩
      unfold vQ
      have hx := hw1.trans hw2
      have hq := hx.cell
      have hf := hx.frozen
      have hz := hx.2.size
      go_wp2
      refine bodyPost_ret (v := vC (2, row - 1, n - 1, 0)) (by unfold vC; simp [results, Tryd.results87, go_sem, hq, hne]) rfl ?_
      rw [e4.out]
      exact ⟨rfl, (hx.pull HC.out).new4 hlt _ _ _ _⟩
    · have bk : (c == 72) = false := by simpa using hH
      have bk2 : (c != 72) = true := by rw [bne, bk]; rfl
      have e4 := Lib.hid (show plP row s = .error 2 by rw [e3.out]; simp [hH, no])
      clear e3 hH
      go_enter Tryd.func87, Tryd.ntmps87
      go_wp2_with fail
      refine (HT.out _ (HA.out _)).mono ?_
      rintro e w1 ⟨rfl, hw1⟩
      go_wp2_with fail
      refine (HN.out _ hw1.1).mono ?_
      rintro e w2 ⟨rfl, hw2⟩
      unfold vQ
      go_wp2
      exact ⟨rfl, by rw [e4.out]; exact ⟨rfl, _, (hw1.trans hw2).pull HC.out⟩⟩
/-- A reader's method that hands a command back as another one tells it: its own block holds it then. -/
theorem kind_ne {x y : Int} (h : x ≠ y) : (x == y) = false := by simpa using h
set_option maxHeartbeats 4000000 in
theorem numbered_any (b : Nat) (f : Int) (s : ByteArray) (W : World) (hf : 0 ≤ f ∧ f ≤ 255) (hs : s.size ≤ maxLen) (hc : W.heap[b]? = some (.cells #[.string s] 83 (0, 0))) :
    Calls Tryd.prog 82 #[.pointer (some ⟨b, 0, none⟩), .int .u8 f] W fun e w' => Rds vC (nbP f s) W b e w' := by
  have hne : ¬ W.heap.size = b := by have := lt_of_block hc; omega
  have hlt := lt_of_block hc
  have HA := Lib.hid (fun x => one_alloc hc x)
  have HC := Lib.hid hc
  have HN := Lib.hid (fun wz hcz => number_any b f s wz hf hs hcz)
  have HS := Lib.hid hs
  clear hc hs
  rcases hN : numP f s with k | ⟨⟨n, c⟩, t⟩
  · have e3 := Lib.hid (show nbP f s = .error k by unfold nbP; exact bnd_no hN)
    rw [hN] at HN
    clear hN
    go_enter Tryd.func82, Tryd.ntmps82
    go_wp2_with fail
    refine (HN.out _ (HA.out _)).mono ?_
    rintro e w2 ⟨rfl, u, hw2⟩
    unfold PanE
    go_wp2
    exact ⟨rfl, by rw [e3.out]; exact ⟨rfl, _, hw2.pull HC.out⟩⟩
  · have e3 : nbP f s = (if 65 ≤ c ∧ c ≤ 68 then (if n = 1 then no 2 else yes (mvC c n)) else if c = 59 then plP n else no 2) t := by unfold nbP; exact bnd_ok hN
    have hbd : 1 ≤ n ∧ n ≤ 80 ∧ 0 ≤ c ∧ c ≤ 255 ∧ t.size ≤ maxLen := by
      rcases num_inv _ _ _ hN with ⟨n', c', ds, t', q, _, q4, z⟩ | ⟨q, _⟩ | q
      · injection q with q; injection q with q1 q2; injection q1 with q1 q3
        subst q1 q2 q3
        have := congrArg ByteArray.size q4
        rw [size_app, size_app] at this
        have := HS.out
        exact ⟨z.1, z.2.1, z.2.2.1, z.2.2.2.1, by omega⟩
      · cases q
      · cases q
    obtain ⟨n0, n1, c0, c1, ht⟩ := hbd
    have HP := Lib.hid (fun wz hcz => splace_any b n t wz ⟨n0, n1⟩ ht hcz)
    rw [hN] at HN
    clear hN
    have hmv : 65 ≤ c → c ≤ 68 → Calls Tryd.prog 82 #[.pointer (some ⟨b, 0, none⟩), .int .u8 f] W fun e w' => Rds vC (nbP f s) W b e w' := fun k0 k1 => by
      rw [if_pos ⟨k0, k1⟩] at e3
      by_cases h1 : n = 1
      · subst h1
        have e4 := Lib.hid (show nbP f s = .error 2 by rw [e3, if_pos rfl]; try rfl)
        clear e3
        rcases (show c = 65 ∨ c = 66 ∨ c = 67 ∨ c = 68 by omega) with rfl | rfl | rfl | rfl
        all_goals
          go_enter Tryd.func82, Tryd.ntmps82
          go_wp2_with fail
          refine (HN.out _ (HA.out _)).mono ?_
          rintro e w2 ⟨rfl, hw2⟩
          unfold vQ
          go_wp2
          exact ⟨rfl, by rw [e4.out]; exact ⟨rfl, _, hw2.pull HC.out⟩⟩
      · have bk := kind_ne h1
        obtain ⟨m, hm⟩ : ∃ m, m = mvC c n := ⟨_, rfl⟩
        have e4 := Lib.hid (show nbP f s = .ok (m, t) by rw [e3, if_neg h1, hm]; try rfl)
        have HM := Lib.hid hm
        clear e3 h1 hm
        rcases (show c = 65 ∨ c = 66 ∨ c = 67 ∨ c = 68 by omega) with rfl | rfl | rfl | rfl
        all_goals
          go_enter Tryd.func82, Tryd.ntmps82
          go_wp2_with fail
          refine (HN.out _ (HA.out _)).mono ?_
          rintro e w2 ⟨rfl, hw2⟩
          unfold vQ
          go_wp2_with fail
          refine (smove_any _ _ _ (by omega)).mono ?_
          rintro e w3 ⟨rfl, hw3⟩
          have hx := hw2.trans (Held.of hw2.1 hw3)
          have hq := hx.cell
          have hf := hx.frozen
          have hz := hx.2.size
          unfold vC mvC
          go_wp2
          refine bodyPost_ret (v := vC m) (by rw [HM.out]; unfold vC mvC; simp [results, Tryd.results82, go_sem, hq, hne]) rfl ?_
          rw [e4.out]
          exact ⟨rfl, (hx.pull HC.out).new4 hlt _ _ _ _⟩
    have b65 : 65 ≤ c ∧ c ≤ 68 ∨ c = 59 ∨ ¬ (65 ≤ c ∧ c ≤ 68) ∧ c ≠ 59 := by omega
    rcases b65 with hk | hk | ⟨hk, hk2⟩
    · exact hmv hk.1 hk.2
    · subst hk
      have e4 := Lib.hid (show nbP f s = plP n t by rw [e3, if_neg (by omega), if_pos rfl])
      clear e3 hmv
      rcases hR : plP n t with k | ⟨d, u⟩
      · rw [hR] at HP e4
        clear hR
        go_enter Tryd.func82, Tryd.ntmps82
        go_wp2_with fail
        refine (HN.out _ (HA.out _)).mono ?_
        rintro e w2 ⟨rfl, hw2⟩
        unfold vQ
        go_wp2_with fail
        refine (HP.out _ hw2.1).mono ?_
        rintro e w3 ⟨rfl, u, hw3⟩
        unfold PanE
        go_wp2
        exact ⟨rfl, by rw [e4.out]; exact ⟨rfl, _, (hw2.trans hw3).pull HC.out⟩⟩
      · rw [hR] at HP e4
        clear hR
        go_enter Tryd.func82, Tryd.ntmps82
        go_wp2_with fail
        refine (HN.out _ (HA.out _)).mono ?_
        rintro e w2 ⟨rfl, hw2⟩
        unfold vQ
        go_wp2_with fail
        refine (HP.out _ hw2.1).mono ?_
        rintro e w3 ⟨rfl, hw3⟩
        have hx := hw2.trans hw3
        have hq := hx.cell
        have hf := hx.frozen
        have hz := hx.2.size
        unfold vC
        go_wp2
        refine bodyPost_ret (v := vC d) (by unfold vC; simp [results, Tryd.results82, go_sem, hq, hne]) rfl ?_
        rw [e4.out]
        exact ⟨rfl, (hx.pull HC.out).new4 hlt _ _ _ _⟩
    · have e4 := Lib.hid (show nbP f s = .error 2 by rw [e3, if_neg hk, if_neg hk2]; try rfl)
      have q1 := kind_ne (show c ≠ 65 by omega)
      have q2 := kind_ne (show c ≠ 66 by omega)
      have q3 := kind_ne (show c ≠ 67 by omega)
      have q4 := kind_ne (show c ≠ 68 by omega)
      have q5 := kind_ne hk2
      clear e3 hmv hk hk2
      go_enter Tryd.func82, Tryd.ntmps82
      go_wp2_with fail
      refine (HN.out _ (HA.out _)).mono ?_
      rintro e w2 ⟨rfl, hw2⟩
      unfold vQ
      go_wp2
      exact ⟨rfl, by rw [e4.out]; exact ⟨rfl, _, hw2.pull HC.out⟩⟩
theorem sq_at (s : ByteArray) (h : s.size ≠ 0) : sqP s = (if bt s 0 = 91 then bnd tkP (fun b => if b = 75 then yes (7, 0, 0, 0) else if b = 74 then yes (8, 0, 0, 0) else if 65 ≤ b ∧ b ≤ 68 then yes (mvC b 1) else nbP b) else no 2) (suf s 1) := bnd_ok (tk_ne s h)
set_option maxHeartbeats 4000000 in
theorem sequence_any (b : Nat) (s : ByteArray) (W : World) (hs : s.size ≤ maxLen) (hc : W.heap[b]? = some (.cells #[.string s] 83 (0, 0))) :
    Calls Tryd.prog 76 #[.pointer (some ⟨b, 0, none⟩)] W fun e w' => Rds vC (sqP s) W b e w' := by
  have hne : ¬ W.heap.size = b := by have := lt_of_block hc; omega
  have hlt := lt_of_block hc
  have HA := Lib.hid (fun x => one_alloc hc x)
  have HC := Lib.hid hc
  by_cases h0 : s.size = 0
  · have e2 := Lib.hid (show sqP s = .error 3 by unfold sqP; exact bnd_no (tk_nil s h0))
    have HT := Lib.hid (fun wz hcz => take_end b s wz h0 hs hcz)
    clear hc h0
    go_enter Tryd.func76, Tryd.ntmps76
    go_wp2_with fail
    refine (HT.out _ (HA.out _)).mono ?_
    rintro e w1 ⟨rfl, u, hw1⟩
    unfold PanE
    go_wp2
    exact ⟨rfl, by rw [e2.out]; exact ⟨rfl, _, hw1.pull HC.out⟩⟩
  have e2 := sq_at s h0
  have HT := Lib.hid (fun wz hcz => take_ok b s wz h0 hs hcz)
  have hs1 := suf_le s 1 hs
  clear hc h0
  generalize hx0 : bt s 0 = x at *
  clear hx0
  generalize suf s 1 = t at *
  by_cases hx : x = 91
  · subst hx
    rw [if_pos rfl] at e2
    by_cases h0 : t.size = 0
    · have e3 := Lib.hid (show sqP s = .error 3 by rw [e2]; exact bnd_no (tk_nil t h0))
      have HU := Lib.hid (fun wz hcz => take_end b t wz h0 hs1 hcz)
      clear e2 h0
      go_enter Tryd.func76, Tryd.ntmps76
      go_wp2_with fail
      refine (HT.out _ (HA.out _)).mono ?_
      rintro e w1 ⟨rfl, hw1⟩
      go_wp2_with fail
      refine (HU.out _ hw1.1).mono ?_
      rintro e w2 ⟨rfl, u, hw2⟩
      unfold PanE
      go_wp2
      exact ⟨rfl, by rw [e3.out]; exact ⟨rfl, _, (hw1.trans hw2).pull HC.out⟩⟩
    have e3 := e2.trans (bnd_ok (tk_ne t h0))
    have HU := Lib.hid (fun wz hcz => take_ok b t wz h0 hs1 hcz)
    have hs2 := suf_le t 1 hs1
    have y0 := bt_nonneg t 0
    have y1 := bt_le t 0
    clear h0 e2
    generalize hx0 : bt t 0 = y at *
    clear hx0
    generalize suf t 1 = u at *
    have HM := Lib.hid (fun wz hcz => numbered_any b y u wz ⟨y0, y1⟩ hs2 hcz)
    by_cases k0 : y = 75
    · subst k0
      have e4 := Lib.hid (show sqP s = .ok ((7, 0, 0, 0), u) by rw [e3, if_pos rfl]; try rfl)
      clear e3
      go_enter Tryd.func76, Tryd.ntmps76
      go_wp2_with fail
      refine (HT.out _ (HA.out _)).mono ?_
      rintro e w1 ⟨rfl, hw1⟩
      go_wp2_with fail
      refine (HU.out _ hw1.1).mono ?_
      rintro e w2 ⟨rfl, hw2⟩
      have hx := hw1.trans hw2
      have hq := hx.cell
      have hf := hx.frozen
      have hz := hx.2.size
      go_wp2
      refine bodyPost_ret (v := vC (7, 0, 0, 0)) (by unfold vC; simp [results, Tryd.results76, go_sem, hq, hne]) rfl ?_
      rw [e4.out]
      exact ⟨rfl, (hx.pull HC.out).new4 hlt _ _ _ _⟩
    rw [if_neg k0] at e3
    by_cases k1 : y = 74
    · subst k1
      have e4 := Lib.hid (show sqP s = .ok ((8, 0, 0, 0), u) by rw [e3, if_pos rfl]; try rfl)
      clear e3
      go_enter Tryd.func76, Tryd.ntmps76
      go_wp2_with fail
      refine (HT.out _ (HA.out _)).mono ?_
      rintro e w1 ⟨rfl, hw1⟩
      go_wp2_with fail
      refine (HU.out _ hw1.1).mono ?_
      rintro e w2 ⟨rfl, hw2⟩
      have hx := hw1.trans hw2
      have hq := hx.cell
      have hf := hx.frozen
      have hz := hx.2.size
      go_wp2
      refine bodyPost_ret (v := vC (8, 0, 0, 0)) (by unfold vC; simp [results, Tryd.results76, go_sem, hq, hne]) rfl ?_
      rw [e4.out]
      exact ⟨rfl, (hx.pull HC.out).new4 hlt _ _ _ _⟩
    rw [if_neg k1] at e3
    by_cases k2 : 65 ≤ y ∧ y ≤ 68
    · obtain ⟨m, hm⟩ : ∃ m, m = mvC y 1 := ⟨_, rfl⟩
      have e4 := Lib.hid (show sqP s = .ok (m, u) by rw [e3, if_pos k2, hm]; try rfl)
      have HV := Lib.hid hm
      clear e3 k0 k1 hm
      rcases (show y = 65 ∨ y = 66 ∨ y = 67 ∨ y = 68 by omega) with rfl | rfl | rfl | rfl
      all_goals
        clear k2 y0 y1
        go_enter Tryd.func76, Tryd.ntmps76
        go_wp2_with fail
        refine (HT.out _ (HA.out _)).mono ?_
        rintro e w1 ⟨rfl, hw1⟩
        go_wp2_with fail
        refine (HU.out _ hw1.1).mono ?_
        rintro e w2 ⟨rfl, hw2⟩
        go_wp2_with fail
        refine (smove_any _ _ _ (by omega)).mono ?_
        rintro e w3 ⟨rfl, hw3⟩
        have hx := (hw1.trans hw2).trans (Held.of hw2.1 hw3)
        have hq := hx.cell
        have hf := hx.frozen
        have hz := hx.2.size
        unfold vC mvC
        go_wp2
        refine bodyPost_ret (v := vC m) (by rw [HV.out]; unfold vC mvC; simp [results, Tryd.results76, go_sem, hq, hne]) rfl ?_
        rw [e4.out]
        exact ⟨rfl, (hx.pull HC.out).new4 hlt _ _ _ _⟩
    rw [if_neg k2] at e3
    have q1 := kind_ne k0
    have q2 := kind_ne k1
    have q3 := kind_ne (show y ≠ 65 by omega)
    have q4 := kind_ne (show y ≠ 66 by omega)
    have q5 := kind_ne (show y ≠ 67 by omega)
    have q6 := kind_ne (show y ≠ 68 by omega)
    clear k0 k1 k2
    rcases hR : nbP y u with k | ⟨d, v⟩
    · rw [hR] at HM
      have e4 := Lib.hid (e3.trans hR)
      clear hR e3
      go_enter Tryd.func76, Tryd.ntmps76
      go_wp2_with fail
      refine (HT.out _ (HA.out _)).mono ?_
      rintro e w1 ⟨rfl, hw1⟩
      go_wp2_with fail
      refine (HU.out _ hw1.1).mono ?_
      rintro e w2 ⟨rfl, hw2⟩
      go_wp2_with fail
      refine (HM.out _ hw2.1).mono ?_
      rintro e w3 ⟨rfl, u, hw3⟩
      unfold PanE
      go_wp2
      exact ⟨rfl, by rw [e4.out]; exact ⟨rfl, _, ((hw1.trans hw2).trans hw3).pull HC.out⟩⟩
    · rw [hR] at HM
      have e4 := Lib.hid (e3.trans hR)
      clear hR e3
      go_enter Tryd.func76, Tryd.ntmps76
      go_wp2_with fail
      refine (HT.out _ (HA.out _)).mono ?_
      rintro e w1 ⟨rfl, hw1⟩
      go_wp2_with fail
      refine (HU.out _ hw1.1).mono ?_
      rintro e w2 ⟨rfl, hw2⟩
      go_wp2_with fail
      refine (HM.out _ hw2.1).mono ?_
      rintro e w3 ⟨rfl, hw3⟩
      have hx := (hw1.trans hw2).trans hw3
      have hq := hx.cell
      have hf := hx.frozen
      have hz := hx.2.size
      unfold vC
      go_wp2
      refine bodyPost_ret (v := vC d) (by unfold vC; simp [results, Tryd.results76, go_sem, hq, hne]) rfl ?_
      rw [e4.out]
      exact ⟨rfl, (hx.pull HC.out).new4 hlt _ _ _ _⟩
  · rw [if_neg hx] at e2
    have e3 := Lib.hid (show sqP s = .error 2 from e2)
    have bk := kind_ne hx
    have bk2 : (x != 91) = true := by rw [bne, bk]; rfl
    clear e2 hx
    go_enter Tryd.func76, Tryd.ntmps76
    go_wp2_with fail
    refine (HT.out _ (HA.out _)).mono ?_
    rintro e w1 ⟨rfl, hw1⟩
    go_wp2
    exact ⟨rfl, by rw [e3.out]; exact ⟨rfl, _, hw1.pull HC.out⟩⟩
end Go.Proofs.YtkkioajmfkcloaaDoor
/- The contracts of a reader's text and command. Condition: the two tables of the library laid. -/
set_option linter.unusedVariables false
namespace Go.Proofs.YtkkioajmfkcloaaDoor
open Go.RowKit Go.PlainAid Gl L Vt
namespace Vt
theorem next_in (s : ByteArray) (h : s.size ≠ 0) : 0 ≤ nextR s ∧ nextR s ≤ 2147483647 ∧ nextN s ≤ s.size := by
  unfold nextR nextN
  split
  · omega
  · have := dec_i32 s 0
    have := dec_bounds s 0 (by omega)
    omega
theorem tx_err (s : ByteArray) (h : nextE s ≠ 0) : txP s = .error (nextE s) := by unfold txP; rw [if_pos h]
theorem tx_bad (s : ByteArray) (h : nextE s = 0) (hb : (nextR s = 65533 ∧ nextN s = 1) ∨ Wd.shw (nextR s) = false) : txP s = .error 2 := by unfold txP; rw [if_neg (by omega), if_pos hb]
theorem tx_ok (s : ByteArray) (h : nextE s = 0) (hb : ¬ ((nextR s = 65533 ∧ nextN s = 1) ∨ Wd.shw (nextR s) = false)) : txP s = .ok ((1, 0, 0, nextR s), suf s (nextN s)) := by unfold txP; rw [if_neg (by omega), if_neg hb]
end Vt
set_option maxHeartbeats 4000000 in
theorem stext_any (b : Nat) (s : ByteArray) (W : World) (T : Tabs W 3 4) (h0 : s.size ≠ 0) (hs : s.size ≤ maxLen) (hc : W.heap[b]? = some (.cells #[.string s] 83 (0, 0))) :
    Calls Tryd.prog 74 #[.pointer (some ⟨b, 0, none⟩)] W fun e w' => Rds vC (txP s) W b e w' := by
  have hne : ¬ W.heap.size = b := by have := lt_of_block hc; omega
  have hlt := lt_of_block hc
  have hne2 : ¬ b = W.heap.size := by omega
  have c1 := cell_of_one hc
  have HA := Lib.hid (fun x => one_alloc hc x)
  have HC := Lib.hid hc
  have HT := Lib.hid (fun x => T.below ((Below.refl _ _).alloc (Nat.le_refl _) x))
  have HN := Lib.hid (fun wz hz => next_any s wz hs hz)
  obtain ⟨r0, r1, n0⟩ := next_in s h0
  have hs' : s.size ≤ 9223372036854775807 := hs
  clear hc T hs
  by_cases he : nextE s = 0
  · by_cases hb : (nextR s = 65533 ∧ nextN s = 1) ∨ Wd.shw (nextR s) = false
    · have e2 := Lib.hid (tx_bad s he hb)
      rw [he] at HN
      clear he
      by_cases hR : nextR s = 65533 ∧ nextN s = 1
      · obtain ⟨hR, hn⟩ := hR
        rw [hR, hn] at HN
        clear hR hn hb r0 r1 n0
        go_enter Tryd.func74, Tryd.ntmps74
        go_wp2_with fail
        refine (HN.out _ (HT.out _)).mono ?_
        rintro e w1 ⟨rfl, hw1⟩
        go_wp2
        exact ⟨rfl, by rw [e2.out]; exact ⟨rfl, _, (Held.of (HA.out _) hw1).pull HC.out⟩⟩
      · have hS : Wd.shw (nextR s) = false := by
          rcases hb with hb | hb
          · exact absurd hb hR
          · exact hb
        have HS := Lib.hid (fun wz => shown_any (nextR s) wz)
        rw [hS] at HS
        have hk : (nextR s == 65533 && (nextN s : Int) == 1) = false := by
          rw [Bool.eq_false_iff]; intro h; rw [Bool.and_eq_true] at h; exact hR ⟨by simpa using h.1, by have := h.2; simp at this; omega⟩
        have HK := Lib.hid hk
        generalize nextR s = R at *
        generalize hn : nextN s = n at *
        have Hn := Lib.hid hn
        clear hb hR hS hn hk
        by_cases hq : R = 65533
        · subst hq
          have h1 : ((n : Int) == 1) = false := by have := HK.out; simpa using this
          go_enter Tryd.func74, Tryd.ntmps74
          go_wp2_with fail
          refine (HN.out _ (HT.out _)).mono ?_
          rintro e w1 ⟨rfl, hw1⟩
          go_wp2_with fail
          refine (HS.out _).mono ?_
          rintro e w2 ⟨rfl, rfl⟩
          go_wp2
          exact ⟨rfl, by rw [e2.out]; exact ⟨rfl, _, (Held.of (HA.out _) hw1).pull HC.out⟩⟩
        · have h1 := kind_ne hq
          clear hq
          go_enter Tryd.func74, Tryd.ntmps74
          go_wp2_with fail
          refine (HN.out _ (HT.out _)).mono ?_
          rintro e w1 ⟨rfl, hw1⟩
          go_wp2_with fail
          refine (HS.out _).mono ?_
          rintro e w2 ⟨rfl, rfl⟩
          go_wp2
          exact ⟨rfl, by rw [e2.out]; exact ⟨rfl, _, (Held.of (HA.out _) hw1).pull HC.out⟩⟩
    · have e2 := Lib.hid (tx_ok s he hb)
      rw [he] at HN
      clear he
      have hS : Wd.shw (nextR s) = true := by
        cases h : Wd.shw (nextR s)
        · exact absurd (.inr h) hb
        · rfl
      have HS := Lib.hid (fun wz => shown_any (nextR s) wz)
      rw [hS] at HS
      have hk : nextR s = 65533 → ((nextN s : Int) == 1) = false := fun h => kind_ne (fun h1 => hb (.inl ⟨h, by omega⟩))
      have HK := Lib.hid hk
      have HE := Lib.hid (show suf s (nextN s) = s.extract (nextN s) s.size from rfl)
      generalize nextR s = R at *
      generalize nextN s = n at *
      clear hb hS hk
      by_cases hq : R = 65533
      · subst hq
        have h1 := HK.out rfl
        go_enter Tryd.func74, Tryd.ntmps74
        go_wp2_with fail
        refine (HN.out _ (HT.out _)).mono ?_
        rintro e w1 ⟨rfl, hw1⟩
        have c2 : w1.heap[b]? = some (.cells #[.string s] 83 (0, 0)) := (Held.of (HA.out _) hw1).1
        have c3 := cell_of_one c2
        have c4 := free_of_one c2
        have HX := Lib.hid (Held.of (HA.out _) hw1)
        clear c2
        go_wp2_with fail
        refine (HS.out _).mono ?_
        rintro e w2 ⟨rfl, rfl⟩
        have hq := HX.out.cell
        have hf := HX.out.frozen
        have hz := HX.out.2.size
        go_wp2
        refine bodyPost_ret (v := vC (1, 0, 0, 65533)) (by unfold vC; simp [results, Tryd.results74, go_sem, hq, hne]) rfl ?_
        rw [e2.out]
        exact ⟨rfl, ((HX.out.pull HC.out).set _).new4 hlt _ _ _ _⟩
      · have h1 := kind_ne hq
        clear hq
        go_enter Tryd.func74, Tryd.ntmps74
        go_wp2_with fail
        refine (HN.out _ (HT.out _)).mono ?_
        rintro e w1 ⟨rfl, hw1⟩
        have c2 : w1.heap[b]? = some (.cells #[.string s] 83 (0, 0)) := (Held.of (HA.out _) hw1).1
        have c3 := cell_of_one c2
        have c4 := free_of_one c2
        have HX := Lib.hid (Held.of (HA.out _) hw1)
        clear c2
        go_wp2_with fail
        refine (HS.out _).mono ?_
        rintro e w2 ⟨rfl, rfl⟩
        have hq := HX.out.cell
        have hf := HX.out.frozen
        have hz := HX.out.2.size
        go_wp2
        refine bodyPost_ret (v := vC (1, 0, 0, R)) (by unfold vC; simp [results, Tryd.results74, go_sem, hq, hne]) rfl ?_
        rw [e2.out]
        exact ⟨rfl, ((HX.out.pull HC.out).set _).new4 hlt _ _ _ _⟩
  · have e2 := Lib.hid (tx_err s he)
    have bk := kind_ne he
    have bk2 : (nextE s != 0) = true := by rw [bne, bk]; rfl
    generalize nextE s = k at *
    clear he
    go_enter Tryd.func74, Tryd.ntmps74
    go_wp2_with fail
    refine (HN.out _ (HT.out _)).mono ?_
    rintro e w1 ⟨rfl, hw1⟩
    go_wp2
    exact ⟨rfl, by rw [e2.out]; exact ⟨rfl, _, (Held.of (HA.out _) hw1).pull HC.out⟩⟩
namespace Vt
theorem ct_at (s : ByteArray) (h : s.size ≠ 0) : ctP s = (if bt s 0 = 27 then sqP else if bt s 0 = 13 then yes (9, 0, 0, 0) else if bt s 0 = 10 then yes (10, 0, 0, 0) else if bt s 0 = 8 then yes (11, 0, 0, 0) else if bt s 0 = 7 then yes (12, 0, 0, 0) else no 2) (suf s 1) := bnd_ok (tk_ne s h)
theorem cm_text (s : ByteArray) (h : 32 ≤ bt s 0) : cmP s = txP s := by unfold cmP; rw [if_pos h]
theorem cm_ctl (s : ByteArray) (h : ¬ 32 ≤ bt s 0) : cmP s = ctP s := by unfold cmP; rw [if_neg h]
end Vt
set_option maxHeartbeats 4000000 in
theorem command_any (b : Nat) (s : ByteArray) (W : World) (T : Tabs W 3 4) (h0 : s.size ≠ 0) (hs : s.size ≤ maxLen) (hc : W.heap[b]? = some (.cells #[.string s] 83 (0, 0))) :
    Calls Tryd.prog 66 #[.pointer (some ⟨b, 0, none⟩)] W fun e w' => Rds vC (cmP s) W b e w' := by
  have hne : ¬ W.heap.size = b := by have := lt_of_block hc; omega
  have hlt := lt_of_block hc
  have hne2 : ¬ b = W.heap.size := by omega
  have c1 := cell_of_one hc
  have HA := Lib.hid (fun x => one_alloc hc x)
  have HC := Lib.hid hc
  have hb := get_bt s
  have hz0 : 0 < s.size := by omega
  by_cases hx : 32 ≤ bt s 0
  · have HX := Lib.hid (fun x hcz => stext_any b s (W.alloc x) (T.below ((Below.refl _ _).alloc (Nat.le_refl _) x)) h0 hs hcz)
    have e2 := Lib.hid (cm_text s hx)
    clear hc T h0 hs
    rcases hR : txP s with k | ⟨d, u⟩
    · rw [hR] at HX
      have e4 := Lib.hid (e2.out.trans hR)
      clear hR e2
      go_enter Tryd.func66, Tryd.ntmps66
      go_wp2_with fail
      refine (HX.out _ (HA.out _)).mono ?_
      rintro e w3 ⟨rfl, u, hw3⟩
      unfold PanE
      go_wp2
      exact ⟨rfl, by rw [e4.out]; exact ⟨rfl, _, hw3.pull HC.out⟩⟩
    · rw [hR] at HX
      have e4 := Lib.hid (e2.out.trans hR)
      clear hR e2
      go_enter Tryd.func66, Tryd.ntmps66
      go_wp2_with fail
      refine (HX.out _ (HA.out _)).mono ?_
      rintro e w3 ⟨rfl, hw3⟩
      have hq := hw3.cell
      have hf := hw3.frozen
      have hz := hw3.2.size
      unfold vC
      go_wp2
      refine bodyPost_ret (v := vC d) (by unfold vC; simp [results, Tryd.results66, go_sem, hq, hne]) rfl ?_
      rw [e4.out]
      exact ⟨rfl, (hw3.pull HC.out).new4 hlt _ _ _ _⟩
  · have HT := Lib.hid (fun wz hcz => take_ok b s wz h0 hs hcz)
    have hs1 := suf_le s 1 hs
    have HQ := Lib.hid (fun wz hcz => sequence_any b (suf s 1) wz hs1 hcz)
    have e2 := (cm_ctl s hx).trans (ct_at s h0)
    clear hc T h0 hs
    generalize hx0 : bt s 0 = x at *
    generalize hu0 : suf s 1 = t at *
    have HX0 := Lib.hid hx0
    clear hu0
    have hctl : ∀ k : Int, (x = 13 ∧ k = 9 ∨ x = 10 ∧ k = 10 ∨ x = 8 ∧ k = 11 ∨ x = 7 ∧ k = 12) → Calls Tryd.prog 66 #[.pointer (some ⟨b, 0, none⟩)] W fun e w' => Rds vC (cmP s) W b e w' := by
      intro k hk
      obtain ⟨m, hm⟩ : ∃ m : Cmd, m = (k, 0, 0, 0) := ⟨_, rfl⟩
      have HM := Lib.hid hm
      have e4 := Lib.hid (show cmP s = .ok (m, t) by
        rw [hm]
        rcases hk with ⟨rfl, rfl⟩ | ⟨rfl, rfl⟩ | ⟨rfl, rfl⟩ | ⟨rfl, rfl⟩ <;> exact e2)
      clear e2 hm
      rcases hk with ⟨rfl, rfl⟩ | ⟨rfl, rfl⟩ | ⟨rfl, rfl⟩ | ⟨rfl, rfl⟩
      all_goals
        clear hx
        go_enter Tryd.func66, Tryd.ntmps66
        go_wp2_with fail
        refine (HT.out _ (HA.out _)).mono ?_
        rintro e w1 ⟨rfl, hw1⟩
        have hq := hw1.cell
        have hf := hw1.frozen
        have hz := hw1.2.size
        go_wp2
        refine bodyPost_ret (v := vC m) (by rw [HM.out]; unfold vC; simp [results, Tryd.results66, go_sem, hq, hne]) rfl ?_
        rw [e4.out]
        exact ⟨rfl, (hw1.pull HC.out).new4 hlt _ _ _ _⟩
    by_cases k0 : x = 27
    · subst k0
      rw [if_pos rfl] at e2
      rcases hR : sqP t with k | ⟨d, u⟩
      · rw [hR] at HQ
        have e4 := Lib.hid (e2.trans hR)
        clear hR e2 hctl hx
        go_enter Tryd.func66, Tryd.ntmps66
        go_wp2_with fail
        refine (HT.out _ (HA.out _)).mono ?_
        rintro e w1 ⟨rfl, hw1⟩
        go_wp2_with fail
        refine (HQ.out _ hw1.1).mono ?_
        rintro e w3 ⟨rfl, u, hw3⟩
        unfold PanE
        go_wp2
        exact ⟨rfl, by rw [e4.out]; exact ⟨rfl, _, (hw1.trans hw3).pull HC.out⟩⟩
      · rw [hR] at HQ
        have e4 := Lib.hid (e2.trans hR)
        clear hR e2 hctl hx
        go_enter Tryd.func66, Tryd.ntmps66
        go_wp2_with fail
        refine (HT.out _ (HA.out _)).mono ?_
        rintro e w1 ⟨rfl, hw1⟩
        go_wp2_with fail
        refine (HQ.out _ hw1.1).mono ?_
        rintro e w3 ⟨rfl, hw3⟩
        have hx := hw1.trans hw3
        have hq := hx.cell
        have hf := hx.frozen
        have hz := hx.2.size
        unfold vC
        go_wp2
        refine bodyPost_ret (v := vC d) (by unfold vC; simp [results, Tryd.results66, go_sem, hq, hne]) rfl ?_
        rw [e4.out]
        exact ⟨rfl, (hx.pull HC.out).new4 hlt _ _ _ _⟩
    by_cases k1 : x = 13
    · exact hctl 9 (by omega)
    by_cases k2 : x = 10
    · exact hctl 10 (by omega)
    by_cases k3 : x = 8
    · exact hctl 11 (by omega)
    by_cases k4 : x = 7
    · exact hctl 12 (by omega)
    rw [if_neg k0, if_neg k1, if_neg k2, if_neg k3, if_neg k4] at e2
    have e4 := Lib.hid (show cmP s = .error 2 from e2)
    have q0 := kind_ne k0
    have q1 := kind_ne k1
    have q2 := kind_ne k2
    have q3 := kind_ne k3
    have q4 := kind_ne k4
    clear e2 hctl k0 k1 k2 k3 k4
    go_enter Tryd.func66, Tryd.ntmps66
    go_wp2_with fail
    refine (HT.out _ (HA.out _)).mono ?_
    rintro e w1 ⟨rfl, hw1⟩
    go_wp2
    exact ⟨rfl, by rw [e4.out]; exact ⟨rfl, _, hw1.pull HC.out⟩⟩
end Go.Proofs.YtkkioajmfkcloaaDoor
