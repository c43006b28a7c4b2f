/- The contract of scan.Next. -/
import Derived.Test.YtkkioajmfkcloaaDoorMSd
import Derived.Recover
import Derived.MapKept
import Derived.RegionTactic
import Derived.ChangeAlike
set_option linter.unusedVariables false
namespace Go.Proofs.YtkkioajmfkcloaaDoor
open Go.RowKit Go.PlainAid Gl L Vt
theorem assert_yes (k : Int) (w : World) : (Instr.typeAssert (.iface 28 (.int .i64 k)) 20 28 true).run Tryd.prog w = .ok (.tuple #[.int .i64 k, .bool true]) w := by kernel_rfl
theorem assert_no (w : World) : (Instr.typeAssert .nilIface 20 28 true).run Tryd.prog w = .ok (.tuple #[.int .i64 0, .bool false]) w := by kernel_rfl
/-- What the closure lays: no command, nothing left, a number. -/
def laid (w : World) (nc nl ne : Nat) (k : Int) : World :=
  (((((w.setCell ⟨nc, 0, none⟩ (.int .i64 0)).setCell ⟨nc, 1, none⟩ (.int .i64 0)).setCell ⟨nc, 2, none⟩ (.int .i64 0)).setCell ⟨nc, 3, none⟩ (.int .i32 0)).setCell ⟨nl, 0, none⟩ (.string ⟨#[]⟩)).setCell ⟨ne, 0, none⟩ (.int .i64 k)
/-- The deferred closure of a call that gives up: it marks the panic, and lays what is told in its place. -/
theorem catch_panicking (nc nl ne : Nat) (x0 x1 x2 x3 x4 x5 : Value) (k : Int) (older : List PanicEntry) (w : World)
    (c0 : w.cell? ⟨nc, 0, none⟩ = some x0) (c1 : w.cell? ⟨nc, 1, none⟩ = some x1) (c2 : w.cell? ⟨nc, 2, none⟩ = some x2) (c3 : w.cell? ⟨nc, 3, none⟩ = some x3) (c4 : w.cell? ⟨nl, 0, none⟩ = some x4) (c5 : w.cell? ⟨ne, 0, none⟩ = some x5)
    (z0 : w.frozen? ⟨nc, 0, none⟩ = false) (z1 : w.frozen? ⟨nc, 1, none⟩ = false) (z2 : w.frozen? ⟨nc, 2, none⟩ = false) (z3 : w.frozen? ⟨nc, 3, none⟩ = false) (z4 : w.frozen? ⟨nl, 0, none⟩ = false) (z5 : w.frozen? ⟨ne, 0, none⟩ = false) (h1 : ¬ nc = nl) (h2 : ¬ nc = ne) (h3 : ¬ nl = ne) :
    CallsD Tryd.prog 65 #[.pointer (some ⟨nc, 0, none⟩), .pointer (some ⟨nl, 0, none⟩), .pointer (some ⟨ne, 0, none⟩)] (.panicking ({ v := .iface 28 (.int .i64 k), recovered := false } :: older)) w fun e u' w' =>
      e = .returned (.tuple #[]) ∧ u' = .panicking ({ v := .iface 28 (.int .i64 k), recovered := true } :: older) ∧ w' = laid w nc nl ne k := by
  refine callsD_of_wpS Tryd.func65 rfl fun d cs hu => ?_
  apply wpS_seq
  apply wpS_region
  simp [wpOpsS, go_sem, recoverD, hu, Tryd.ntmps65, Exit.thenS, assert_yes]
  apply wpS_seq
  apply wpS_region
  simp [wpOpsS, go_sem, Exit.thenS]
  refine wpS_cond (t := true) (by simp [Act.eval, Array.replicate]) ?_
  simp only [if_true]
  apply wpS_region
  simp [wpOpsS, go_sem, c0, c1, c2, c3, c4, c5, z0, z1, z2, z3, z4, z5, bodyPostS, results, Tryd.results65]
  rfl
theorem catch_idle (a b c : Value) (w : World) :
    CallsD Tryd.prog 65 #[a, b, c] .returning w fun e u' w' => e = .returned (.tuple #[]) ∧ u' = .returning ∧ w' = w := by
  refine callsD_of_wpS Tryd.func65 rfl fun d cs hu => ?_
  apply wpS_seq
  apply wpS_region
  simp [wpOpsS, go_sem, recoverD, hu, Tryd.ntmps65, Exit.thenS, assert_no]
  apply wpS_seq
  apply wpS_region
  simp [wpOpsS, go_sem, Exit.thenS]
  refine wpS_cond (t := false) (by simp [Act.eval, Array.replicate]) ?_
  simp only [Bool.false_eq_true, if_false]
  refine wpS_of_wp (wp_skip ?_)
  cases d
  simp_all [bodyPostS, results, Tryd.results65]
/-- What Next tells, as a value. -/
def vN (q : Cmd × ByteArray × Int) : Value := .tuple #[vC q.1, .string q.2.1, .int .i64 q.2.2]
theorem b3 (W : World) (x y z : Obj) : Below W.heap.size W (((W.alloc x).alloc y).alloc z) :=
  (((Below.refl _ _).alloc (Nat.le_refl _) _).alloc (by simp) _).alloc (by simp; omega) _
theorem b4 (W : World) (x y z u : Obj) : Below W.heap.size W ((((W.alloc x).alloc y).alloc z).alloc u) :=
  (b3 W x y z).alloc (by simp; omega) _
theorem last4 (W : World) (x y z u : Obj) : ((((W.alloc x).alloc y).alloc z).alloc u).heap[W.heap.size + 1 + 1 + 1]? = some u := by
  have := (MapKept.heap_alloc (((W.alloc x).alloc y).alloc z) u).1
  simpa using this
set_option maxHeartbeats 2000000 in
theorem snext_nil (W : World) : Calls Tryd.prog 45 #[.string ⟨#[]⟩] W fun e w' => e = .returned (vN (d0, ⟨#[]⟩, 6)) ∧ Below W.heap.size W w' := by
  go_enter_defers Tryd.func45, Tryd.ntmps45
  go_wp2
  simp [bodyPostD, Leaves, results, Tryd.results45, go_sem]
  exact ⟨by unfold vN vC; rfl, b3 _ _ _ _⟩
theorem blks {W w1 : World} {v : Value} {x0 x1 x2 x3 x4 x5 : Value} {D : Obj} {t : TypeId} (h : Held ((((W.alloc (.cells #[x0, x1, x2, x3] 36)).alloc (.cells #[x4] 9)).alloc (.cells #[x5] 28)).alloc D) (W.heap.size + 1 + 1 + 1) t v w1) :
    (w1.cell? ⟨W.heap.size, 0, none⟩ = some x0 ∧ w1.cell? ⟨W.heap.size, 1, none⟩ = some x1 ∧ w1.cell? ⟨W.heap.size, 2, none⟩ = some x2 ∧ w1.cell? ⟨W.heap.size, 3, none⟩ = some x3 ∧ w1.cell? ⟨W.heap.size + 1, 0, none⟩ = some x4 ∧ w1.cell? ⟨W.heap.size + 1 + 1, 0, none⟩ = some x5) ∧
    (∀ o, w1.frozen? ⟨W.heap.size, o, none⟩ = false) ∧ (∀ o, w1.frozen? ⟨W.heap.size + 1, o, none⟩ = false) ∧ (∀ o, w1.frozen? ⟨W.heap.size + 1 + 1, o, none⟩ = false) := by
  have hq := h.cell
  have hf := h.frozen
  refine ⟨⟨?_, ?_, ?_, ?_, ?_, ?_⟩, fun o => ?_, fun o => ?_, fun o => ?_⟩
  iterate 6 (rw [hq _ _ (by first | (simp; done) | (simp; omega)) (by omega)]; simp [go_sem])
  iterate 3 (rw [hf _ _ (by first | (simp; done) | (simp; omega)) (by omega)]; simp [go_sem])
theorem four {B n : Nat} {W w1 : World} (h : Below B W w1) (hB : B ≤ n) (v0 v1 v2 v3 : Value) : Below B W ((((w1.setCell ⟨n, 0, none⟩ v0).setCell ⟨n, 1, none⟩ v1).setCell ⟨n, 2, none⟩ v2).setCell ⟨n, 3, none⟩ v3) :=
  (((h.setCell hB _).setCell hB _).setCell hB _).setCell hB _
theorem six {B n : Nat} {W w1 : World} (h : Below B W w1) (hB : B ≤ n) (v0 v1 v2 v3 v4 v5 : Value) : Below B W ((((((w1.setCell ⟨n, 0, none⟩ v0).setCell ⟨n, 1, none⟩ v1).setCell ⟨n, 2, none⟩ v2).setCell ⟨n, 3, none⟩ v3).setCell ⟨n + 1, 0, none⟩ v4).setCell ⟨n + 1 + 1, 0, none⟩ v5) :=
  ((four h hB _ _ _ _).setCell (Nat.le_trans hB (Nat.le_succ _)) _).setCell (Nat.le_trans hB (Nat.le_trans (Nat.le_succ _) (Nat.le_succ _))) _
theorem fourC {w1 : World} {n : Nat} {x0 x1 x2 x3 : Value} (c0 : w1.cell? ⟨n, 0, none⟩ = some x0) (c1 : w1.cell? ⟨n, 1, none⟩ = some x1) (c2 : w1.cell? ⟨n, 2, none⟩ = some x2) (c3 : w1.cell? ⟨n, 3, none⟩ = some x3) (v0 v1 v2 v3 : Value) :
    ∃ w2 : World, ((((w1.setCell ⟨n, 0, none⟩ v0).setCell ⟨n, 1, none⟩ v1).setCell ⟨n, 2, none⟩ v2).setCell ⟨n, 3, none⟩ v3) = w2 ∧ w2.cell? ⟨n, 0, none⟩ = some v0 ∧ w2.cell? ⟨n, 1, none⟩ = some v1 ∧ w2.cell? ⟨n, 2, none⟩ = some v2 ∧ w2.cell? ⟨n, 3, none⟩ = some v3 ∧
      (∀ c o, ¬ c = n → w2.cell? ⟨c, o, none⟩ = w1.cell? ⟨c, o, none⟩) ∧ ∀ c o, w2.frozen? ⟨c, o, none⟩ = w1.frozen? ⟨c, o, none⟩ := by
  refine ⟨_, rfl, ?_, ?_, ?_, ?_, fun c o h => ?_, fun c o => ?_⟩
  all_goals simp [go_sem, c0, c1, c2, c3]
theorem nxP_ne (s : ByteArray) (h0 : s.size ≠ 0) : nxP s = match cmP s with
    | .ok (c, t) => (c, t, 0)
    | .error e => (d0, ⟨#[]⟩, e) := by unfold nxP; rw [if_neg h0]; cases cmP s <;> rfl
set_option maxHeartbeats 2000000 in
theorem snext_ne (s : ByteArray) (W : World) (T : Tabs W 3 4) (h0 : s.size ≠ 0) (hs : s.size ≤ maxLen) : Calls Tryd.prog 45 #[.string s] W fun e w' => e = .returned (vN (nxP s)) ∧ Below W.heap.size W w' := by
  have hmf : ∀ (fn : Fn) (first cap : Array Value) (w : World), (Instr.makeFunc fn first cap).run Tryd.prog w = .ok (.func fn first cap) w := fun _ _ _ _ => rfl
  have hn := ne_empty s (by omega)
  have HC := Lib.hid (fun b wz Tz hcz => command_any b s wz Tz h0 hs hcz)
  have HT := Lib.hid (fun w' hb => T.below (w' := w') hb)
  have e1 := nxP_ne s h0
  clear T h0 hs
  rcases hR : cmP s with k | ⟨d, u⟩
  · rw [hR] at HC e1
    have E := Lib.hid e1
    clear e1 hR
    go_enter_defers Tryd.func45, Tryd.ntmps45
    go_wp2_with fail
    refine (HC.out _ _ (HT.out _ (b4 _ _ _ _ _)) (last4 _ _ _ _ _)).mono ?_
    rintro e w1 ⟨rfl, t, hw1⟩
    obtain ⟨⟨c0, c1, c2, c3, c4, c5⟩, f1, f2, f3⟩ := blks hw1
    have hz := hw1.2.size
    have hB := Lib.hid ((b4 W _ _ _ _).trans (hw1.below (B := W.heap.size) (by omega) (b4 _ _ _ _ _).size))
    unfold PanE
    go_wp2
    refine leaves_cons (f := 65) (args := #[.pointer (some ⟨W.heap.size, 0, none⟩), .pointer (some ⟨W.heap.size + 1, 0, none⟩), .pointer (some ⟨W.heap.size + 1 + 1, 0, none⟩)]) (by simp) (by simp [go_sem]) ?_
    refine (catch_panicking W.heap.size (W.heap.size + 1) (W.heap.size + 1 + 1) _ _ _ _ _ _ k [] w1 c0 c1 c2 c3 c4 c5 (f1 0) (f1 1) (f1 2) (f1 3) (f2 0) (f3 0) (by omega) (by omega) (by omega)).mono ?_
    rintro e u' w'' ⟨rfl, rfl, rfl⟩
    unfold laid
    simp [Leaves, settle, results, Tryd.results45, go_sem, c0, c1, c2, c3, c4, c5]
    rw [E.out]
    exact ⟨rfl, six hB.out (Nat.le_refl _) _ _ _ _ _ _⟩
  · rw [hR] at HC e1
    have E := Lib.hid e1
    clear e1 hR
    go_enter_defers Tryd.func45, Tryd.ntmps45
    go_wp2_with fail
    refine (HC.out _ _ (HT.out _ (b4 _ _ _ _ _)) (last4 _ _ _ _ _)).mono ?_
    rintro e w1 ⟨rfl, hw1⟩
    obtain ⟨⟨c0, c1, c2, c3, c4, c5⟩, f1, f2, f3⟩ := blks hw1
    have hz := hw1.2.size
    have hcu := cell_of_one hw1.1
    have hB := Lib.hid ((b4 W _ _ _ _).trans (hw1.below (B := W.heap.size) (by omega) (b4 _ _ _ _ _).size))
    unfold vC
    go_wp2
    obtain ⟨w2, hw2, g0, g1, g2, g3, gc, gf⟩ := fourC c0 c1 c2 c3 (.int .i64 d.1) (.int .i64 d.2.1) (.int .i64 d.2.2.1) (.int .i32 d.2.2.2)
    have hB2 := Lib.hid (four hB.out (Nat.le_refl _) (.int .i64 d.1) (.int .i64 d.2.1) (.int .i64 d.2.2.1) (.int .i32 d.2.2.2))
    rw [hw2] at hB2 ⊢
    have g4 := (gc (W.heap.size + 1) 0 (by omega)).trans c4
    have g5 := (gc (W.heap.size + 1 + 1) 0 (by omega)).trans c5
    have g6 := (gc (W.heap.size + 1 + 1 + 1) 0 (by omega)).trans hcu
    have k1 := fun o => (gf W.heap.size o).trans (f1 o)
    have k2 := fun o => (gf (W.heap.size + 1) o).trans (f2 o)
    have k3 := fun o => (gf (W.heap.size + 1 + 1) o).trans (f3 o)
    clear hw2 c0 c1 c2 c3 c4 c5 f1 f2 f3 hcu gc gf hB hz hw1
    go_region
    go_wp2
    refine leaves_cons (f := 65) (args := #[.pointer (some ⟨W.heap.size, 0, none⟩), .pointer (some ⟨W.heap.size + 1, 0, none⟩), .pointer (some ⟨W.heap.size + 1 + 1, 0, none⟩)]) (by simp) (by simp [go_sem]) ?_
    refine (catch_idle _ _ _ _).mono ?_
    rintro e u' w'' ⟨rfl, rfl, rfl⟩
    simp [Leaves, settle, results, Tryd.results45, go_sem, g0, g1, g2, g3, g4, g5]
    rw [E.out]
    exact ⟨rfl, (six hB2.out (Nat.le_refl _) _ _ _ _ _ _).drew⟩
/-- What Next tells: any bytes. -/
theorem snext_any (s : ByteArray) (W : World) (T : Tabs W 3 4) (hs : s.size ≤ maxLen) : Calls Tryd.prog 45 #[.string s] W fun e w' => e = .returned (vN (nxS s)) ∧ Below W.heap.size W w' := by
  rw [← nxP_nxS]
  by_cases h0 : s.size = 0
  · obtain rfl := of_size_zero s h0
    have e : nxP ⟨#[]⟩ = (d0, ⟨#[]⟩, 6) := by unfold nxP; rw [if_pos h0]
    rw [e]
    exact snext_nil W
  · exact snext_ne s W T h0 hs
end Go.Proofs.YtkkioajmfkcloaaDoor
