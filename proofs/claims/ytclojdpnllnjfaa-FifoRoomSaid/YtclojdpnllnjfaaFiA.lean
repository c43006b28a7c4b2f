/- The program's fifo: its ring, in memory; New, Push, Len, Lost. -/
import Derived.Test.YtclojdpnllnjfaaSlR
import Derived.Test.YtclojdpnllnjfaaMm
import Derived.Test.YtclojdpnllnjfaaProg
import Derived.BigRegion
import Derived.IntWalk
set_option linter.unusedVariables false
namespace Go.Proofs.Ytclojdpnllnjfaa
open Go.RowKit L
def S2 (p g : Nat) : Nat → Prop := fun k => k = p ∨ k = g
/-- The ring's put. -/
def PutTold (w : World) (p g k : Nat) (b at' : Int) (cells : Array Value) (cur : Array Value) (w' : World) : Prop :=
  w'.heap[p]? = some (.cells cells 45 (0, 0)) ∧ w'.heap[g]? = some (.cells ((cur.setIfInBounds (k * 2) (.int .u8 b)).setIfInBounds (k * 2 + 1) (.int .i64 at')) 31 (0, 0)) ∧ Upd (S2 p g) w w'
set_option maxHeartbeats 4000000 in
theorem put_any (w : World) (p g room first n : Nat) (b at' : Int) (la lo : Value) (cur : Array Value) (hp : w.heap[p]? = some (.cells #[.slice (some ⟨g, 0, none⟩) room room, .int .i64 first, .int .i64 n, la, lo] 45 (0, 0)))
    (hg : w.heap[g]? = some (.cells cur 31 (0, 0))) (hc : cur.size = room * 2) (hpg : p ≠ g) (h1 : first < room) (h2 : n < room) (h3 : room ≤ 64) :
    Calls Try.prog 20 #[.pointer (some ⟨p, 0, none⟩), .agg #[.int .u8 b, .int .i64 at']] w fun e w' => e = .returned (.tuple #[]) ∧ PutTold w p g ((first + n) % room) b at' #[.slice (some ⟨g, 0, none⟩) room room, .int .i64 first, .int .i64 ((n + 1 : Nat) : Int), la, lo] cur w' := by
  have hk : (first + n) % room < room := Nat.mod_lt _ (by omega)
  have hd1 : ((first : Int) + (n : Int)).tmod (room : Int) = (((first + n) % room : Nat) : Int) := by
    rw [Int.tmod_eq_emod_of_nonneg (by omega)]; norm_cast
  obtain ⟨⟨c0, c1, c2, -, -⟩, ⟨f0, f1, f2, -, -⟩, z0⟩ := blk5 hp
  generalize hK : (first + n) % room = k at *
  have HP := Lib.hid hp
  have HG := Lib.hid hg
  have HC := Lib.hid hc
  have HK := Lib.hid hK
  have HN := Lib.hid hpg
  clear hp hg hc hK hpg
  go_enter Try.func20, Try.ntmps20
  go_wp2_with fail
  obtain ⟨wq, hwq⟩ : ∃ wq, wq = (w.alloc (.cells #[.int .u8 b, .int .i64 at'] 31)).drew := ⟨_, rfl⟩
  have hU : Upd (S2 p g) w wq := by rw [hwq]; exact ((Upd.refl _ _).alloc _).drew
  have HQ := Lib.hid (show wq.heap[p]? = some (.cells #[.slice (some ⟨g, 0, none⟩) room room, .int .i64 first, .int .i64 n, la, lo] 45 (0, 0)) by rw [hwq]; exact carryA _ HP.out)
  have HH := Lib.hid (show wq.heap[g]? = some (.cells cur 31 (0, 0)) by rw [hwq]; exact carryA _ HG.out)
  have b0 : wq.cell? ⟨w.heap.size, 0, none⟩ = some (.int .u8 b) := by rw [hwq]; exact cell_of_row _ _ 0 _ _ (0, 0) (heap_alloc_new w (.cells #[.int .u8 b, .int .i64 at'] 31))
  have b1 : wq.cell? ⟨w.heap.size, 1, none⟩ = some (.int .i64 at') := by rw [hwq]; exact cell_of_row _ _ 1 _ _ (0, 0) (heap_alloc_new w (.cells #[.int .u8 b, .int .i64 at'] 31))
  clear c0 c1 c2 f0 f1 f2
  obtain ⟨⟨c0, c1, c2, -, -⟩, ⟨f0, f1, f2, -, -⟩, z1⟩ := blk5 HQ.out
  obtain ⟨u0, d0⟩ : ∃ u, wq.cell? ⟨g, k * 2, none⟩ = some u := ⟨_, by rw [cell_of_row wq g _ cur _ (0, 0) HH.out, Array.getElem?_eq_getElem (by rw [HC.out]; omega)]⟩
  obtain ⟨u1, d1⟩ : ∃ u, wq.cell? ⟨g, k * 2 + 1, none⟩ = some u := ⟨_, by rw [cell_of_row wq g _ cur _ (0, 0) HH.out, Array.getElem?_eq_getElem (by rw [HC.out]; omega)]⟩
  have e0 := frozen_of_row wq g (k * 2) cur 31 HH.out
  have e1 := frozen_of_row wq g (k * 2 + 1) cur 31 HH.out
  have n1 : ¬ p = g := HN.out
  have n2 : ¬ g = p := fun h => HN.out h.symm
  have hs2 := IntWalk.i64_in ((n : Int) + 1) (by omega)
  have hr0 : ¬ room = 0 := by omega
  have hs1 := IntWalk.i64_in ((first : Int) + (n : Int)) (by omega)
  have hk0 : (0 : Int) ≤ (k : Int) := by omega
  have hk1 : (k : Int) < (room : Int) := by omega
  refine region_tail wq hwq.symm 21 (by kernel_rfl) (by kernel_rfl) ?_
  simp only [List.take_succ_cons, List.take_zero, List.drop_succ_cons, List.drop_zero]
  clear hwq
  repeat still_step
  refine wpStill_nil ?_
  go_wp2
  refine bodyPost_end (v := .tuple #[]) (by simp [results, Try.results20, go_sem]) rfl ⟨rfl, ?_, ?_, ?_⟩
  · rw [setCell_at (setCell_ne (setCell_ne HQ.out HN.out) HN.out)]; rfl
  · rw [setCell_ne (setCell_at (setCell_at HH.out)) n2]
  · exact ((hU.setCell (.inl (.inr rfl)) _).setCell (.inl (.inr rfl)) _).setCell (.inl (.inl rfl)) _
theorem run_clear_one (w : World) (g off cap : Nat) (cur : Array Value) (hg : w.heap[g]? = some (.cells cur 31 (0, 0))) (h : off + 2 ≤ cur.size) (ty : TypeId) :
    (Builtin.clear_ #[22] ty #[.slice (some ⟨g, off, none⟩) 1 cap]).run Try.prog w = .ok (.tuple #[]) ((w.setCell ⟨g, off, none⟩ (.int .u8 0)).setCell ⟨g, off + 1, none⟩ (.int .i64 0)) := by
  have c0 : w.cell? ⟨g, off, none⟩ = some cur[off] := by rw [cell_of_row w g _ cur _ (0, 0) hg, Array.getElem?_eq_getElem (by omega)]
  have c1 : w.cell? ⟨g, off + 1, none⟩ = some cur[off + 1] := by rw [cell_of_row w g _ cur _ (0, 0) hg, Array.getElem?_eq_getElem (by omega)]
  have f0 := frozen_of_row w g off cur 31 hg
  have f1 := frozen_of_row w g (off + 1) cur 31 hg
  have hz : (zeroValue 31).run Try.prog w = .ok (.agg #[.int .u8 0, .int .i64 0]) w := by
    go_simp
  have hst := run_storeCells_cells (P := Try.prog) g off [.int .u8 0, .int .i64 0] 0 w (by
    intro j hj
    simp at hj
    rcases (show j = 0 ∨ j = 1 by omega) with rfl | rfl
    · simp [c0]
    · simp [c1]) (by
    intro j hj
    simp at hj
    rcases (show j = 0 ∨ j = 1 by omega) with rfl | rfl
    · simpa using f0
    · simpa using f1) (by intro v hv; simp at hv; rcases hv with rfl | rfl <;> rfl)
  simp only [Nat.add_zero] at hst
  have hzz : (Builtin.zeroCells (Value.cells (.agg #[.int .u8 0, .int .i64 0])) 1).toList = [.int .u8 0, .int .i64 0] := by simp [Builtin.zeroCells, Value.cells]; rfl
  simp [Builtin.clear_, run_underlying Try.underlying22, hz, hzz, hst]
  rfl
theorem wpList_clear_one {w : World} {ops : Array Oper} {rest : List Oper} {o : Oper} {a : Act} {Q : Exit → Act → World → Prop} (hgd : o.guard = none) (s : Operand)
    (ho : o.op = .call { callee := .builtin .clear, args := #[s], argTypes := #[22] })
    (g off cap : Nat) (cur : Array Value) (hs : a.eval s = .slice (some ⟨g, off, none⟩) 1 cap) (hg : w.heap[g]? = some (.cells cur 31 (0, 0))) (hc : off + 2 ≤ cur.size)
    (h : wpList Try.prog ops Q rest (a.put o.dst (.tuple #[])) ((w.setCell ⟨g, off, none⟩ (.int .u8 0)).setCell ⟨g, off + 1, none⟩ (.int .i64 0))) : wpList Try.prog ops Q (o :: rest) a w := by
  refine wpList_plain hgd fun K hK => ?_
  have hrun := run_clear_one w g off cap cur hg hc o.type
  unfold Oper.wp
  simp [execOp, ho, resolve, invoke, builtin, hs, hrun, Result.andThen]
  exact hK _ _ h
theorem at_eq {wb wc : World} (h : wb = wc) {p : Nat} {x : Obj} (hx : wc.heap[p]? = some x) : wb.heap[p]? = some x := h ▸ hx
/-- The ring's take: the cells of the places. -/
def cleared (cur : Array Value) (k : Nat) : Array Value := (cur.setIfInBounds (k * 2) (.int .u8 0)).setIfInBounds (k * 2 + 1) (.int .i64 0)
def TakeTold (w : World) (p g : Nat) (cells : Array Value) (cur : Array Value) (w' : World) : Prop :=
  w'.heap[p]? = some (.cells cells 45 (0, 0)) ∧ w'.heap[g]? = some (.cells cur 31 (0, 0)) ∧ Upd (S2 p g) w w'
set_option maxHeartbeats 4000000 in
theorem take_any (w : World) (p g room first n : Nat) (b at' : Int) (la lo : Value) (cur : Array Value) (hp : w.heap[p]? = some (.cells #[.slice (some ⟨g, 0, none⟩) room room, .int .i64 first, .int .i64 ((n + 1 : Nat) : Int), la, lo] 45 (0, 0)))
    (hg : w.heap[g]? = some (.cells cur 31 (0, 0))) (hc : cur.size = room * 2) (hpg : p ≠ g) (h1 : first < room) (h2 : n < room) (h3 : room ≤ 64) (q0 : cur[first * 2]? = some (.int .u8 b)) (q1 : cur[first * 2 + 1]? = some (.int .i64 at')) :
    Calls Try.prog 18 #[.pointer (some ⟨p, 0, none⟩)] w fun e w' => e = .returned (.agg #[.int .u8 b, .int .i64 at']) ∧ TakeTold w p g #[.slice (some ⟨g, 0, none⟩) room room, .int .i64 (((first + 1) % room : Nat) : Int), .int .i64 n, la, lo] (cleared cur first) w' := by
  have hd1 : ((first : Int) + 1).tmod (room : Int) = (((first + 1) % room : Nat) : Int) := by
    rw [Int.tmod_eq_emod_of_nonneg (by omega)]; norm_cast
  generalize hK : (first + 1) % room = k at *
  have hk : k < room := by rw [← hK]; exact Nat.mod_lt _ (by omega)
  have HP := Lib.hid (carryA (.cells #[.int .u8 0, .int .i64 0] 31) hp)
  have HG := Lib.hid (carryA (.cells #[.int .u8 0, .int .i64 0] 31) hg)
  have HR := Lib.hid (heap_alloc_new w (.cells #[.int .u8 0, .int .i64 0] 31))
  have HU := Lib.hid ((Upd.refl (S2 p g) w).alloc (.cells #[.int .u8 0, .int .i64 0] 31))
  have HC := Lib.hid hc
  have HK := Lib.hid hK
  have n1 : ¬ p = g := hpg
  have n2 : ¬ g = p := fun h => hpg h.symm
  have zp := lt_of_block hp
  have zg := lt_of_block hg
  have Q0 := Lib.hid q0
  have Q1 := Lib.hid q1
  have HZ := Lib.hid (show (w.alloc (.cells #[.int .u8 0, .int .i64 0] 31)).heap.size = w.heap.size + 1 by simp)
  clear hp hg hc hK hpg q0 q1
  go_enter Try.func18, Try.ntmps18
  go_wp2_with fail
  obtain ⟨wa, hwa⟩ : ∃ wa, wa = w.alloc (.cells #[.int .u8 0, .int .i64 0] 31) := ⟨_, rfl⟩
  rw [← hwa] at HP HG HR HU HZ ⊢
  clear hwa
  obtain ⟨⟨c0, c1, -, -, -⟩, -, z1⟩ := blk5 HP.out
  have d0 : wa.cell? ⟨g, first * 2, none⟩ = some (.int .u8 b) := by rw [cell_of_row wa g _ cur _ (0, 0) HG.out]; exact Q0.out
  have d1 : wa.cell? ⟨g, first * 2 + 1, none⟩ = some (.int .i64 at') := by rw [cell_of_row wa g _ cur _ (0, 0) HG.out]; exact Q1.out
  have z2 : g < wa.heap.size := lt_of_block HG.out
  have hi1 : (first : Int) < (room : Int) := by omega
  go_region
  go_wp2_with fail
  obtain ⟨wb, hwb⟩ : ∃ wb, wb = (wa.alloc (.cells #[.int .u8 b, .int .i64 at'] 31)).drew.drew := ⟨_, rfl⟩
  have HP2 := Lib.hid (at_eq hwb (carryA (.cells #[.int .u8 b, .int .i64 at'] 31) HP.out))
  have HG2 := Lib.hid (at_eq hwb (carryA (.cells #[.int .u8 b, .int .i64 at'] 31) HG.out))
  have HR2 := Lib.hid (at_eq hwb (carryA (.cells #[.int .u8 b, .int .i64 at'] 31) HR.out))
  have HS2 := Lib.hid (at_eq hwb (heap_alloc_new wa (.cells #[.int .u8 b, .int .i64 at'] 31)))
  have HU2 := Lib.hid (show Upd (S2 p g) w wb by rw [hwb]; exact (HU.out.alloc _).drew.drew)
  clear c0 c1 d0 d1 z1 z2
  obtain ⟨⟨c0, c1, c2, -, -⟩, ⟨f0, f1, f2, -, -⟩, z1⟩ := blk5 HP2.out
  have hs1 := IntWalk.i64_in ((first : Int) + 1) (by omega)
  have hi2 : (0 : Int) ≤ (first : Int) := by omega
  have hrf : ¬ room = first := by omega
  have hi3 : (first : Int) ≤ (first : Int) + 1 := by omega
  have hi4 : (first : Int) + 1 ≤ (room : Int) := by omega
  have hi5 : ((first : Int) + 1).toNat = first + 1 := by omega
  refine region_tail wb hwb.symm 14 (by kernel_rfl) (by kernel_rfl) ?_
  simp only [List.take_succ_cons, List.take_zero, List.drop_succ_cons, List.drop_zero]
  clear hwb
  repeat still_step
  refine wpStill_nil ?_
  refine wpList_clear_one rfl (.tmp 27) rfl g (first * 2) (room - first) cur rfl HG2.out (by rw [HC.out]; omega) ?_
  have HP3 := Lib.hid (setCell_ne (u := .int .i64 0) (o := first * 2 + 1) (setCell_ne (u := .int .u8 0) (o := first * 2) HP2.out n1) n1)
  have HG3 := Lib.hid (setCell_at (u := .int .i64 0) (o := first * 2 + 1) (setCell_at (u := .int .u8 0) (o := first * 2) HG2.out))
  have ng1 : ¬ w.heap.size = g := by omega
  have ng2 : ¬ wa.heap.size = g := by have := lt_of_block HG.out; omega
  have HR3 := Lib.hid (setCell_ne (u := .int .i64 0) (o := first * 2 + 1) (setCell_ne (u := .int .u8 0) (o := first * 2) HR2.out ng1) ng1)
  have HS3 := Lib.hid (setCell_ne (u := .int .i64 0) (o := first * 2 + 1) (setCell_ne (u := .int .u8 0) (o := first * 2) HS2.out ng2) ng2)
  have HU3 := Lib.hid ((HU2.out.setCell (p := ⟨g, first * 2, none⟩) (.inl (.inr rfl)) (.int .u8 0)).setCell (p := ⟨g, first * 2 + 1, none⟩) (.inl (.inr rfl)) (.int .i64 0))
  clear c0 c1 c2 f0 f1 f2 z1
  go_wp2_with fail
  obtain ⟨wc, hwc⟩ : ∃ wc, wc = ((wb.setCell ⟨g, first * 2, none⟩ (.int .u8 0)).setCell ⟨g, first * 2 + 1, none⟩ (.int .i64 0)).drew := ⟨_, rfl⟩
  have HP4 := Lib.hid (at_eq hwc HP3.out)
  have HG4 := Lib.hid (at_eq hwc HG3.out)
  have HR4 := Lib.hid (at_eq hwc HR3.out)
  have HS4 := Lib.hid (at_eq hwc HS3.out)
  have HU4 := Lib.hid (show Upd (S2 p g) w wc by rw [hwc]; exact HU3.out.drew)
  obtain ⟨⟨c0, c1, c2, -, -⟩, ⟨f0, f1, f2, -, -⟩, z1⟩ := blk5 HP4.out
  obtain ⟨⟨r0, r1⟩, ⟨s0, s1⟩, z2⟩ := blk2 HR4.out
  obtain ⟨⟨t0, t1⟩, -, z3⟩ := blk2 HS4.out
  have hk0 : (0 : Int) ≤ (k : Int) := by omega
  have hr0 : ¬ room = 0 := by omega
  have hs2 := IntWalk.i64_in (((n + 1 : Nat) : Int) - 1) (by omega)
  have m1 : ¬ w.heap.size = p := by omega
  have m2 : ¬ wa.heap.size = p := by have := lt_of_block HP.out; omega
  refine region_tail wc hwc.symm 14 (by kernel_rfl) (by kernel_rfl) ?_
  simp only [List.take_succ_cons, List.take_zero, List.drop_succ_cons, List.drop_zero]
  clear hwc
  repeat still_step
  refine wpStill_nil ?_
  go_wp2
  refine bodyPost_ret (v := .agg #[.int .u8 b, .int .i64 at']) (by simp [results, Try.results18, go_sem, *]) rfl ⟨rfl, ?_, ?_, ?_⟩
  · have e := setCell_ne (k := w.heap.size) (o := 1) (u := .int .i64 at') (setCell_ne (k := w.heap.size) (o := 0) (u := .int .u8 b) (setCell_at (o := 2) (u := .int .i64 n) (setCell_at (o := 1) (u := .int .i64 k) HP4.out)) (fun h => m1 h.symm)) (fun h => m1 h.symm)
    exact e
  · exact setCell_ne (setCell_ne (setCell_ne (setCell_ne HG4.out n2) n2) (fun h => ng1 h.symm)) (fun h => ng1 h.symm)
  · exact (((HU4.out.setCell (.inl (.inl rfl)) _).setCell (.inl (.inl rfl)) _).setCell (.inr (Nat.le_refl _)) _).setCell (.inr (Nat.le_refl _)) _
theorem isfull_any (w : World) (p g room n : Nat) (fi la lo : Value) (hp : w.heap[p]? = some (.cells #[.slice (some ⟨g, 0, none⟩) room room, fi, .int .i64 n, la, lo] 45 (0, 0))) :
    Calls Try.prog 19 #[.pointer (some ⟨p, 0, none⟩)] w fun e w' => e = .returned (.bool (decide (n = room))) ∧ Upd (fun _ => False) w w' := by
  obtain ⟨⟨c0, -, c2, -, -⟩, -, z0⟩ := blk5 hp
  clear hp
  go_enter Try.func19, Try.ntmps19
  go_wp2_with fail
  go_region
  go_wp2
  go_ret
  exact ⟨ret_bool (by rw [Bool.eq_iff_iff]; simp; omega), (Upd.refl _ _).drew⟩
theorem isempty_any (w : World) (p n : Nat) (pl fi la lo : Value) (hp : w.heap[p]? = some (.cells #[pl, fi, .int .i64 n, la, lo] 45 (0, 0))) :
    Calls Try.prog 17 #[.pointer (some ⟨p, 0, none⟩)] w fun e w' => e = .returned (.bool (decide (n = 0))) ∧ w = w' := by
  obtain ⟨⟨c0, -, c2, -, -⟩, -, z0⟩ := blk5 hp
  clear hp
  go_enter Try.func17, Try.ntmps17
  go_wp2
  go_ret
  exact ⟨ret_bool (by rw [Bool.eq_iff_iff]; simp), rfl⟩
theorem flen_any (w : World) (p : Nat) (pl fi n la lo : Value) (hp : w.heap[p]? = some (.cells #[pl, fi, n, la, lo] 45 (0, 0))) :
    Calls Try.prog 12 #[.pointer (some ⟨p, 0, none⟩)] w fun e w' => e = .returned n ∧ w = w' := by
  obtain ⟨⟨c0, -, c2, -, -⟩, -, z0⟩ := blk5 hp
  clear hp
  go_enter Try.func12, Try.ntmps12
  go_wp2
  go_ret
  exact ⟨rfl, rfl⟩
theorem flost_any (w : World) (p : Nat) (pl fi n la lo : Value) (hp : w.heap[p]? = some (.cells #[pl, fi, n, la, lo] 45 (0, 0))) :
    Calls Try.prog 13 #[.pointer (some ⟨p, 0, none⟩)] w fun e w' => e = .returned lo ∧ w = w' := by
  obtain ⟨⟨c0, -, c2, -, c4⟩, -, z0⟩ := blk5 hp
  clear hp
  go_enter Try.func13, Try.ntmps13
  go_wp2
  go_ret
  exact ⟨rfl, rfl⟩
theorem flen_nil (w : World) : Calls Try.prog 12 #[.pointer none] w fun e w' => e = .returned (.int .i64 0) ∧ w = w' := by
  go_enter Try.func12, Try.ntmps12
  go_wp2
  go_ret
  exact ⟨rfl, rfl⟩
theorem fpush_nil (b a : Int) (w : World) : Calls Try.prog 10 #[.pointer none, .int .u8 b, .int .i64 a] w fun e w' => e = .returned (.int .i64 8) ∧ w = w' := by
  go_enter Try.func10, Try.ntmps10
  go_wp2
  go_ret
  exact ⟨rfl, rfl⟩
theorem fpop_nil (w : World) : Calls Try.prog 8 #[.pointer none] w fun e w' => e = .returned (.tuple #[.agg #[.int .u8 0, .int .i64 0], .int .i64 8]) ∧ Below w.heap.size w w' := by
  go_enter Try.func8, Try.ntmps8
  go_wp2
  exact bodyPost_ret (v := .tuple #[.agg #[.int .u8 0, .int .i64 0], .int .i64 8]) (by simp [results, Try.results8, go_sem]) rfl ⟨rfl, (Below.refl _ _).alloc (Nat.le_refl _) _⟩
theorem Try.info31 : (Try.prog.info? 31).map (fun i => (i.zero, i.size, i.bytes)) = some (some (.agg #[.int .u8 0, .int .i64 0]), 2, 16) := by kernel_rfl
theorem newring_any (w : World) (n : Nat) (h : n ≤ 64) : Calls Try.prog 16 #[.int .i64 n] w fun e w' => e = .returned (.agg #[.slice (some ⟨w.heap.size + 1, 0, none⟩) n n, .int .i64 0, .int .i64 0]) ∧ w'.heap[w.heap.size + 1]? = some (.cells (madeCells #[.int .u8 0, .int .i64 0] (n * 2)) 31 (0, 0)) ∧ Below w.heap.size w w' := by
  obtain ⟨i0, hi, hz0, hz1, hz2⟩ := info_parts Try.info31
  have hmk := fun (wz : World) => run_make (P := Try.prog) wz 22 31 i0 _ Try.underlying22 hi hz0 .i64 .i64 (n : Int) (n : Int) (by omega) (by omega) (by rw [hz2]; omega) (by omega)
  simp only [Int.toNat_natCast, hz1] at hmk
  clear hi hz0 hz1 hz2
  have HC : Value.cells (.agg #[.int .u8 0, .int .i64 0]) = #[.int .u8 0, .int .i64 0] := rfl
  rw [HC] at hmk
  clear HC
  generalize madeCells #[.int .u8 0, .int .i64 0] (n * 2) = Z at *
  go_enter Try.func16, Try.ntmps16
  go_wp2
  refine bodyPost_ret (v := .agg #[.slice (some ⟨w.heap.size + 1, 0, none⟩) n n, .int .i64 0, .int .i64 0]) (by simp [results, Try.results16, go_sem]) rfl ⟨rfl, ?_, ?_⟩
  · have e := heap_alloc_new (w.alloc (.cells #[.slice (some ⟨w.heap.size + 1, 0, none⟩) n n, .int .i64 0, .int .i64 0] 42)) (.cells Z 31)
    rw [one_size] at e
    exact e
  · exact ((Below.refl _ _).alloc (Nat.le_refl _) _).alloc (by simp) _
/-- A fifo, plainly. -/
structure Fo where
  q : List (Int × Int)
  last : Int
  lost : Int
namespace Fo
def ok (s : Fo) : Prop := 0 ≤ s.last ∧ s.last ≤ 1073741824 ∧ 0 ≤ s.lost ∧ s.lost ≤ 100000
def pe (room : Nat) (s : Fo) (at' : Int) : Int := if at' < s.last ∨ 1073741824 < at' then 1 else if s.q.length = room then 5 else 0
def ps (room : Nat) (s : Fo) (b at' : Int) : Fo := if at' < s.last ∨ 1073741824 < at' then s else if s.q.length = room then ⟨s.q, at', s.lost + 1⟩ else ⟨s.q ++ [(b, at')], at', s.lost⟩
def oe (s : Fo) : Int := if s.q = [] then 6 else 0
def ov (s : Fo) : Int × Int := s.q.headD (0, 0)
def os (s : Fo) : Fo := ⟨s.q.tail, s.last, s.lost⟩
end Fo
/-- The places from `first` on, round and round, hold q. -/
def Ring (cur : Array Value) (room first : Nat) (q : List (Int × Int)) : Prop := ∀ i x, q[i]? = some x → cur[(first + i) % room * 2]? = some (.int .u8 x.1) ∧ cur[(first + i) % room * 2 + 1]? = some (.int .i64 x.2)
theorem mod_ne {room first i j : Nat} (hi : i < room) (hj : j < room) (hf : first < room) (hne : i ≠ j) : (first + i) % room ≠ (first + j) % room := by
  intro h
  have a := Nat.mod_lt (first + i) (show 0 < room by omega)
  rcases (show first + i < room ∨ room ≤ first + i by omega) with h1 | h1 <;> rcases (show first + j < room ∨ room ≤ first + j by omega) with h2 | h2
  · rw [Nat.mod_eq_of_lt h1, Nat.mod_eq_of_lt h2] at h; omega
  · rw [Nat.mod_eq_of_lt h1, Nat.mod_eq_sub_mod h2, Nat.mod_eq_of_lt (by omega)] at h; omega
  · rw [Nat.mod_eq_of_lt h2, Nat.mod_eq_sub_mod h1, Nat.mod_eq_of_lt (by omega)] at h; omega
  · rw [Nat.mod_eq_sub_mod h1, Nat.mod_eq_sub_mod h2, Nat.mod_eq_of_lt (by omega), Nat.mod_eq_of_lt (by omega)] at h; omega
theorem Ring.put {cur : Array Value} {room first : Nat} {q : List (Int × Int)} (h : Ring cur room first q) (hc : cur.size = room * 2) (hf : first < room) (hq : q.length < room) (b at' : Int) :
    Ring ((cur.setIfInBounds ((first + q.length) % room * 2) (.int .u8 b)).setIfInBounds ((first + q.length) % room * 2 + 1) (.int .i64 at')) room first (q ++ [(b, at')]) := by
  intro i x hx
  have hk := Nat.mod_lt (first + q.length) (show 0 < room by omega)
  rw [List.getElem?_append] at hx
  split at hx
  · rename_i hi
    obtain ⟨h1, h2⟩ := h i x hx
    have hne := mod_ne (show i < room by omega) hq hf (show i ≠ q.length by omega)
    rw [Array.getElem?_setIfInBounds_ne (by omega), Array.getElem?_setIfInBounds_ne (by omega), Array.getElem?_setIfInBounds_ne (by omega), Array.getElem?_setIfInBounds_ne (by omega)]
    exact ⟨h1, h2⟩
  · rename_i hi
    obtain rfl : i = q.length := by
      have := (List.getElem?_eq_some_iff.1 hx).1
      simp at this; omega
    simp at hx
    subst hx
    rw [Array.getElem?_setIfInBounds_ne (by omega), Array.getElem?_setIfInBounds_self_of_lt (by omega), Array.getElem?_setIfInBounds_self_of_lt (by simp; omega)]
    exact ⟨rfl, rfl⟩
theorem Ring.take {cur : Array Value} {room first : Nat} {x : Int × Int} {q : List (Int × Int)} (h : Ring cur room first (x :: q)) (hc : cur.size = room * 2) (hf : first < room) (hq : q.length < room) : Ring (cleared cur first) room ((first + 1) % room) q := by
  intro i y hy
  have hi := (List.getElem?_eq_some_iff.1 hy).1
  obtain ⟨h1, h2⟩ := h (i + 1) y (by simpa using hy)
  have e : ((first + 1) % room + i) % room = (first + (i + 1)) % room := by rw [Nat.mod_add_mod]; congr 1; omega
  have hne : (first + (i + 1)) % room ≠ first := fun h => mod_ne (show i + 1 < room by omega) (show 0 < room by omega) hf (show i + 1 ≠ 0 by omega) (by rw [h, Nat.add_zero, Nat.mod_eq_of_lt hf])
  have hk := Nat.mod_lt (first + (i + 1)) (show 0 < room by omega)
  rw [e]
  unfold cleared
  rw [Array.getElem?_setIfInBounds_ne (by omega), Array.getElem?_setIfInBounds_ne (by omega), Array.getElem?_setIfInBounds_ne (by omega), Array.getElem?_setIfInBounds_ne (by omega)]
  exact ⟨h1, h2⟩
/-- A fifo in memory. -/
def Fi (w : World) (p g room : Nat) (s : Fo) : Prop := ∃ first cur, w.heap[p]? = some (.cells #[.slice (some ⟨g, 0, none⟩) room room, .int .i64 (first : Nat), .int .i64 s.q.length, .int .i64 s.last, .int .i64 s.lost] 45 (0, 0)) ∧
  w.heap[g]? = some (.cells cur 31 (0, 0)) ∧ cur.size = room * 2 ∧ p ≠ g ∧ first < room ∧ s.q.length ≤ room ∧ room ≤ 64 ∧ Ring cur room first s.q
theorem Fi.keep {S : Nat → Prop} {w w' : World} {p g room : Nat} {s : Fo} (h : Fi w p g room s) (hU : Upd S w w') (h1 : ¬ S p) (h2 : ¬ S g) : Fi w' p g room s := by
  obtain ⟨first, cur, hp, hg, r⟩ := h
  exact ⟨first, cur, hU.keep hp h1, hU.keep hg h2, r⟩
theorem fnew_no (w : World) (n : Int) (h : n < 1 ∨ 64 < n) : Calls Try.prog 6 #[.int .i64 n] w fun e w' => e = .returned (.tuple #[.pointer none, .int .i64 4]) ∧ w = w' := by
  by_cases h1 : n < 1
  · go_enter Try.func6, Try.ntmps6
    go_wp2
    go_ret2
    exact ⟨rfl, rfl⟩
  · have h2 : 64 < n := by omega
    go_enter Try.func6, Try.ntmps6
    go_wp2
    go_ret2
    exact ⟨rfl, rfl⟩
theorem fnew_yes (w : World) (n : Nat) (h1 : 1 ≤ n) (h2 : n ≤ 64) : Calls Try.prog 6 #[.int .i64 n] w fun e w' => ∃ p g, e = .returned (.tuple #[.pointer (some ⟨p, 0, none⟩), .int .i64 0]) ∧ w.heap.size ≤ p ∧ w.heap.size ≤ g ∧ Fi w' p g n ⟨[], 0, 0⟩ ∧ Below w.heap.size w w' := by
  have h3 : ¬ ((n : Int) < 1) := by omega
  have h4 : ¬ (64 < (n : Int)) := by omega
  go_enter Try.func6, Try.ntmps6
  go_wp2_with fail
  refine (newring_any _ n h2).mono ?_
  rintro e w1 ⟨rfl, hg, hb⟩
  have HG := Lib.hid hg
  have HB := Lib.hid hb
  clear hg hb
  go_wp2
  go_ret2
  refine ⟨w1.heap.size, w.heap.size + 1, rfl, HB.out.size, by omega, ⟨0, _, heap_alloc_new w1 _, carryA _ HG.out, by simp [madeCells], ?_, h1, by simp, h2, fun i x hx => by simp at hx⟩, HB.out.alloc HB.out.size _⟩
  have := lt_of_block HG.out
  omega
set_option maxHeartbeats 4000000 in
theorem fpush_any (w : World) (p g room : Nat) (s : Fo) (hs : s.ok) (b at' : Int) (hi : Fi w p g room s) : Calls Try.prog 10 #[.pointer (some ⟨p, 0, none⟩), .int .u8 b, .int .i64 at'] w fun e w' => e = .returned (.int .i64 (s.pe room at')) ∧ Fi w' p g room (s.ps room b at') ∧ Upd (S2 p g) w w' := by
  obtain ⟨q, last, lost⟩ := s
  obtain ⟨first, cur, hp, hg, hc, hpg, hf, hq, hr, ring⟩ := hi
  obtain ⟨o1, o2, o3, o4⟩ := hs
  dsimp only at hp hq ring o1 o2 o3 o4
  have HI := Lib.hid (show Fi w p g room ⟨q, last, lost⟩ from ⟨first, cur, hp, hg, hc, hpg, hf, hq, hr, ring⟩)
  obtain ⟨⟨c0, c1, c2, c3, c4⟩, ⟨f0, f1, f2, f3, f4⟩, z0⟩ := blk5 hp
  by_cases h1 : at' < last ∨ 1073741824 < at'
  · have e1 : Fo.pe room ⟨q, last, lost⟩ at' = 1 := if_pos h1
    have e2 : Fo.ps room ⟨q, last, lost⟩ b at' = ⟨q, last, lost⟩ := if_pos h1
    rw [e1, e2]
    clear hp hg hc ring e1 e2
    by_cases h2 : at' < last
    · clear h1
      go_enter Try.func10, Try.ntmps10
      go_wp2
      go_ret
      exact ⟨rfl, HI.out, Upd.refl _ _⟩
    · have h3 : 1073741824 < at' := by omega
      clear h1
      go_enter Try.func10, Try.ntmps10
      go_wp2
      go_ret
      exact ⟨rfl, HI.out, Upd.refl _ _⟩
  · have h2 : ¬ at' < last := by omega
    have h3 : ¬ 1073741824 < at' := by omega
    have hp1 := setCell_at (o := 3) (u := .int .i64 at') hp
    have hg1 := setCell_ne (k := p) (o := 3) (u := .int .i64 at') hg (fun h => hpg h.symm)
    have hu1 : Upd (S2 p g) w (w.setCell ⟨p, 3, none⟩ (.int .i64 at')) := (Upd.refl _ _).setCell (.inl (.inl rfl)) _
    have HP1 := Lib.hid hp1
    have HG1 := Lib.hid hg1
    have HU1 := Lib.hid hu1
    have HR := Lib.hid ring
    have HC := Lib.hid hc
    have HN := Lib.hid hpg
    by_cases hl : q.length = room
    · have e1 : Fo.pe room ⟨q, last, lost⟩ at' = 5 := by unfold Fo.pe; rw [if_neg h1, if_pos hl]
      have e2 : Fo.ps room ⟨q, last, lost⟩ b at' = ⟨q, at', lost + 1⟩ := by unfold Fo.ps; rw [if_neg h1, if_pos hl]
      rw [e1, e2]
      have HL := Lib.hid hl
      have HQ := Lib.hid hq
      clear hp hg hc ring e1 e2 hp1 hg1 hu1 hl h1 hpg hq
      go_enter Try.func10, Try.ntmps10
      go_wp2_with fail
      refine (isfull_any _ p g room q.length _ _ _ HP1.out).mono ?_
      rintro e w1 ⟨rfl, hu⟩
      rw [decide_eq_true HL.out]
      have HP2 := Lib.hid (hu.keep HP1.out (fun h => h))
      have HG2 := Lib.hid (hu.keep HG1.out (fun h => h))
      have HU2 := Lib.hid (HU1.out.trans (hu.mono fun k h => h.elim))
      clear hu c0 c1 c2 c3 c4 f0 f1 f2 f3 f4 z0
      obtain ⟨⟨c0, c1, c2, c3, c4⟩, ⟨f0, f1, f2, f3, f4⟩, z0⟩ := blk5 HP2.out
      have hs2 := IntWalk.i64_in (lost + 1) (by omega)
      go_wp2
      go_ret
      exact ⟨rfl, ⟨first, cur, setCell_at HP2.out, setCell_ne HG2.out (fun h => HN.out h.symm), HC.out, HN.out, hf, HQ.out, hr, HR.out⟩, HU2.out.setCell (.inl (.inl rfl)) _⟩
    · have e1 : Fo.pe room ⟨q, last, lost⟩ at' = 0 := by unfold Fo.pe; rw [if_neg h1, if_neg hl]
      have e2 : Fo.ps room ⟨q, last, lost⟩ b at' = ⟨q ++ [(b, at')], at', lost⟩ := by unfold Fo.ps; rw [if_neg h1, if_neg hl]
      rw [e1, e2]
      have HL := Lib.hid hl
      have hq1 : q.length < room := by omega
      clear hp hg hc ring e1 e2 hp1 hg1 hu1 hl h1 hpg hq
      go_enter Try.func10, Try.ntmps10
      go_wp2_with fail
      refine (isfull_any _ p g room q.length _ _ _ HP1.out).mono ?_
      rintro e w1 ⟨rfl, hu⟩
      rw [decide_eq_false HL.out]
      have HP2 := Lib.hid (hu.keep HP1.out (fun h => h))
      have HG2 := Lib.hid (hu.keep HG1.out (fun h => h))
      have HU2 := Lib.hid (HU1.out.trans (hu.mono fun k h => h.elim))
      clear hu c0 c1 c2 c3 c4 f0 f1 f2 f3 f4 z0
      obtain ⟨⟨c0, c1, c2, c3, c4⟩, ⟨f0, f1, f2, f3, f4⟩, z0⟩ := blk5 HP2.out
      go_wp2_with fail
      refine (put_any _ p g room first q.length b at' _ _ cur HP2.out HG2.out HC.out HN.out hf hq1 hr).mono ?_
      rintro e w2 ⟨rfl, hp3, hg3, hu3⟩
      have HP3 := Lib.hid hp3
      have HG3 := Lib.hid hg3
      have HU3 := Lib.hid (HU2.out.trans hu3)
      clear hp3 hg3 hu3 c0 c1 c2 c3 c4 f0 f1 f2 f3 f4 z0
      go_wp2
      go_ret
      exact ⟨rfl, ⟨first, _, by simpa using HP3.out, HG3.out, by simp [HC.out], HN.out, hf, by simp; omega, hr, HR.out.put HC.out hf hq1 b at'⟩, HU3.out⟩
end Go.Proofs.Ytclojdpnllnjfaa
