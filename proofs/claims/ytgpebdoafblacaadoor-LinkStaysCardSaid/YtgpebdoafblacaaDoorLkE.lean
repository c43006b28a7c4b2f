/- Links: what is sent. -/
import Derived.Test.YtgpebdoafblacaaDoorLkC
import Derived.Test.YtgpebdoafblacaaDoorVtL
import Derived.BigGuardPart
import Derived.BigQuiet
import Derived.Deep.QuietTactic
import Derived.Deep.RegionHeld3
set_option linter.unusedVariables false
namespace Go.Proofs.YtgpebdoafblacaaDoor
open Go.RowKit Gl L Vt Lk
theorem costL_sing (c : Cmd) : costL [c] = szC c := by rw [costL_cons]; rfl
theorem padL_sing (c : Cmd) : padL [c] = pdC c := by show pdC c + 0 = pdC c; omega
set_option maxRecDepth 100000 in
set_option maxHeartbeats 8000000 in
theorem behind_any (room sent pad : Int) (off : Bool) (k a b r : Int) (t : List Cmd) (A : Option Addr) (cap : Nat) (w : World) (F : Forms w 0) (hr : Rk w (.slice A (t.length + 1) cap) ((k, a, b, r) :: t)) (hl : t.length + 1 ≤ 100000) :
    Calls Tryd.prog 39 #[.agg #[.int .i64 room, .slice A (t.length + 1) cap, .int .i64 sent, .int .i64 pad, .bool off]] w fun e w' => (∃ o, e = .returned (.agg #[.int .i64 room, .slice o t.length t.length, .int .i64 0, .int .i64 (pdC (k, a, b, r)), .bool off]) ∧ ∀ W0, Rk W0 (.slice A (t.length + 1) cap) ((k, a, b, r) :: t) → Rk W0 (.slice o t.length t.length) t) ∧ Below w.heap.size w w' := by
  have V := Lib.hid (((La.start w).box #[.int .i64 room, .slice A (t.length + 1) cap, .int .i64 sent, .int .i64 pad, .bool off] 24).box #[.int .i64 0, .slice none 0 0, .int .i64 0, .int .i64 0, .bool false] 24)
  obtain ⟨-, hcap, g, o, rfl, e0, e1, e2, e3⟩ := hr.cells
  have hg := World.block_lt_of_cell? w _ e0
  have hcap1 : (t.length : Int) + 1 ≤ (cap : Int) := by omega
  have HP := Lib.hid (fun wz hb u hu => vpads_any u [(k, a, b, r)] wz (F.below (w' := wz) hb) hu (by simp))
  have HR := Lib.hid hr
  have HPD := Lib.hid (padL_sing (k, a, b, r))
  have hbl : Below w.heap.size w ((((w.alloc (.cells #[.int .i64 room, .slice (some ⟨g, o, none⟩) (t.length + 1) cap, .int .i64 sent, .int .i64 pad, .bool off] 24)).alloc (.cells #[.int .i64 0, .slice none 0 0, .int .i64 0, .int .i64 0, .bool false] 24))).alloc (.cells #[.int .i64 k, .int .i64 a, .int .i64 b, .int .i32 r] 26)) := V.out.below.alloc V.out.below.size _
  have HBL := Lib.hid hbl
  clear hbl F hr
  cases t with
  | nil =>
    simp only [List.length_nil, Nat.zero_add] at *
    go_enter Tryd.func39, Tryd.ntmps39
    go_wp2_with fail
    refine (HP.out _ HBL.out _ (Rk.oneAt (heap_alloc_new2 _ _ _ _)).rw).mono ?_
    rintro e w1 ⟨rfl, hb⟩
    rw [HPD.out]
    replace V := Lib.hid ((V.out.make _).call hb)
    clear hb e0 e1 e2 e3
    have g0 := V.out.at 0 rfl
    have g1 := V.out.at 1 rfl
    rw [one_size] at g0
    obtain ⟨⟨c0, c1, c2', c3, c4⟩, ⟨f0, f1, f2, f3, f4⟩, hz⟩ := blk5 g1
    obtain ⟨⟨d0, d1, d2, d3, d4⟩, ⟨k0, k1, k2, k3, k4⟩, hz2⟩ := blk5 g0
    clear g0 g1
    generalize hpd : pdC (k, a, b, r) = pd at *
    have HPE := Lib.hid hpd
    clear hpd
    go_wp2
    refine bodyPost_ret (v := .agg #[.int .i64 room, .slice (some ⟨g, o, none⟩) 0 0, .int .i64 0, .int .i64 pd, .bool off]) (by simp [results, Tryd.results39, go_sem, *]) rfl (and_below ?_ fun hB => ?_)
    · repeat (first | (with_reducible exact V.out.below) | refine Below.setCell ?_ (by simp <;> omega) _)
    · exact ⟨_, by rw [HPE.out], fun W0 h0 => Rk.nil _ _ _ (by simp)⟩
  | cons c2 t2 =>
    simp only [List.length_cons] at *
    go_enter Tryd.func39, Tryd.ntmps39
    go_wp2_with fail
    refine (HP.out _ HBL.out _ (Rk.oneAt (heap_alloc_new2 _ _ _ _)).rw).mono ?_
    rintro e w1 ⟨rfl, hb⟩
    rw [HPD.out]
    replace V := Lib.hid ((V.out.make _).call hb)
    clear hb e0 e1 e2 e3
    have g0 := V.out.at 0 rfl
    have g1 := V.out.at 1 rfl
    rw [one_size] at g0
    obtain ⟨⟨c0, c1, c2', c3, c4⟩, ⟨f0, f1, f2, f3, f4⟩, hz⟩ := blk5 g1
    obtain ⟨⟨d0, d1, d2, d3, d4⟩, ⟨k0, k1, k2, k3, k4⟩, hz2⟩ := blk5 g0
    clear g0 g1
    generalize hpd : pdC (k, a, b, r) = pd at *
    have HPE := Lib.hid hpd
    clear hpd
    go_wp2
    refine bodyPost_ret (v := .agg #[.int .i64 room, .slice (some ⟨g, o + 4, none⟩) (t2.length + 1) (t2.length + 1), .int .i64 0, .int .i64 pd, .bool off]) (by simp [results, Tryd.results39, go_sem, *]) rfl (and_below ?_ fun hB => ?_)
    · repeat (first | (with_reducible exact V.out.below) | refine Below.setCell ?_ (by simp <;> omega) _)
    · exact ⟨_, by rw [HPE.out], fun W0 h0 => h0.tail _ (Nat.le_refl _)⟩
end Go.Proofs.YtgpebdoafblacaaDoor
