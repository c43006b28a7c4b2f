/- The program's Feed of a terminal. -/
import Derived.Test.YtkkioajmfkcloaaDoorMTe
import Derived.Test.YtkkioajmfkcloaaDoorSdE
set_option linter.unusedVariables false
namespace Go.Proofs.YtkkioajmfkcloaaDoor
open Go.RowKit Gl L Wd Gd Tm Vt
/-- What Feed tells. -/
def FO (B : Nat) (vi : Value) (li : List (Int × Int)) (w' : World) (e : Ending) (t : Trm) (s : ByteArray) : Prop :=
  (¬ rt t ∧ e = .returned (.tuple #[zt, .string ⟨#[]⟩, .int .i64 1])) ∨ (rt t ∧ AllBad s ∧ e = .returned (.tuple #[zt, .string ⟨#[]⟩, .int .i64 2])) ∨
  ∃ m r v, rt t ∧ AllR s m r ∧ e = .returned (.tuple #[tv (feedT t m) v, .string r, .int .i64 0]) ∧ Kp B vi li w' v (feedT t m).l
theorem Rw.off {w : World} {g n cap sz m : Nat} {xs : List Value} (h : Rw w (.slice (some ⟨g, 0, none⟩) n cap) sz m xs) (b o : Nat) (u : Value) (hb : g ≠ b) : Rw (w.setCell ⟨b, o, none⟩ u) (.slice (some ⟨g, 0, none⟩) n cap) sz m xs := by
  obtain ⟨h1, A, cap', e, h⟩ := h
  refine ⟨h1, A, cap', e, ?_⟩
  rcases h with h | ⟨b', off, rfl, hc⟩
  · exact .inl h
  · refine .inr ⟨b', off, rfl, fun j u' hu => ?_⟩
    cases e
    have h2 := hc j u' hu
    rw [World.cell?_setCell_other _ _ _ _ (by simp)]
    exact h2
theorem feed_next (t : Trm) (m : List Cmd) (k : Nat) (hk : k < m.length) : feedT t (m.take (k + 1)) = doT (feedT t (m.take k)) (m.getD k d0) := by
  rw [List.take_add_one, List.getElem?_eq_getElem hk, feed_append]
  simp [feedT, List.getD, hk]
theorem getD_mem {m : List Cmd} {k : Nat} (hk : k < m.length) : m.getD k d0 ∈ m := by simp [List.getD, hk]
theorem feed_at {t : Trm} (h : rt t) {m : List Cmd} (hm : ∀ c ∈ m, isR c = true) (k : Nat) : rt (feedT t (m.take k)) := feed_rt h _ fun c hc => hm c (List.mem_of_mem_take hc)
set_option maxHeartbeats 8000000 in
theorem tfeed_any (gw gh x y : Int) (k : Bool) (l : List (Int × Int)) (s : ByteArray) (A : Option Addr) (cap : Nat) (W : World) (hv : Rc W (.slice A l.length cap) l) (hm : l.length ≤ maxLen) (hg : gw ≤ 9223372036854775807) (hs : s.size ≤ 2000000) (S : Spans W 2) (T : Blk W 0) (U : Tabs W 3 4) :
    Calls Tryd.prog 20 #[.agg #[.int .i64 gw, .int .i64 gh, .slice A l.length cap, .int .i64 x, .int .i64 y, .bool k], .string s] W fun e w' => FO W.heap.size (.slice A l.length cap) l w' e ⟨gw, gh, l, x, y, k⟩ s ∧ Below W.heap.size W w' := by
  have hb0 : Below W.heap.size W ((W.alloc (.cells #[.int .i64 gw, .int .i64 gh, .slice A l.length cap, .int .i64 x, .int .i64 y, .bool k] 26)).alloc (.cells #[.int .i64 0, .int .i64 0, .slice none 0 0, .int .i64 0, .int .i64 0, .bool false] 26)) := ((Below.refl _ _).alloc (Nat.le_refl _) _).alloc (by simp) _
  have HV0 := Lib.hid hv
  have hz3 : ((W.alloc (.cells #[.int .i64 gw, .int .i64 gh, .slice A l.length cap, .int .i64 x, .int .i64 y, .bool k] 26)).alloc (.cells #[.int .i64 0, .int .i64 0, .slice none 0 0, .int .i64 0, .int .i64 0, .bool false] 26)).heap.size = W.heap.size + 1 + 1 := by simp
  have G0 := Lib.hid (carryA (.cells #[.int .i64 0, .int .i64 0, .slice none 0 0, .int .i64 0, .int .i64 0, .bool false] 26) (heap_alloc_new W (.cells #[.int .i64 gw, .int .i64 gh, .slice A l.length cap, .int .i64 x, .int .i64 y, .bool k] 26)))
  have G2 := Lib.hid (heap_alloc_new (W.alloc (.cells #[.int .i64 gw, .int .i64 gh, .slice A l.length cap, .int .i64 x, .int .i64 y, .bool k] 26)) (.cells #[.int .i64 0, .int .i64 0, .slice none 0 0, .int .i64 0, .int .i64 0, .bool false] 26))
  rw [show (W.alloc (.cells #[.int .i64 gw, .int .i64 gh, .slice A l.length cap, .int .i64 x, .int .i64 y, .bool k] 26)).heap.size = W.heap.size + 1 by simp] at G2
  have HT := Lib.hid (fun (w' : World) hb => T.below (w' := w') hb)
  have HSP := Lib.hid (fun (w' : World) hb => S.below (w' := w') hb)
  have HUT := Lib.hid (fun (w' : World) hb => U.below (w' := w') hb)
  have HM := Lib.hid hm
  clear hv T S U hm
  by_cases hr : rt ⟨gw, gh, l, x, y, k⟩
  case neg =>
    have HR := Lib.hid hr
    clear hr
    go_enter Tryd.func20, Tryd.ntmps20
    go_wp2_with fail
    refine (tis_any gw gh x y k l A cap _ (HV0.out.below hb0) HM.out hg (HSP.out _ hb0)).mono ?_
    rintro e w1 ⟨rfl, hw1⟩
    rw [decide_eq_false HR.out]
    have HB1 := Lib.hid (hb0.trans (hw1.mono hb0.size))
    have g2 := carry hw1 G2.out
    obtain ⟨⟨k0, k1, k2, k3, k4, k5⟩, ⟨e0, e1, e2, e3, e4, e5⟩, z2⟩ := blk6 g2
    clear g2 hw1 hb0 hz3
    go_wp2
    refine bodyPost_ret (v := .tuple #[.agg #[.int .i64 0, .int .i64 0, .slice none 0 0, .int .i64 0, .int .i64 0, .bool false], .string ⟨#[]⟩, .int .i64 1]) (by simp [results, Tryd.results20, go_sem, *]) rfl ⟨.inl ⟨HR.out, rfl⟩, ?_⟩
    repeat (first | (with_reducible exact HB1.out) | refine Below.setCell ?_ (by simp) _)
  have HR := Lib.hid hr
  clear hr
  go_enter Tryd.func20, Tryd.ntmps20
  go_wp2_with fail
  refine (tis_any gw gh x y k l A cap _ (HV0.out.below hb0) HM.out hg (HSP.out _ hb0)).mono ?_
  rintro e w1 ⟨rfl, hw1⟩
  rw [decide_eq_true HR.out]
  have hB1 := hb0.trans (hw1.mono hb0.size)
  have K0 := Lib.hid (carry hw1 G0.out)
  have K2 := Lib.hid (carry hw1 G2.out)
  have hz1 : W.heap.size + 1 + 1 ≤ w1.heap.size := by have := hw1.size; rw [hz3] at this; exact this
  clear hw1 hb0 hz3
  go_wp2_with fail
  refine (sall_any s _ (HUT.out _ hB1) hs).mono ?_
  rintro e w2 ho
  rcases ho with ⟨hbad, rfl, hw2⟩ | ⟨m, r, v, hall, rfl, hrow, hw2, hform⟩
  · have HB2 := Lib.hid (hB1.trans (hw2.mono hB1.size))
    have HBAD := Lib.hid hbad
    have g2 := carry hw2 K2.out
    obtain ⟨⟨k0, k1, k2, k3, k4, k5⟩, ⟨e0, e1, e2, e3, e4, e5⟩, z2⟩ := blk6 g2
    clear g2 hB1 hw2 hbad
    go_wp2
    refine bodyPost_ret (v := .tuple #[.agg #[.int .i64 0, .int .i64 0, .slice none 0 0, .int .i64 0, .int .i64 0, .bool false], .string ⟨#[]⟩, .int .i64 2]) (by simp [results, Tryd.results20, go_sem, *]) rfl ⟨.inr (.inl ⟨HR.out, HBAD.out, rfl⟩), ?_⟩
    repeat (first | (with_reducible exact HB2.out) | refine Below.setCell ?_ (by simp) _)
  have hB2 := hB1.trans (hw2.mono hB1.size)
  have L0 := Lib.hid (carry hw2 K0.out)
  have L2 := Lib.hid (carry hw2 K2.out)
  have hz2 : W.heap.size + 1 + 1 ≤ w2.heap.size := by have := hw2.size; omega
  have HALL := Lib.hid hall
  have hlen : m.length ≤ 2000000 := by
    have h1 := btsL_one m hall.1
    have h2 := congrArg ByteArray.size hall.2.1
    rw [size_app] at h2
    omega
  have HFM := Lib.hid (show ∃ A' cap', v = .slice A' m.length cap' ∧ (0 < m.length → ∃ g, A' = some ⟨g, 0, none⟩ ∧ g ≠ W.heap.size) by
    rcases hform with ⟨rfl, h0⟩ | ⟨g, cap', rfl, -⟩
    · exact ⟨none, 0, by rw [h0], fun h => by omega⟩
    · refine ⟨_, cap', rfl, fun h => ⟨g, rfl, fun e => ?_⟩⟩
      obtain ⟨A', c', e', hc⟩ := cmds_row hrow
      rcases hc with hc | ⟨g', off, rfl, hc⟩
      · omega
      · cases e'
        have h2 := (hc 0 h).2.2.1
        have h3 := (blk6 (carry hw2 K0.out)).1.2.2.1
        rw [e] at h2
        simp only [Nat.zero_mul, Nat.zero_add] at h2
        rw [h3] at h2
        cases h2)
  clear hform
  obtain ⟨A', cap', rfl, hform⟩ := HFM.out
  have HFORM := Lib.hid hform
  have HRW := Lib.hid hrow
  clear hrow hw2 hall hform HFM hB1
  go_wp2
  go_loopw [28] (fun i wr => ∃ (j : Nat) (u : Trm) (A1 : Option Addr) (cap1 : Nat), j ≤ m.length ∧ i = .int .i64 j ∧ u = feedT ⟨gw, gh, l, x, y, k⟩ (m.take j) ∧ wr.heap[W.heap.size]? = some (.cells #[.int .i64 u.w, .int .i64 u.h, .slice A1 u.l.length cap1, .int .i64 u.x, .int .i64 u.y, .bool u.k] 26 (0, 0)) ∧ wr.heap[W.heap.size + 1]? = some (.cells #[.int .i64 0, .int .i64 0, .slice none 0 0, .int .i64 0, .int .i64 0, .bool false] 26 (0, 0)) ∧ Kp (W.heap.size + 1 + 1) (.slice A l.length cap) l wr (.slice A1 u.l.length cap1) u.l ∧ Rw wr (.slice A' m.length cap') 4 m.length (flatC m) ∧ W.heap.size + 1 + 1 ≤ wr.heap.size ∧ Below W.heap.size W wr) (fun i _ => m.length - (intOf i).toNat)
  case atStart => exact ⟨0, ⟨gw, gh, l, x, y, k⟩, A, cap, Nat.zero_le _, rfl, rfl, L0.out, L2.out, Kp.same, HRW.out, hz2, hB2⟩
  case round =>
    clear HRW L0 L2 hB2 hz2 K0 K2
    obtain ⟨j, u, A1, cap1, hj, rfl, hu, hg0, hg2, hk, hrw, hzr, hBr⟩ := hrel
    have J0 := Lib.hid hg0
    have J2 := Lib.hid hg2
    by_cases hlt : j < m.length
    · obtain ⟨g, rfl, hgn⟩ := HFORM.out (by omega)
      have HGN := Lib.hid hgn
      clear hgn
      have HRW := Lib.hid hrw
      have hcr : isR (m.getD j d0) = true := HALL.out.1 _ (getD_mem hlt)
      have hru : rt u := by rw [hu]; exact feed_at HR.out HALL.out.1 j
      have HNX := Lib.hid (show feedT ⟨gw, gh, l, x, y, k⟩ (m.take (j + 1)) = doT u (m.getD j d0) by rw [hu]; exact feed_next _ m j hlt)
      obtain ⟨A2, c2, e2, hc⟩ := cmds_row hrw
      rcases hc with hc | ⟨g', off, hge, hc⟩
      · omega
      cases e2
      cases hge
      obtain ⟨q0, q1, q2, q3⟩ := hc j hlt
      simp only [Nat.zero_add] at q0 q1 q2 q3
      have hgl : g < wr.heap.size := World.block_lt_of_cell? wr _ q0
      have HK := Lib.hid hk
      have HCR := Lib.hid hcr
      have HRU := Lib.hid hru
      unfold cK at q0
      unfold cA at q1
      unfold cB at q2
      unfold cR at q3
      generalize hcm : m.getD j d0 = c at *
      obtain ⟨ck, ca, cb, cr⟩ := c
      simp only at q0 q1 q2 q3
      obtain ⟨uw, uh, ul, ux, uy, uk⟩ := u
      simp only at J0 HK hg0
      obtain ⟨⟨c0, c1, c2, c3, c4, c5⟩, ⟨f0, f1, f2, f3, f4, f5⟩, z0⟩ := blk6 hg0
      have HBr := Lib.hid hBr
      have hBa : Below W.heap.size W (wr.alloc (.cells #[.int .i64 ck, .int .i64 ca, .int .i64 cb, .int .i32 cr] 36)) := hBr.alloc (by omega) _
      have HU := Lib.hid hu
      clear hg0 hg2 hk hrw hu hcr hru hc hcm
      go_wp2_with fail
      refine (after_any uw uh ux uy ck ca cb cr uk ul HRU.out HCR.out A1 cap1 _ ((HK.out.rc (HV0.out.below HBr.out)).alloc _) (HSP.out _ hBa) (HT.out _ hBa)).mono ?_
      rintro e w3 ⟨ho, hw3⟩
      obtain ⟨v2, hv2⟩ : ∃ v2 : Trm, doT ⟨uw, uh, ul, ux, uy, uk⟩ (ck, ca, cb, cr) = v2 := ⟨_, rfl⟩
      rw [hv2] at ho
      rw [hv2] at HNX
      have hB3 := hBa.trans (hw3.mono hBa.size)
      obtain ⟨A3, cap3, rfl, hk3⟩ := ho.op (((HK.out.rc (HV0.out.below HBr.out)).alloc _).below hw3)
      have M0 := Lib.hid (carry hw3 (carryA (.cells #[.int .i64 ck, .int .i64 ca, .int .i64 cb, .int .i32 cr] 36) J0.out))
      have M2 := Lib.hid (carry hw3 (carryA (.cells #[.int .i64 ck, .int .i64 ca, .int .i64 cb, .int .i32 cr] 36) J2.out))
      have HK3 := Lib.hid ((HK.out.alloc (.cells #[.int .i64 ck, .int .i64 ca, .int .i64 cb, .int .i32 cr] 36)).trans hk3 hw3 (by simp; omega))
      have HRW3 := Lib.hid ((HRW.out.alloc (.cells #[.int .i64 ck, .int .i64 ca, .int .i64 cb, .int .i32 cr] 36)).below hw3)
      have hz3 : W.heap.size + 1 + 1 ≤ w3.heap.size := by have := hw3.size; simp at this; omega
      have HB3 := Lib.hid hB3
      clear hk3 ho hw3 hB3 hBr hBa hv2 c0 c1 c2 c3 c4 c5 f0 f1 f2 f3 f4 f5 z0 q0 q1 q2 q3 hgl hzr
      obtain ⟨⟨c0, c1, c2, c3, c4, c5⟩, ⟨f0, f1, f2, f3, f4, f5⟩, z0⟩ := blk6 M0.out
      obtain ⟨vw, vh, vl, vx, vy, vk⟩ := v2
      go_wp2
      go_roundw
      case rel =>
        refine ⟨j + 1, ⟨vw, vh, vl, vx, vy, vk⟩, A3, cap3, by omega, by go_num, HNX.out.symm, set6 M0.out _ _ _ _ _ _, other6 M2.out (by omega) _ _ _ _ _ _, ?_, ?_, by simp; omega, ?_⟩
        · have HO' := HK3.out
          repeat (first | (with_reducible exact HO') | refine Kp.set1 ?_ _ _ _ (by omega))
        · have HO' := HRW3.out
          repeat (first | (with_reducible exact HO') | refine Rw.off ?_ _ _ _ HGN.out)
        · repeat (first | (with_reducible exact HB3.out) | refine Below.setCell ?_ (by simp) _)
      case measure => simp [intOf]; omega
    · obtain rfl : j = m.length := by omega
      rw [List.take_length] at hu
      have HU := Lib.hid hu
      have HK := Lib.hid hk
      have HBr := Lib.hid hBr
      obtain ⟨uw, uh, ul, ux, uy, uk⟩ := u
      simp only at hg0 HK
      obtain ⟨⟨c0, c1, c2, c3, c4, c5⟩, ⟨f0, f1, f2, f3, f4, f5⟩, z0⟩ := blk6 hg0
      obtain ⟨⟨k0, k1, k2, k3, k4, k5⟩, ⟨e0, e1, e2, e3, e4, e5⟩, z2⟩ := blk6 hg2
      clear hg0 hg2 hk hrw hu hBr hlt
      go_wp2
      refine bodyPost_ret (v := .tuple #[.agg #[.int .i64 uw, .int .i64 uh, .slice A1 ul.length cap1, .int .i64 ux, .int .i64 uy, .bool uk], .string r, .int .i64 0]) (by simp [results, Tryd.results20, go_sem, *]) rfl ⟨.inr (.inr ⟨m, r, .slice A1 ul.length cap1, HR.out, HALL.out, by rw [← HU.out]; rfl, ?_⟩), ?_⟩
      · rw [← HU.out]
        refine Kp.mono (B := W.heap.size + 1 + 1) ?_ (by omega)
        have HO' := HK.out
        repeat (first | (with_reducible exact HO') | refine Kp.set1 ?_ _ _ _ (by omega))
      · repeat (first | (with_reducible exact HBr.out) | refine Below.setCell ?_ (by simp) _)
end Go.Proofs.YtkkioajmfkcloaaDoor
