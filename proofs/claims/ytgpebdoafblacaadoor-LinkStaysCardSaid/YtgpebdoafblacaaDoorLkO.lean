/- Links: Offer. -/
import Derived.Test.YtgpebdoafblacaaDoorLkC
import Derived.Test.YtgpebdoafblacaaDoorAnT
import Derived.Test.YtgpebdoafblacaaDoorVtL
import Derived.BigGuardPart
import Derived.BigQuiet
import Derived.Deep.QuietTactic
import Derived.Deep.RegionHeld3
set_option linter.unusedVariables false
namespace Go.Proofs.YtgpebdoafblacaaDoor
open Go.RowKit Gl L Vt Lk
theorem Tryd.info26 : (Tryd.prog.info? 26).map (fun i => (i.zero, i.size, i.bytes)) = some (some (.agg #[.int .i64 0, .int .i64 0, .int .i64 0, .int .i32 0]), 4, 32) := by kernel_rfl
theorem flatC_one (l : List Cmd) : ∀ u ∈ flatC l, u.oneCell' = true := by
  induction l with
  | nil => intro u hu; simp [flatC] at hu
  | cons c t ih =>
    obtain ⟨a, b, d, e⟩ := c
    intro u hu
    rw [show flatC ((a, b, d, e) :: t) = .int .i64 a :: .int .i64 b :: .int .i64 d :: .int .i32 e :: flatC t from rfl] at hu
    rcases List.mem_cons.1 hu with rfl | hu
    · rfl
    rcases List.mem_cons.1 hu with rfl | hu
    · rfl
    rcases List.mem_cons.1 hu with rfl | hu
    · rfl
    rcases List.mem_cons.1 hu with rfl | hu
    · rfl
    exact ih u hu
theorem Rk.litD {W w' : World} {k a b r : Int} {t : TypeId} {n : Nat} (hb : Below ((W.alloc (.cells #[.int .i64 k, .int .i64 a, .int .i64 b, .int .i32 r] t)).drew).heap.size ((W.alloc (.cells #[.int .i64 k, .int .i64 a, .int .i64 b, .int .i32 r] t)).drew) w') (hn : n = W.heap.size) : Rk w' (.slice (some ⟨n, 0, none⟩) 1 1) [(k, a, b, r)] := by
  subst hn
  exact (Rk.oneAt (w := (W.alloc (.cells #[.int .i64 k, .int .i64 a, .int .i64 b, .int .i32 r] t)).drew) (heap_alloc_new W _)).below hb
/-- A link and an error are told. -/
def LT (w' : World) (e : Ending) (k : Lnk) (err : Int) : Prop := ∃ A cap, e = .returned (.tuple #[.agg #[.int .i64 k.room, .slice A k.l.length cap, .int .i64 k.sent, .int .i64 k.pad, .bool k.off], .int .i64 err]) ∧ Rk w' (.slice A k.l.length cap) k.l
theorem Rk.of_owns {w : World} {B g n cap : Nat} {l : List Cmd} (h : w.ownsRow B 26 4 (.slice (some ⟨g, 0, none⟩) n cap) n (flatC l)) (hn : n = l.length) (hc : l.length ≤ cap) : Rk w (.slice (some ⟨g, 0, none⟩) l.length cap) l := by
  subst hn
  exact ⟨_, _, rfl, hc, Rw.of_owns h⟩
set_option maxRecDepth 100000 in
set_option maxHeartbeats 8000000 in
theorem loffer_any (room sent pad : Int) (off : Bool) (k a b r : Int) (l : List Cmd) (A : Option Addr) (cap : Nat) (w : World) (F : Forms w 0) (hr : Rk w (.slice A l.length cap) l) (hl : l.length ≤ 100000) :
    Calls Tryd.prog 11 #[.agg #[.int .i64 room, .slice A l.length cap, .int .i64 sent, .int .i64 pad, .bool off], .agg #[.int .i64 k, .int .i64 a, .int .i64 b, .int .i32 r]] w fun e w' => LT w' e (ofr ⟨room, l, sent, pad, off⟩ (k, a, b, r)) (ofE ⟨room, l, sent, pad, off⟩ (k, a, b, r)) ∧ Below w.heap.size w w' := by
  obtain ⟨Ts, V, hT⟩ : ∃ Ts, Hid (La w.heap.size w (((w.alloc (.cells #[.int .i64 room, .slice A l.length cap, .int .i64 sent, .int .i64 pad, .bool off] 24)).alloc (.cells #[.int .i64 k, .int .i64 a, .int .i64 b, .int .i32 r] 26)).alloc (.cells #[.int .i64 0, .slice none 0 0, .int .i64 0, .int .i64 0, .bool false] 24)) Ts) ∧ Hid (Ts = [(fun w' => w'.heap[w.heap.size + 1 + 1]? = some (.cells #[.int .i64 0, .slice none 0 0, .int .i64 0, .int .i64 0, .bool false] 24 (0, 0))), (fun w' => w'.heap[w.heap.size + 1]? = some (.cells #[.int .i64 k, .int .i64 a, .int .i64 b, .int .i32 r] 26 (0, 0))), (fun w' => w'.heap[w.heap.size]? = some (.cells #[.int .i64 room, .slice A l.length cap, .int .i64 sent, .int .i64 pad, .bool off] 24 (0, 0)))]) :=
    ⟨_, Lib.hid ((((La.start w).box #[.int .i64 room, .slice A l.length cap, .int .i64 sent, .int .i64 pad, .bool off] 24).box #[.int .i64 k, .int .i64 a, .int .i64 b, .int .i32 r] 26).box #[.int .i64 0, .slice none 0 0, .int .i64 0, .int .i64 0, .bool false] 24), Lib.hid (by rw [two_size, one_size])⟩
  have hI := Lib.hid (lis_any room sent pad off l A cap _ (F.below V.out.below) (hr.below V.out.below) hl)
  have HR := Lib.hid hr
  have HF := Lib.hid F
  clear hr F
  by_cases hk : rt ⟨room, l, sent, pad, off⟩
  case neg =>
    rw [decide_eq_false hk] at hI
    have he : ofE ⟨room, l, sent, pad, off⟩ (k, a, b, r) = 1 := if_neg fun h => hk h.1
    have hf : ofr ⟨room, l, sent, pad, off⟩ (k, a, b, r) = lnk0 := by unfold ofr; rw [he]; rfl
    rw [he, hf]
    clear he hf hk
    go_enter Tryd.func11, Tryd.ntmps11
    go_wp2_with fail
    refine hI.out.mono ?_
    rintro e w1 ⟨rfl, hb⟩
    replace V := Lib.hid (V.out.call hb)
    clear hb hI
    have g0 := V.out.at 0 (by rw [hT.out]; rfl)
    have g1 := V.out.at 1 (by rw [hT.out]; rfl)
    have g2 := V.out.at 2 (by rw [hT.out]; rfl)
    obtain ⟨⟨c0, c1, c2, c3, c4⟩, ⟨f0, f1, f2, f3, f4⟩, hz⟩ := blk5 g2
    obtain ⟨⟨d0, d1, d2, d3, d4⟩, ⟨k0, k1, k2, k3, k4⟩, hz2⟩ := blk5 g0
    obtain ⟨⟨q0, q1, q2, q3⟩, ⟨j0, j1, j2, j3⟩, hz3⟩ := blk4 g1
    clear g0 g1 g2
    go_wp2
    refine bodyPost_ret (v := .tuple #[.agg #[.int .i64 0, .slice none 0 0, .int .i64 0, .int .i64 0, .bool false], .int .i64 1]) (by simp [results, Tryd.results11, go_sem, *]) rfl (and_below ?_ fun hB => ?_)
    · repeat (first | (with_reducible exact V.out.below) | refine Below.setCell ?_ (by simp <;> omega) _)
    · exact ⟨none, 0, rfl, Rk.nil _ _ _ (by simp)⟩
  rw [decide_eq_true hk] at hI
  by_cases hc : isR (k, a, b, r) = true
  case neg =>
    have hcf : isC k a b r = false := by simpa [isR] using hc
    have he : ofE ⟨room, l, sent, pad, off⟩ (k, a, b, r) = 1 := if_neg fun h => hc h.2
    have hf : ofr ⟨room, l, sent, pad, off⟩ (k, a, b, r) = lnk0 := by unfold ofr; rw [he]; rfl
    rw [he, hf]
    clear he hf hk hc
    go_enter Tryd.func11, Tryd.ntmps11
    go_wp2_with fail
    refine hI.out.mono ?_
    rintro e w1 ⟨rfl, hb⟩
    replace V := Lib.hid (V.out.call hb)
    clear hb hI
    have g0 := V.out.at 0 (by rw [hT.out]; rfl)
    have g1 := V.out.at 1 (by rw [hT.out]; rfl)
    have g2 := V.out.at 2 (by rw [hT.out]; rfl)
    obtain ⟨⟨c0, c1, c2, c3, c4⟩, ⟨f0, f1, f2, f3, f4⟩, hz⟩ := blk5 g2
    obtain ⟨⟨d0, d1, d2, d3, d4⟩, ⟨k0, k1, k2, k3, k4⟩, hz2⟩ := blk5 g0
    obtain ⟨⟨q0, q1, q2, q3⟩, ⟨j0, j1, j2, j3⟩, hz3⟩ := blk4 g1
    clear g0 g1 g2
    go_wp2_with fail
    refine (vis_any k a b r _ (HF.out.below V.out.below)).mono ?_
    rintro e w2 ⟨rfl, hb⟩
    rw [hcf]
    replace V := Lib.hid (V.out.call hb)
    clear hb
    clear c0 c1 c2 c3 c4 f0 f1 f2 f3 f4 d0 d1 d2 d3 d4 k0 k1 k2 k3 k4 q0 q1 q2 q3 j0 j1 j2 j3 hz hz2 hz3
    have g0 := V.out.at 0 (by rw [hT.out]; rfl)
    have g1 := V.out.at 1 (by rw [hT.out]; rfl)
    have g2 := V.out.at 2 (by rw [hT.out]; rfl)
    obtain ⟨⟨c0, c1, c2, c3, c4⟩, ⟨f0, f1, f2, f3, f4⟩, hz⟩ := blk5 g2
    obtain ⟨⟨d0, d1, d2, d3, d4⟩, ⟨k0, k1, k2, k3, k4⟩, hz2⟩ := blk5 g0
    obtain ⟨⟨q0, q1, q2, q3⟩, ⟨j0, j1, j2, j3⟩, hz3⟩ := blk4 g1
    clear g0 g1 g2
    go_wp2
    refine bodyPost_ret (v := .tuple #[.agg #[.int .i64 0, .slice none 0 0, .int .i64 0, .int .i64 0, .bool false], .int .i64 1]) (by simp [results, Tryd.results11, go_sem, *]) rfl (and_below ?_ fun hB => ?_)
    · repeat (first | (with_reducible exact V.out.below) | refine Below.setCell ?_ (by simp <;> omega) _)
    · exact ⟨none, 0, rfl, Rk.nil _ _ _ (by simp)⟩
  have hct : isC k a b r = true := hc
  obtain ⟨h55, hc55⟩ := rt_55 hk
  have hroom : 8 ≤ room ∧ room ≤ 48 := ⟨hk.1, hk.2.1⟩
  obtain ⟨hs0, hs1, hs2⟩ := rt_sent hk
  dsimp only at hs0 hs1 hs2
  have hrs := rs_size hk
  have hsz : szC (k, a, b, r) ≤ 8 := szC_le _
  obtain ⟨z, hzz⟩ : ∃ z : Int, z = (szC (k, a, b, r) : Int) := ⟨_, rfl⟩
  obtain ⟨y, hyy⟩ : ∃ y : Int, y = (costL l : Int) - sent := ⟨_, rfl⟩
  have hofe : ofE ⟨room, l, sent, pad, off⟩ (k, a, b, r) = if room < y + z then 5 else 0 := by
    unfold ofE
    rw [if_pos ⟨hk, hc⟩]
    rw [hrs, hyy, hzz]
  have HRS := Lib.hid (hrs.trans hyy.symm)
  have hz8 : 0 ≤ z ∧ z ≤ 8 := by omega
  have hy8 : 0 ≤ y ∧ y ≤ 55 := by omega
  have hwr := IntWalk.i64_in (y + z) (by omega)
  have HZ := Lib.hid (fun wz hb => show Calls Tryd.prog 33 #[.agg #[.int .i64 room, .slice A l.length cap, .int .i64 sent, .int .i64 pad, .bool off]] wz fun e w' => e = .returned (.int .i64 y) ∧ Below wz.heap.size wz w' from hyy ▸ size_any room sent pad off l A cap wz (HF.out.below hb) (HR.out.below hb) hl (by omega))
  have HC := Lib.hid (fun wz hb u hu => show Calls Tryd.prog 32 #[u] wz fun e w' => e = .returned (.int .i64 z) ∧ Below wz.heap.size wz w' from hzz ▸ vcost_any u [(k, a, b, r)] wz (HF.out.below hb) hu (by simp))
  clear hyy hzz hrs hsz HRS hs0 hs1 hs2 hk hc hc55
  by_cases hq : room < y + z
  · have he : ofE ⟨room, l, sent, pad, off⟩ (k, a, b, r) = 5 := by rw [hofe, if_pos hq]
    have hf : ofr ⟨room, l, sent, pad, off⟩ (k, a, b, r) = lnk0 := by unfold ofr; rw [he]; rfl
    rw [he, hf]
    clear he hf hofe
    go_enter Tryd.func11, Tryd.ntmps11
    go_wp2_with fail
    refine hI.out.mono ?_
    rintro e w1 ⟨rfl, hb⟩
    replace V := Lib.hid (V.out.call hb)
    clear hb hI
    have g0 := V.out.at 0 (by rw [hT.out]; rfl)
    have g1 := V.out.at 1 (by rw [hT.out]; rfl)
    have g2 := V.out.at 2 (by rw [hT.out]; rfl)
    obtain ⟨⟨c0, c1, c2, c3, c4⟩, ⟨f0, f1, f2, f3, f4⟩, hz⟩ := blk5 g2
    obtain ⟨⟨d0, d1, d2, d3, d4⟩, ⟨k0, k1, k2, k3, k4⟩, hz2⟩ := blk5 g0
    obtain ⟨⟨q0, q1, q2, q3⟩, ⟨j0, j1, j2, j3⟩, hz3⟩ := blk4 g1
    clear g0 g1 g2
    go_wp2_with fail
    refine (vis_any k a b r _ (HF.out.below V.out.below)).mono ?_
    rintro e w2 ⟨rfl, hb⟩
    rw [hct]
    replace V := Lib.hid (V.out.call hb)
    clear hb
    clear c0 c1 c2 c3 c4 f0 f1 f2 f3 f4 d0 d1 d2 d3 d4 k0 k1 k2 k3 k4 q0 q1 q2 q3 j0 j1 j2 j3 hz hz2 hz3
    have g0 := V.out.at 0 (by rw [hT.out]; rfl)
    have g1 := V.out.at 1 (by rw [hT.out]; rfl)
    have g2 := V.out.at 2 (by rw [hT.out]; rfl)
    obtain ⟨⟨c0, c1, c2, c3, c4⟩, ⟨f0, f1, f2, f3, f4⟩, hz⟩ := blk5 g2
    obtain ⟨⟨d0, d1, d2, d3, d4⟩, ⟨k0, k1, k2, k3, k4⟩, hz2⟩ := blk5 g0
    obtain ⟨⟨q0, q1, q2, q3⟩, ⟨j0, j1, j2, j3⟩, hz3⟩ := blk4 g1
    clear g0 g1 g2
    go_wp2
    go_region_held3 (fun w' => w'.cell? ⟨w.heap.size, 0, none⟩ = some (.int .i64 room) ∧ w'.cell? ⟨w.heap.size, 1, none⟩ = some (.slice A l.length cap) ∧ w'.cell? ⟨w.heap.size, 2, none⟩ = some (.int .i64 sent) ∧ w'.cell? ⟨w.heap.size, 3, none⟩ = some (.int .i64 pad) ∧ w'.cell? ⟨w.heap.size, 4, none⟩ = some (.bool off) ∧ w'.cell? ⟨w.heap.size + 1, 0, none⟩ = some (.int .i64 k) ∧ w'.cell? ⟨w.heap.size + 1, 1, none⟩ = some (.int .i64 a) ∧ w'.cell? ⟨w.heap.size + 1, 2, none⟩ = some (.int .i64 b) ∧ w'.cell? ⟨w.heap.size + 1, 3, none⟩ = some (.int .i32 r) ∧ La w.heap.size w w' Ts)
      (first | exact keepL9 (by assumption) (by assumption) | exact keepL9 ((Below.refl _ _).alloc (Nat.le_refl _) _) (by assumption) | (go_keep; done) | exact ⟨by go_keep, by go_keep, by go_keep, by go_keep, by go_keep, by go_keep, by go_keep, by go_keep, by go_keep, La.drew V.out⟩)
      (first | (go_at_call 33; refine (HZ.out _ (La.below (And.right (And.right (And.right (And.right (And.right (And.right (And.right (And.right (And.right (by assumption)))))))))))).mono ?_; rintro e w' ⟨rfl, hb⟩)
             | (go_at_call 32; refine (HC.out _ (La.below (And.right (And.right (And.right (And.right (And.right (And.right (And.right (And.right (And.right (by assumption))))))))))) _ (by first | exact (Rk.oneAt (by first | exact heap_alloc_new _ _ | exact heap_alloc_new1 _ _ _)).rw | exact (Rk.litD (t := 26) (by assumption) rfl).rw)).mono ?_; rintro e w' ⟨rfl, hb⟩))
    all_goals
      replace V := Lib.hid (And.right (And.right (And.right (And.right (And.right (And.right (And.right (And.right (And.right (by assumption))))))))))
      clear c0 c1 c2 c3 c4 f0 f1 f2 f3 f4 d0 d1 d2 d3 d4 k0 k1 k2 k3 k4 q0 q1 q2 q3 j0 j1 j2 j3 hz hz2 hz3
      have g0 := V.out.at 0 (by rw [hT.out]; rfl)
      have g1 := V.out.at 1 (by rw [hT.out]; rfl)
      have g2 := V.out.at 2 (by rw [hT.out]; rfl)
      obtain ⟨⟨c0, c1, c2, c3, c4⟩, ⟨f0, f1, f2, f3, f4⟩, hz⟩ := blk5 g2
      obtain ⟨⟨d0, d1, d2, d3, d4⟩, ⟨k0, k1, k2, k3, k4⟩, hz2⟩ := blk5 g0
      obtain ⟨⟨q0, q1, q2, q3⟩, ⟨j0, j1, j2, j3⟩, hz3⟩ := blk4 g1
      clear g0 g1 g2
      go_wp2
      refine bodyPost_ret (v := .tuple #[.agg #[.int .i64 0, .slice none 0 0, .int .i64 0, .int .i64 0, .bool false], .int .i64 5]) (by simp [results, Tryd.results11, go_sem, *]) rfl (and_below ?_ fun hB => ?_)
      · repeat (first | (with_reducible exact V.out.below) | refine Below.setCell ?_ (by simp <;> omega) _)
      · exact ⟨none, 0, rfl, Rk.nil _ _ _ (by simp)⟩
  · have he : ofE ⟨room, l, sent, pad, off⟩ (k, a, b, r) = 0 := by rw [hofe, if_neg hq]
    have hf : ofr ⟨room, l, sent, pad, off⟩ (k, a, b, r) = ⟨room, l ++ [(k, a, b, r)], sent, pad, off⟩ := by unfold ofr; rw [he]; rfl
    rw [he, hf]
    clear he hf hofe
    obtain ⟨i0, hi0, hz0, hz1, hz2'⟩ := info_parts Tryd.info26
    have HI0 := Lib.hid hi0
    have HI1 := Lib.hid hz0
    have HI2 := Lib.hid hz1
    have HI3 := Lib.hid hz2'
    clear hi0 hz0 hz1 hz2'
    have hcap : l.length ≤ cap := by obtain ⟨A', c', e, h, _⟩ := HR.out; cases e; exact h
    have hcap1 : (l.length : Int) ≤ (cap : Int) := by omega
    have hl0 : (0 : Int) ≤ (l.length : Int) := by omega
    go_enter Tryd.func11, Tryd.ntmps11
    go_wp2_with fail
    refine hI.out.mono ?_
    rintro e w1 ⟨rfl, hb⟩
    replace V := Lib.hid (V.out.call hb)
    clear hb hI
    have g0 := V.out.at 0 (by rw [hT.out]; rfl)
    have g1 := V.out.at 1 (by rw [hT.out]; rfl)
    have g2 := V.out.at 2 (by rw [hT.out]; rfl)
    obtain ⟨⟨c0, c1, c2, c3, c4⟩, ⟨f0, f1, f2, f3, f4⟩, hz⟩ := blk5 g2
    obtain ⟨⟨d0, d1, d2, d3, d4⟩, ⟨k0, k1, k2, k3, k4⟩, hz2⟩ := blk5 g0
    obtain ⟨⟨q0, q1, q2, q3⟩, ⟨j0, j1, j2, j3⟩, hz3⟩ := blk4 g1
    clear g0 g1 g2
    go_wp2_with fail
    refine (vis_any k a b r _ (HF.out.below V.out.below)).mono ?_
    rintro e w2 ⟨rfl, hb⟩
    rw [hct]
    replace V := Lib.hid (V.out.call hb)
    clear hb
    clear c0 c1 c2 c3 c4 f0 f1 f2 f3 f4 d0 d1 d2 d3 d4 k0 k1 k2 k3 k4 q0 q1 q2 q3 j0 j1 j2 j3 hz hz2 hz3
    have g0 := V.out.at 0 (by rw [hT.out]; rfl)
    have g1 := V.out.at 1 (by rw [hT.out]; rfl)
    have g2 := V.out.at 2 (by rw [hT.out]; rfl)
    obtain ⟨⟨c0, c1, c2, c3, c4⟩, ⟨f0, f1, f2, f3, f4⟩, hz⟩ := blk5 g2
    obtain ⟨⟨d0, d1, d2, d3, d4⟩, ⟨k0, k1, k2, k3, k4⟩, hz2⟩ := blk5 g0
    obtain ⟨⟨q0, q1, q2, q3⟩, ⟨j0, j1, j2, j3⟩, hz3⟩ := blk4 g1
    clear g0 g1 g2
    go_wp2
    go_region_held3 (fun w' => w'.cell? ⟨w.heap.size, 0, none⟩ = some (.int .i64 room) ∧ w'.cell? ⟨w.heap.size, 1, none⟩ = some (.slice A l.length cap) ∧ w'.cell? ⟨w.heap.size, 2, none⟩ = some (.int .i64 sent) ∧ w'.cell? ⟨w.heap.size, 3, none⟩ = some (.int .i64 pad) ∧ w'.cell? ⟨w.heap.size, 4, none⟩ = some (.bool off) ∧ w'.cell? ⟨w.heap.size + 1, 0, none⟩ = some (.int .i64 k) ∧ w'.cell? ⟨w.heap.size + 1, 1, none⟩ = some (.int .i64 a) ∧ w'.cell? ⟨w.heap.size + 1, 2, none⟩ = some (.int .i64 b) ∧ w'.cell? ⟨w.heap.size + 1, 3, none⟩ = some (.int .i32 r) ∧ La w.heap.size w w' Ts)
      (first | exact keepL9 (by assumption) (by assumption) | exact keepL9 ((Below.refl _ _).alloc (Nat.le_refl _) _) (by assumption) | (go_keep; done) | exact ⟨by go_keep, by go_keep, by go_keep, by go_keep, by go_keep, by go_keep, by go_keep, by go_keep, by go_keep, La.drew V.out⟩)
      (first | (go_at_call 33; refine (HZ.out _ (La.below (And.right (And.right (And.right (And.right (And.right (And.right (And.right (And.right (And.right (by assumption)))))))))))).mono ?_; rintro e w' ⟨rfl, hb⟩)
             | (go_at_call 32; refine (HC.out _ (La.below (And.right (And.right (And.right (And.right (And.right (And.right (And.right (And.right (And.right (by assumption))))))))))) _ (by first | exact (Rk.oneAt (by first | exact heap_alloc_new _ _ | exact heap_alloc_new1 _ _ _)).rw | exact (Rk.litD (t := 26) (by assumption) rfl).rw)).mono ?_; rintro e w' ⟨rfl, hb⟩))
    all_goals
      replace V := Lib.hid (And.right (And.right (And.right (And.right (And.right (And.right (And.right (And.right (And.right (by assumption))))))))))
      clear c0 c1 c2 c3 c4 f0 f1 f2 f3 f4 d0 d1 d2 d3 d4 k0 k1 k2 k3 k4 q0 q1 q2 q3 j0 j1 j2 j3 hz hz2 hz3
      have g0 := V.out.at 0 (by rw [hT.out]; rfl)
      have g1 := V.out.at 1 (by rw [hT.out]; rfl)
      have g2 := V.out.at 2 (by rw [hT.out]; rfl)
      obtain ⟨⟨c0, c1, c2, c3, c4⟩, ⟨f0, f1, f2, f3, f4⟩, hz⟩ := blk5 g2
      obtain ⟨⟨d0, d1, d2, d3, d4⟩, ⟨k0, k1, k2, k3, k4⟩, hz2⟩ := blk5 g0
      obtain ⟨⟨q0, q1, q2, q3⟩, ⟨j0, j1, j2, j3⟩, hz3⟩ := blk4 g1
      clear g0 g1 g2
      go_wp2
      refine region_lastT 13 (fun w' => w'.cell? ⟨w.heap.size, 1, none⟩ = some (.slice A l.length cap) ∧ w'.cell? ⟨w.heap.size + 1, 0, none⟩ = some (.int .i64 k) ∧ w'.cell? ⟨w.heap.size + 1, 1, none⟩ = some (.int .i64 a) ∧ w'.cell? ⟨w.heap.size + 1, 2, none⟩ = some (.int .i64 b) ∧ w'.cell? ⟨w.heap.size + 1, 3, none⟩ = some (.int .i32 r) ∧ La w.heap.size w w' Ts) (by kernel_rfl) (by exact ⟨by go_keep, by go_keep, by go_keep, by go_keep, by go_keep, La.drew V.out⟩) (fun hHeld => ?_)
      refine lastT_take (i := 0) (d := (some 25)) (v := ?_) rfl rfl (by kernel_rfl) (by kernel_rfl) (by kernel_rfl) (by kernel_rfl) (fun _ _ _ h => h) (by rfl) ?_ (by assumption) ?_
      rotate_left
      · (intro w hSw; (try dsimp only at hSw); go_simp; try with_reducible rfl)
      (try simp only [Act.put, List.setIfInBounds_toArray, List.set_cons_zero, List.set_cons_succ])
      refine lastT_take (i := 1) (d := (some 26)) (v := ?_) rfl rfl (by kernel_rfl) (by kernel_rfl) (by kernel_rfl) (by kernel_rfl) (fun _ _ _ h => h) (by rfl) ?_ (by assumption) ?_
      rotate_left
      · (intro w hSw; (try dsimp only at hSw); go_simp; try with_reducible rfl)
      (try simp only [Act.put, List.setIfInBounds_toArray, List.set_cons_zero, List.set_cons_succ])
      refine lastT_take (i := 2) (d := (some 27)) (v := ?_) rfl rfl (by kernel_rfl) (by kernel_rfl) (by kernel_rfl) (by kernel_rfl) (fun _ _ _ h => h) (by rfl) ?_ (by assumption) ?_
      rotate_left
      · (intro w hSw; (try dsimp only at hSw); go_simp; try with_reducible rfl)
      (try simp only [Act.put, List.setIfInBounds_toArray, List.set_cons_zero, List.set_cons_succ])
      refine lastT_take (i := 3) (d := (some 28)) (v := ?_) rfl rfl (by kernel_rfl) (by kernel_rfl) (by kernel_rfl) (by kernel_rfl) (fun _ _ _ h => h) (by rfl) ?_ (by assumption) ?_
      rotate_left
      · (intro w hSw; (try dsimp only at hSw); go_simp; try with_reducible rfl)
      (try simp only [Act.put, List.setIfInBounds_toArray, List.set_cons_zero, List.set_cons_succ])
      refine lastT_take (i := 4) (d := (some 29)) (v := ?_) rfl rfl (by kernel_rfl) (by kernel_rfl) (by kernel_rfl) (by kernel_rfl) (fun _ _ _ h => h) (by rfl) ?_ (by assumption) ?_
      rotate_left
      · (intro w hSw; (try dsimp only at hSw); go_simp; try with_reducible rfl)
      (try simp only [Act.put, List.setIfInBounds_toArray, List.set_cons_zero, List.set_cons_succ])
      refine lastT_take (i := 5) (d := (some 30)) (v := ?_) rfl rfl (by kernel_rfl) (by kernel_rfl) (by kernel_rfl) (by kernel_rfl) (fun _ _ _ h => h) (by rfl) ?_ (by assumption) ?_
      rotate_left
      · (intro w hSw; (try dsimp only at hSw); go_simp; try with_reducible rfl)
      (try simp only [Act.put, List.setIfInBounds_toArray, List.set_cons_zero, List.set_cons_succ])
      refine lastT_take (i := 6) (d := (some 31)) (v := ?_) rfl rfl (by kernel_rfl) (by kernel_rfl) (by kernel_rfl) (by kernel_rfl) (fun _ _ _ h => h) (by rfl) ?_ (by assumption) ?_
      rotate_left
      · (intro w hSw; (try dsimp only at hSw); go_simp; try with_reducible rfl)
      (try simp only [Act.put, List.setIfInBounds_toArray, List.set_cons_zero, List.set_cons_succ])
      refine lastT_take (i := 7) (d := (some 32)) (v := ?_) rfl rfl (by kernel_rfl) (by kernel_rfl) (by kernel_rfl) (by kernel_rfl) (fun _ _ _ h => h) (by rfl) ?_ (by assumption) ?_
      rotate_left
      · (intro w hSw; (try dsimp only at hSw); go_simp; try with_reducible rfl)
      (try simp only [Act.put, List.setIfInBounds_toArray, List.set_cons_zero, List.set_cons_succ])
      refine lastT_take (i := 8) (d := (some 33)) (v := ?_) rfl rfl (by kernel_rfl) (by kernel_rfl) (by kernel_rfl) (by kernel_rfl) (fun _ _ _ h => h) (by rfl) ?_ (by assumption) ?_
      rotate_left
      · (intro w hSw; (try dsimp only at hSw); go_simp; try with_reducible rfl)
      (try simp only [Act.put, List.setIfInBounds_toArray, List.set_cons_zero, List.set_cons_succ])
      refine lastT_take (i := 9) (d := (some 34)) (v := ?_) rfl rfl (by kernel_rfl) (by kernel_rfl) (by kernel_rfl) (by kernel_rfl) (fun _ _ _ h => h) (by rfl) ?_ (by assumption) ?_
      rotate_left
      · (intro w hSw; (try dsimp only at hSw); go_simp; try with_reducible rfl)
      (try simp only [Act.put, List.setIfInBounds_toArray, List.set_cons_zero, List.set_cons_succ])
      refine lastT_one (i := 10) rfl (by kernel_rfl) (by kernel_rfl) (fun K hK => ?_)
      go_simp
      refine hK.out _ _ (by exact keepL5 ((Below.refl _ _).alloc (Nat.le_refl _) _) hHeld) (fun hHeld2 => ?_)
      clear hK K hHeld
      have hHeld := hHeld2
      clear hHeld2
      (try simp only [Act.put, List.setIfInBounds_toArray, List.set_cons_zero, List.set_cons_succ])
      refine lastT_one (i := 11) rfl (by kernel_rfl) (by kernel_rfl) (fun K hK => ?_)
      refine oper_append_full (d := some 36) rfl (.tmp 33) (.tmp 35) 22 rfl 26 i0 _ 4 32 Tryd.underlying22 HI0.out HI1.out HI2.out HI3.out rfl (by decide) A l.length (flatC l) rfl (HR.out.full.rw.below hHeld.2.2.2.2.2.below) _ 1 (flatC [(k, a, b, r)]) rfl (Rk.oneAt (by first | exact heap_alloc_new _ _ | exact heap_alloc_new1 _ _ _)).rw (by decide) (flatC_one _) (by unfold maxLen; omega) (by omega) ?_
      intro g cap2 w4 hown hcap2 hbo
      have HO := Lib.hid (ownsRow_mono hown (show w.heap.size + 1 + 1 + 1 ≤ _ by simp <;> omega))
      clear hown
      refine hK.out _ _ (by exact keepL5 hbo hHeld) (fun hHeld2 => ?_)
      clear hK K hHeld
      have hHeld := hHeld2
      clear hHeld2
      (try simp only [Act.put, List.setIfInBounds_toArray, List.set_cons_zero, List.set_cons_succ])
      refine lastT_take (i := 12) (d := (some 37)) (v := ?_) rfl rfl (by kernel_rfl) (by kernel_rfl) (by kernel_rfl) (by kernel_rfl) (fun _ _ _ h => h) (by rfl) ?_ (by assumption) ?_
      rotate_left
      · (intro w hSw; (try dsimp only at hSw); go_simp; try with_reducible rfl)
      (try simp only [Act.put, List.setIfInBounds_toArray, List.set_cons_zero, List.set_cons_succ])
      refine lastT_last (T := 13) rfl (by kernel_rfl) (by kernel_rfl) (by kernel_rfl) (fun K hK => ?_) _
      replace V := Lib.hid (And.right (And.right (And.right (And.right (And.right hHeld)))))
      clear hHeld
      clear c0 c1 c2 c3 c4 f0 f1 f2 f3 f4 d0 d1 d2 d3 d4 k0 k1 k2 k3 k4 q0 q1 q2 q3 j0 j1 j2 j3 hz hz2 hz3
      have g0 := V.out.at 0 (by rw [hT.out]; rfl)
      have g1 := V.out.at 1 (by rw [hT.out]; rfl)
      have g2 := V.out.at 2 (by rw [hT.out]; rfl)
      obtain ⟨⟨c0, c1, c2, c3, c4⟩, ⟨f0, f1, f2, f3, f4⟩, hz⟩ := blk5 g2
      obtain ⟨⟨d0, d1, d2, d3, d4⟩, ⟨k0, k1, k2, k3, k4⟩, hz2⟩ := blk5 g0
      obtain ⟨⟨q0, q1, q2, q3⟩, ⟨j0, j1, j2, j3⟩, hz3⟩ := blk4 g1
      clear g0 g1 g2
      go_simp
      refine hK.out _ _ ?_
      go_wp2
      refine bodyPost_ret (v := .tuple #[.agg #[.int .i64 room, .slice (some ⟨g, 0, none⟩) (l.length + 1) cap2, .int .i64 sent, .int .i64 pad, .bool off], .int .i64 0]) (by simp [results, Tryd.results11, go_sem, *]) rfl (and_below ?_ fun hB => ?_)
      · repeat (first | (with_reducible exact V.out.below) | refine Below.setCell ?_ (by simp <;> omega) _)
      · refine ⟨some ⟨g, 0, none⟩, cap2, by simp, Rk.of_owns (B := w.heap.size + 1 + 1 + 1) (n := l.length + 1) ?_ (by simp) (by simpa using hcap2)⟩
        rw [show flatC (l ++ [(k, a, b, r)]) = flatC l ++ flatC [(k, a, b, r)] from flatC_append _ _]
        repeat (first | (with_reducible exact HO.out) | refine ownsRow_setCell_below ?_ (by simp <;> omega) _)
end Go.Proofs.YtgpebdoafblacaaDoor
