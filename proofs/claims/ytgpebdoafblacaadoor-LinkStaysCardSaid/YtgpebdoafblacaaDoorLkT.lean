/- Links: the reference's Offer. -/
import Derived.Test.YtgpebdoafblacaaDoorLkO
import Derived.Test.YtgpebdoafblacaaDoorLkR
import Derived.Test.YtgpebdoafblacaaDoorLkS
import Derived.Test.YtgpebdoafblacaaDoorLkN
import Derived.BigGuardPart
import Derived.BigQuiet
import Derived.Deep.QuietTactic
import Derived.Deep.RegionHeld3
import Derived.Deep.Cut
import Derived.Deep.LoopGhost
set_option linter.unusedVariables false
namespace Go.Proofs.YtgpebdoafblacaaDoor
open Go.RowKit Go.PlainAid Gl L Vt Lk
set_option maxRecDepth 100000 in
set_option maxHeartbeats 8000000 in
theorem rloffer_any (room sent pad : Int) (off : Bool) (k a b r : Int) (l : List Cmd) (A : Option Addr) (cap : Nat) (w : World) (hr : Rk w (.slice A l.length cap) l) (hl : l.length ≤ 100000) :
    Calls Tryd.prog 12 #[.agg #[.int .i64 room, .slice A l.length cap, .int .i64 sent, .int .i64 pad, .bool off], .agg #[.int .i64 k, .int .i64 a, .int .i64 b, .int .i32 r]] w fun e w' => LT w' e (ofr ⟨room, l, sent, pad, off⟩ (k, a, b, r)) (ofE ⟨room, l, sent, pad, off⟩ (k, a, b, r)) ∧ Below w.heap.size w w' := by
  obtain ⟨Ts, V, hT⟩ : ∃ Ts, Hid (La w.heap.size w (((w.alloc (.cells #[.int .i64 room, .slice A l.length cap, .int .i64 sent, .int .i64 pad, .bool off] 24)).alloc (.cells #[.int .i64 k, .int .i64 a, .int .i64 b, .int .i32 r] 26)).alloc (.cells #[.int .i64 0, .slice none 0 0, .int .i64 0, .int .i64 0, .bool false] 24)) Ts) ∧ Hid (Ts = [(fun w' => w'.heap[w.heap.size + 1 + 1]? = some (.cells #[.int .i64 0, .slice none 0 0, .int .i64 0, .int .i64 0, .bool false] 24 (0, 0))), (fun w' => w'.heap[w.heap.size + 1]? = some (.cells #[.int .i64 k, .int .i64 a, .int .i64 b, .int .i32 r] 26 (0, 0))), (fun w' => w'.heap[w.heap.size]? = some (.cells #[.int .i64 room, .slice A l.length cap, .int .i64 sent, .int .i64 pad, .bool off] 24 (0, 0)))]) :=
    ⟨_, Lib.hid ((((La.start w).box #[.int .i64 room, .slice A l.length cap, .int .i64 sent, .int .i64 pad, .bool off] 24).box #[.int .i64 k, .int .i64 a, .int .i64 b, .int .i32 r] 26).box #[.int .i64 0, .slice none 0 0, .int .i64 0, .int .i64 0, .bool false] 24), Lib.hid (by rw [two_size, one_size])⟩
  have hI := Lib.hid (ris9_any room sent pad off l A cap _ (hr.below V.out.below) hl)
  have HR := Lib.hid hr
  clear hr
  by_cases hk : rt ⟨room, l, sent, pad, off⟩
  case neg =>
    rw [decide_eq_false hk] at hI
    have he : ofE ⟨room, l, sent, pad, off⟩ (k, a, b, r) = 1 := if_neg fun h => hk h.1
    have hf : ofr ⟨room, l, sent, pad, off⟩ (k, a, b, r) = lnk0 := by unfold ofr; rw [he]; rfl
    rw [he, hf]
    clear he hf hk
    go_enter Tryd.func12, Tryd.ntmps12
    go_wp2_with fail
    refine hI.out.mono ?_
    rintro e w1 ⟨rfl, hb⟩
    replace V := Lib.hid (V.out.call hb)
    clear hb hI
    have g0 := V.out.at 0 (by rw [hT.out]; rfl)
    have g1 := V.out.at 1 (by rw [hT.out]; rfl)
    have g2 := V.out.at 2 (by rw [hT.out]; rfl)
    obtain ⟨⟨c0, c1, c2, c3, c4⟩, ⟨f0, f1, f2, f3, f4⟩, hz⟩ := blk5 g2
    obtain ⟨⟨d0, d1, d2, d3, d4⟩, ⟨k0, k1, k2, k3, k4⟩, hz2⟩ := blk5 g0
    obtain ⟨⟨q0, q1, q2, q3⟩, ⟨j0, j1, j2, j3⟩, hz3⟩ := blk4 g1
    clear g0 g1 g2
    go_wp2
    refine bodyPost_ret (v := .tuple #[.agg #[.int .i64 0, .slice none 0 0, .int .i64 0, .int .i64 0, .bool false], .int .i64 1]) (by simp [results, Tryd.results12, go_sem, *]) rfl (and_below ?_ fun hB => ?_)
    · repeat (first | (with_reducible exact V.out.below) | refine Below.setCell ?_ (by simp <;> omega) _)
    · exact ⟨none, 0, rfl, Rk.nil _ _ _ (by simp)⟩
  rw [decide_eq_true hk] at hI
  by_cases hc : isR (k, a, b, r) = true
  case neg =>
    have hcf : isC k a b r = false := by simpa [isR] using hc
    have he : ofE ⟨room, l, sent, pad, off⟩ (k, a, b, r) = 1 := if_neg fun h => hc h.2
    have hf : ofr ⟨room, l, sent, pad, off⟩ (k, a, b, r) = lnk0 := by unfold ofr; rw [he]; rfl
    rw [he, hf]
    clear he hf hk hc
    go_enter Tryd.func12, Tryd.ntmps12
    go_wp2_with fail
    refine hI.out.mono ?_
    rintro e w1 ⟨rfl, hb⟩
    replace V := Lib.hid (V.out.call hb)
    clear hb hI
    have g0 := V.out.at 0 (by rw [hT.out]; rfl)
    have g1 := V.out.at 1 (by rw [hT.out]; rfl)
    have g2 := V.out.at 2 (by rw [hT.out]; rfl)
    obtain ⟨⟨c0, c1, c2, c3, c4⟩, ⟨f0, f1, f2, f3, f4⟩, hz⟩ := blk5 g2
    obtain ⟨⟨d0, d1, d2, d3, d4⟩, ⟨k0, k1, k2, k3, k4⟩, hz2⟩ := blk5 g0
    obtain ⟨⟨q0, q1, q2, q3⟩, ⟨j0, j1, j2, j3⟩, hz3⟩ := blk4 g1
    clear g0 g1 g2
    go_wp2_with fail
    refine (ris5_any k a b r _).mono ?_
    rintro e w2 ⟨rfl, hb⟩
    rw [hcf]
    replace V := Lib.hid (V.out.call hb)
    clear hb
    clear c0 c1 c2 c3 c4 f0 f1 f2 f3 f4 d0 d1 d2 d3 d4 k0 k1 k2 k3 k4 q0 q1 q2 q3 j0 j1 j2 j3 hz hz2 hz3
    have g0 := V.out.at 0 (by rw [hT.out]; rfl)
    have g1 := V.out.at 1 (by rw [hT.out]; rfl)
    have g2 := V.out.at 2 (by rw [hT.out]; rfl)
    obtain ⟨⟨c0, c1, c2, c3, c4⟩, ⟨f0, f1, f2, f3, f4⟩, hz⟩ := blk5 g2
    obtain ⟨⟨d0, d1, d2, d3, d4⟩, ⟨k0, k1, k2, k3, k4⟩, hz2⟩ := blk5 g0
    obtain ⟨⟨q0, q1, q2, q3⟩, ⟨j0, j1, j2, j3⟩, hz3⟩ := blk4 g1
    clear g0 g1 g2
    go_wp2
    refine bodyPost_ret (v := .tuple #[.agg #[.int .i64 0, .slice none 0 0, .int .i64 0, .int .i64 0, .bool false], .int .i64 1]) (by simp [results, Tryd.results12, go_sem, *]) rfl (and_below ?_ fun hB => ?_)
    · repeat (first | (with_reducible exact V.out.below) | refine Below.setCell ?_ (by simp <;> omega) _)
    · exact ⟨none, 0, rfl, Rk.nil _ _ _ (by simp)⟩
  have hct : isC k a b r = true := hc
  obtain ⟨h55, hc55⟩ := rt_55 hk
  have hroom : 8 ≤ room ∧ room ≤ 48 := ⟨hk.1, hk.2.1⟩
  obtain ⟨hs0, hs1, hs2⟩ := rt_sent hk
  dsimp only at hs0 hs1 hs2
  have hrs := rs_size hk
  have hsz : szC (k, a, b, r) ≤ 8 := szC_le _
  obtain ⟨z, hzz⟩ : ∃ z : Int, z = (szC (k, a, b, r) : Int) := ⟨_, rfl⟩
  obtain ⟨y, hyy⟩ : ∃ y : Int, y = (costL l : Int) - sent := ⟨_, rfl⟩
  have hofe : ofE ⟨room, l, sent, pad, off⟩ (k, a, b, r) = if room < y + z then 5 else 0 := by
    unfold ofE
    rw [if_pos ⟨hk, hc⟩]
    rw [hrs, hyy, hzz]
  have HRS := Lib.hid (hrs.trans hyy.symm)
  have hz8 : 0 ≤ z ∧ z ≤ 8 := by omega
  have hy8 : 0 ≤ y ∧ y ≤ 55 := by omega
  have hwr := IntWalk.i64_in (y + z) (by omega)
  have HZ := Lib.hid (fun wz hb => rrest_any room sent pad off l A cap wz (HR.out.below hb) hl)
  have HC := Lib.hid (fun wz u hu => show Calls Tryd.prog 35 #[u] wz fun e w' => e = .returned (.int .i64 z) ∧ Below wz.heap.size wz w' from hzz ▸ rcost_any u [(k, a, b, r)] wz hu (by simp))
  have hrl : ((rs ⟨room, l, sent, pad, off⟩).size : Int) = y := HRS.out
  generalize hrr : rs ⟨room, l, sent, pad, off⟩ = rr at HZ hrl
  clear hrr
  clear hyy hzz hrs hsz HRS hs0 hs1 hs2 hk hc hc55
  by_cases hq : room < y + z
  · have he : ofE ⟨room, l, sent, pad, off⟩ (k, a, b, r) = 5 := by rw [hofe, if_pos hq]
    have hf : ofr ⟨room, l, sent, pad, off⟩ (k, a, b, r) = lnk0 := by unfold ofr; rw [he]; rfl
    rw [he, hf]
    clear he hf hofe
    go_enter Tryd.func12, Tryd.ntmps12
    go_wp2_with fail
    refine hI.out.mono ?_
    rintro e w1 ⟨rfl, hb⟩
    replace V := Lib.hid (V.out.call hb)
    clear hb hI
    have g0 := V.out.at 0 (by rw [hT.out]; rfl)
    have g1 := V.out.at 1 (by rw [hT.out]; rfl)
    have g2 := V.out.at 2 (by rw [hT.out]; rfl)
    obtain ⟨⟨c0, c1, c2, c3, c4⟩, ⟨f0, f1, f2, f3, f4⟩, hz⟩ := blk5 g2
    obtain ⟨⟨d0, d1, d2, d3, d4⟩, ⟨k0, k1, k2, k3, k4⟩, hz2⟩ := blk5 g0
    obtain ⟨⟨q0, q1, q2, q3⟩, ⟨j0, j1, j2, j3⟩, hz3⟩ := blk4 g1
    clear g0 g1 g2
    go_wp2_with fail
    refine (ris5_any k a b r _).mono ?_
    rintro e w2 ⟨rfl, hb⟩
    rw [hct]
    replace V := Lib.hid (V.out.call hb)
    clear hb
    clear c0 c1 c2 c3 c4 f0 f1 f2 f3 f4 d0 d1 d2 d3 d4 k0 k1 k2 k3 k4 q0 q1 q2 q3 j0 j1 j2 j3 hz hz2 hz3
    have g0 := V.out.at 0 (by rw [hT.out]; rfl)
    have g1 := V.out.at 1 (by rw [hT.out]; rfl)
    have g2 := V.out.at 2 (by rw [hT.out]; rfl)
    obtain ⟨⟨c0, c1, c2, c3, c4⟩, ⟨f0, f1, f2, f3, f4⟩, hz⟩ := blk5 g2
    obtain ⟨⟨d0, d1, d2, d3, d4⟩, ⟨k0, k1, k2, k3, k4⟩, hz2⟩ := blk5 g0
    obtain ⟨⟨q0, q1, q2, q3⟩, ⟨j0, j1, j2, j3⟩, hz3⟩ := blk4 g1
    clear g0 g1 g2
    go_wp2
    go_region_held3 (fun w' => w'.cell? ⟨w.heap.size, 0, none⟩ = some (.int .i64 room) ∧ w'.cell? ⟨w.heap.size, 1, none⟩ = some (.slice A l.length cap) ∧ w'.cell? ⟨w.heap.size, 2, none⟩ = some (.int .i64 sent) ∧ w'.cell? ⟨w.heap.size, 3, none⟩ = some (.int .i64 pad) ∧ w'.cell? ⟨w.heap.size, 4, none⟩ = some (.bool off) ∧ w'.cell? ⟨w.heap.size + 1, 0, none⟩ = some (.int .i64 k) ∧ w'.cell? ⟨w.heap.size + 1, 1, none⟩ = some (.int .i64 a) ∧ w'.cell? ⟨w.heap.size + 1, 2, none⟩ = some (.int .i64 b) ∧ w'.cell? ⟨w.heap.size + 1, 3, none⟩ = some (.int .i32 r) ∧ La w.heap.size w w' Ts)
      (first | exact keepL9 (by assumption) (by assumption) | exact keepL9 ((Below.refl _ _).alloc (Nat.le_refl _) _) (by assumption) | (go_keep; done) | exact ⟨by go_keep, by go_keep, by go_keep, by go_keep, by go_keep, by go_keep, by go_keep, by go_keep, by go_keep, La.drew V.out⟩)
      (first | (go_at_call 20; refine (HZ.out _ (La.below (And.right (And.right (And.right (And.right (And.right (And.right (And.right (And.right (And.right (by assumption)))))))))))).mono ?_; rintro e w' ⟨rfl, hb⟩)
             | (go_at_call 35; refine (HC.out _ _ (by first | exact (Rk.oneAt (by first | exact heap_alloc_new _ _ | exact heap_alloc_new1 _ _ _)).rw | exact (Rk.litD (t := 26) (by assumption) rfl).rw)).mono ?_; rintro e w' ⟨rfl, hb⟩))
    all_goals
      replace V := Lib.hid (And.right (And.right (And.right (And.right (And.right (And.right (And.right (And.right (And.right (by assumption))))))))))
      clear c0 c1 c2 c3 c4 f0 f1 f2 f3 f4 d0 d1 d2 d3 d4 k0 k1 k2 k3 k4 q0 q1 q2 q3 j0 j1 j2 j3 hz hz2 hz3
      have g0 := V.out.at 0 (by rw [hT.out]; rfl)
      have g1 := V.out.at 1 (by rw [hT.out]; rfl)
      have g2 := V.out.at 2 (by rw [hT.out]; rfl)
      obtain ⟨⟨c0, c1, c2, c3, c4⟩, ⟨f0, f1, f2, f3, f4⟩, hz⟩ := blk5 g2
      obtain ⟨⟨d0, d1, d2, d3, d4⟩, ⟨k0, k1, k2, k3, k4⟩, hz2⟩ := blk5 g0
      obtain ⟨⟨q0, q1, q2, q3⟩, ⟨j0, j1, j2, j3⟩, hz3⟩ := blk4 g1
      clear g0 g1 g2
      go_wp2
      refine bodyPost_ret (v := .tuple #[.agg #[.int .i64 0, .slice none 0 0, .int .i64 0, .int .i64 0, .bool false], .int .i64 5]) (by simp [results, Tryd.results12, go_sem, *]) rfl (and_below ?_ fun hB => ?_)
      · repeat (first | (with_reducible exact V.out.below) | refine Below.setCell ?_ (by simp <;> omega) _)
      · exact ⟨none, 0, rfl, Rk.nil _ _ _ (by simp)⟩
  · have he : ofE ⟨room, l, sent, pad, off⟩ (k, a, b, r) = 0 := by rw [hofe, if_neg hq]
    have hf : ofr ⟨room, l, sent, pad, off⟩ (k, a, b, r) = ⟨room, l ++ [(k, a, b, r)], sent, pad, off⟩ := by unfold ofr; rw [he]; rfl
    rw [he, hf]
    clear he hf hofe
    obtain ⟨i0, hi0, hz0, hz1, hz2'⟩ := info_parts Tryd.info26
    have HI0 := Lib.hid hi0
    have HI1 := Lib.hid hz0
    have HI2 := Lib.hid hz1
    have HI3 := Lib.hid hz2'
    clear hi0 hz0 hz1 hz2'
    have hcap : l.length ≤ cap := by obtain ⟨A', c', e, h, _⟩ := HR.out; cases e; exact h
    have hcap1 : (l.length : Int) ≤ (cap : Int) := by omega
    have hl0 : (0 : Int) ≤ (l.length : Int) := by omega
    have HOW := Lib.hid (own9_any room sent pad off l A cap)
    go_enter Tryd.func12, Tryd.ntmps12
    go_wp2_with fail
    refine hI.out.mono ?_
    rintro e w1 ⟨rfl, hb⟩
    replace V := Lib.hid (V.out.call hb)
    clear hb hI
    have g0 := V.out.at 0 (by rw [hT.out]; rfl)
    have g1 := V.out.at 1 (by rw [hT.out]; rfl)
    have g2 := V.out.at 2 (by rw [hT.out]; rfl)
    obtain ⟨⟨c0, c1, c2, c3, c4⟩, ⟨f0, f1, f2, f3, f4⟩, hz⟩ := blk5 g2
    obtain ⟨⟨d0, d1, d2, d3, d4⟩, ⟨k0, k1, k2, k3, k4⟩, hz2⟩ := blk5 g0
    obtain ⟨⟨q0, q1, q2, q3⟩, ⟨j0, j1, j2, j3⟩, hz3⟩ := blk4 g1
    clear g0 g1 g2
    go_wp2_with fail
    refine (ris5_any k a b r _).mono ?_
    rintro e w2 ⟨rfl, hb⟩
    rw [hct]
    replace V := Lib.hid (V.out.call hb)
    clear hb
    clear c0 c1 c2 c3 c4 f0 f1 f2 f3 f4 d0 d1 d2 d3 d4 k0 k1 k2 k3 k4 q0 q1 q2 q3 j0 j1 j2 j3 hz hz2 hz3
    have g0 := V.out.at 0 (by rw [hT.out]; rfl)
    have g1 := V.out.at 1 (by rw [hT.out]; rfl)
    have g2 := V.out.at 2 (by rw [hT.out]; rfl)
    obtain ⟨⟨c0, c1, c2, c3, c4⟩, ⟨f0, f1, f2, f3, f4⟩, hz⟩ := blk5 g2
    obtain ⟨⟨d0, d1, d2, d3, d4⟩, ⟨k0, k1, k2, k3, k4⟩, hz2⟩ := blk5 g0
    obtain ⟨⟨q0, q1, q2, q3⟩, ⟨j0, j1, j2, j3⟩, hz3⟩ := blk4 g1
    clear g0 g1 g2
    go_wp2
    go_region_held3 (fun w' => w'.cell? ⟨w.heap.size, 0, none⟩ = some (.int .i64 room) ∧ w'.cell? ⟨w.heap.size, 1, none⟩ = some (.slice A l.length cap) ∧ w'.cell? ⟨w.heap.size, 2, none⟩ = some (.int .i64 sent) ∧ w'.cell? ⟨w.heap.size, 3, none⟩ = some (.int .i64 pad) ∧ w'.cell? ⟨w.heap.size, 4, none⟩ = some (.bool off) ∧ w'.cell? ⟨w.heap.size + 1, 0, none⟩ = some (.int .i64 k) ∧ w'.cell? ⟨w.heap.size + 1, 1, none⟩ = some (.int .i64 a) ∧ w'.cell? ⟨w.heap.size + 1, 2, none⟩ = some (.int .i64 b) ∧ w'.cell? ⟨w.heap.size + 1, 3, none⟩ = some (.int .i32 r) ∧ La w.heap.size w w' Ts)
      (first | exact keepL9 (by assumption) (by assumption) | exact keepL9 ((Below.refl _ _).alloc (Nat.le_refl _) _) (by assumption) | (go_keep; done) | exact ⟨by go_keep, by go_keep, by go_keep, by go_keep, by go_keep, by go_keep, by go_keep, by go_keep, by go_keep, La.drew V.out⟩)
      (first | (go_at_call 20; refine (HZ.out _ (La.below (And.right (And.right (And.right (And.right (And.right (And.right (And.right (And.right (And.right (by assumption)))))))))))).mono ?_; rintro e w' ⟨rfl, hb⟩)
             | (go_at_call 35; refine (HC.out _ _ (by first | exact (Rk.oneAt (by first | exact heap_alloc_new _ _ | exact heap_alloc_new1 _ _ _)).rw | exact (Rk.litD (t := 26) (by assumption) rfl).rw)).mono ?_; rintro e w' ⟨rfl, hb⟩))
    all_goals
      replace V := Lib.hid (And.right (And.right (And.right (And.right (And.right (And.right (And.right (And.right (And.right (by assumption))))))))))
      clear c0 c1 c2 c3 c4 f0 f1 f2 f3 f4 d0 d1 d2 d3 d4 k0 k1 k2 k3 k4 q0 q1 q2 q3 j0 j1 j2 j3 hz hz2 hz3
      have g0 := V.out.at 0 (by rw [hT.out]; rfl)
      have g1 := V.out.at 1 (by rw [hT.out]; rfl)
      have g2 := V.out.at 2 (by rw [hT.out]; rfl)
      obtain ⟨⟨c0, c1, c2, c3, c4⟩, ⟨f0, f1, f2, f3, f4⟩, hz⟩ := blk5 g2
      obtain ⟨⟨d0, d1, d2, d3, d4⟩, ⟨k0, k1, k2, k3, k4⟩, hz2⟩ := blk5 g0
      obtain ⟨⟨q0, q1, q2, q3⟩, ⟨j0, j1, j2, j3⟩, hz3⟩ := blk4 g1
      clear g0 g1 g2
      go_wp2_with fail
      refine (HOW.out _ (HR.out.below V.out.below) hl).mono ?_
      rintro e w4 ⟨⟨g, cap2, rfl, hcap2, hown⟩, hb⟩
      have HO := Lib.hid (ownsRow_mono hown (show w.heap.size + 1 + 1 + 1 ≤ _ by omega))
      clear hown
      replace V := Lib.hid (V.out.call hb)
      clear hb
      clear c0 c1 c2 c3 c4 f0 f1 f2 f3 f4 d0 d1 d2 d3 d4 k0 k1 k2 k3 k4 q0 q1 q2 q3 j0 j1 j2 j3 hz hz2 hz3
      have g0 := V.out.at 0 (by rw [hT.out]; rfl)
      have g1 := V.out.at 1 (by rw [hT.out]; rfl)
      have g2 := V.out.at 2 (by rw [hT.out]; rfl)
      obtain ⟨⟨c0, c1, c2, c3, c4⟩, ⟨f0, f1, f2, f3, f4⟩, hz⟩ := blk5 g2
      obtain ⟨⟨d0, d1, d2, d3, d4⟩, ⟨k0, k1, k2, k3, k4⟩, hz2⟩ := blk5 g0
      obtain ⟨⟨q0, q1, q2, q3⟩, ⟨j0, j1, j2, j3⟩, hz3⟩ := blk4 g1
      clear g0 g1 g2
      have GB0 := V.out.at 0 (by rw [hT.out]; rfl)
      have GB1 := V.out.at 1 (by rw [hT.out]; rfl)
      have GB2 := V.out.at 2 (by rw [hT.out]; rfl)
      go_upto_region 6 with fail
      obtain ⟨W5, hW5⟩ : ∃ W5 : World, W5 = ((((w4.setCell ⟨w.heap.size, 0, none⟩ (.int .i64 room)).setCell ⟨w.heap.size, 1, none⟩ (.slice (some ⟨g, 0, none⟩) l.length cap2)).setCell ⟨w.heap.size, 2, none⟩ (.int .i64 sent)).setCell ⟨w.heap.size, 3, none⟩ (.int .i64 pad)).setCell ⟨w.heap.size, 4, none⟩ (.bool off) := ⟨_, rfl⟩
      rw [← hW5]
      have HO5 : Hid (W5.ownsRow (w.heap.size + 1 + 1 + 1) 26 4 (.slice (some ⟨g, 0, none⟩) l.length cap2) l.length (flatC l)) := Lib.hid (by
        rw [hW5]
        repeat (first | (with_reducible exact HO.out) | refine ownsRow_setCell_below ?_ (by simp <;> omega) _))
      have G2 : W5.heap[w.heap.size]? = some (.cells #[.int .i64 room, .slice (some ⟨g, 0, none⟩) l.length cap2, .int .i64 sent, .int .i64 pad, .bool off] 24 (0, 0)) := by rw [hW5]; exact set5_at GB2
      have G1 : W5.heap[w.heap.size + 1]? = some (.cells #[.int .i64 k, .int .i64 a, .int .i64 b, .int .i32 r] 26 (0, 0)) := by
        rw [hW5]
        repeat (first | (with_reducible exact GB1) | refine setCell_ne ?_ (by omega))
      have G0 : W5.heap[w.heap.size + 1 + 1]? = some (.cells #[.int .i64 0, .slice none 0 0, .int .i64 0, .int .i64 0, .bool false] 24 (0, 0)) := by
        rw [hW5]
        repeat (first | (with_reducible exact GB0) | refine setCell_ne ?_ (by omega))
      have HB5 : Hid (Below w.heap.size w W5) := Lib.hid (by
        rw [hW5]
        repeat (first | (with_reducible exact V.out.below) | refine Below.setCell ?_ (by simp <;> omega) _))
      have hz5 : w.heap.size + 1 + 1 + 1 ≤ W5.heap.size := lt_of_block G0
      clear hW5 GB0 GB1 GB2
      clear c0 c1 c2 c3 c4 f0 f1 f2 f3 f4 d0 d1 d2 d3 d4 k0 k1 k2 k3 k4 q0 q1 q2 q3 j0 j1 j2 j3 hz hz2 hz3
      obtain ⟨⟨c0, c1, c2, c3, c4⟩, ⟨f0, f1, f2, f3, f4⟩, hz⟩ := blk5 G2
      obtain ⟨⟨q0, q1, q2, q3⟩, ⟨j0, j1, j2, j3⟩, hz3⟩ := blk4 G1
      have HLIT := Lib.hid (Rk.oneAt (heap_alloc_new W5 (.cells #[.int .i64 k, .int .i64 a, .int .i64 b, .int .i32 r] 26))).rw
      have HOA := Lib.hid (ownsRow_below HO5.out ((Below.refl W5.heap.size W5).alloc (Nat.le_refl _) (.cells #[.int .i64 k, .int .i64 a, .int .i64 b, .int .i32 r] 26)))
      go_wp2_with (at_builtin; refine wpList_append_rw rfl (.tmp 29) (.tmp 31) 22 rfl (w.heap.size + 1 + 1 + 1) 26 i0 _ 4 32 Tryd.underlying22 HI0.out HI1.out HI2.out HI3.out rfl (by decide) _ _ _ rfl HOA.out _ 1 (flatC [(k, a, b, r)]) rfl HLIT.out (flatC_one _) (by unfold maxLen; omega) (by omega) (by simp; omega) ?_)
      intro v' w6 hown' hgrow hne
      have hbW : Below (w.heap.size + 1 + 1 + 1) W5 w6 := Below.of_grown ((Below.refl (w.heap.size + 1 + 1 + 1) W5).alloc hz5 _) HOA.out hgrow (by simp; omega) (Nat.le_refl _)
      have G1' := (hbW.block w.heap.size (by omega)).trans G2
      have G0' := (hbW.block (w.heap.size + 1 + 1) (by omega)).trans G0
      have HB6 := Lib.hid (HB5.out.trans (hbW.mono (by omega)))
      obtain ⟨g6, c6, rfl, hc6⟩ := Rw.form_ne hown' hne
      have HO6 := Lib.hid hown'
      clear hown' hgrow hne hbW G0 G1 G2 c0 c1 c2 c3 c4 f0 f1 f2 f3 f4 q0 q1 q2 q3 j0 j1 j2 j3 hz hz3
      obtain ⟨⟨c0, c1, c2, c3, c4⟩, ⟨f0, f1, f2, f3, f4⟩, hz⟩ := blk5 G1'
      obtain ⟨⟨d0, d1, d2, d3, d4⟩, ⟨k0, k1, k2, k3, k4⟩, hz2⟩ := blk5 G0'
      clear G1' G0'
      go_wp2
      refine bodyPost_ret (v := .tuple #[.agg #[.int .i64 room, .slice (some ⟨g6, 0, none⟩) (l.length + 1) c6, .int .i64 sent, .int .i64 pad, .bool off], .int .i64 0]) (by simp [results, Tryd.results12, go_sem, *]) rfl (and_below ?_ fun hB => ?_)
      · repeat (first | (with_reducible exact HB6.out) | refine Below.setCell ?_ (by simp <;> omega) _)
      · refine ⟨some ⟨g6, 0, none⟩, c6, by simp, Rk.of_owns (B := w.heap.size + 1 + 1 + 1) (n := l.length + 1) ?_ (by simp) (by simpa using hc6)⟩
        rw [show flatC (l ++ [(k, a, b, r)]) = flatC l ++ flatC [(k, a, b, r)] from flatC_append _ _]
        repeat (first | (with_reducible exact HO6.out) | refine ownsRow_setCell_below ?_ (by simp <;> omega) _)
end Go.Proofs.YtgpebdoafblacaaDoor
