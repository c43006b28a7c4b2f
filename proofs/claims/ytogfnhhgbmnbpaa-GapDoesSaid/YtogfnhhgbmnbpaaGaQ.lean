/- Lines with a point: GapStays. -/
import Derived.Test.YtogfnhhgbmnbpaaGaP
set_option linter.unusedVariables false
namespace Go.Proofs.Ytogfnhhgbmnbpaa
open Go.RowKit Go.PlainAid Gl L Gp
theorem Gp.go_len {a b x y : List Int} {n : Int} (hx : goV (a, b) n = (x, y)) (la : a.length ≤ 1000) (lb : b.length ≤ 1000) : x.length ≤ 1000 ∧ y.length ≤ 1000 := by
  cases hg : rt (a, b)
  · have e1 : goV (a, b) n = (a, b) := if_neg (by rw [hg]; decide)
    rw [e1] at hx
    injection hx with h1 h2
    subst h1 h2
    exact ⟨la, lb⟩
  · obtain ⟨h1, h2⟩ := go_rt (n := n) hg
    have h4 := (rt_txt _ h1).2
    rw [hx, txt_len] at h4
    dsimp only at h4
    omega
theorem Gp.stays_cases (a b l : List Int) (h : rt (a, b) = true) :
    (inE (a, b) l = 0 ∧ ¬ 200 < (a ++ b).length + l.length) ∨ (inE (a, b) l = 5 ∧ 200 < (a ++ b).length + l.length ∧ al l = true) ∨ (inE (a, b) l = 1 ∧ 200 < (a ++ b).length + l.length ∧ al l = false) ∨ (inE (a, b) l = 1 ∧ ¬ 200 < (a ++ b).length + l.length) := by
  rw [List.length_append]
  unfold inE
  cases hl : al l
  · rw [if_neg (by simp)]
    by_cases h2 : 200 < a.length + b.length + l.length
    · exact .inr (.inr (.inl ⟨rfl, h2, rfl⟩))
    · exact .inr (.inr (.inr ⟨rfl, h2⟩))
  · rw [if_pos ⟨h, rfl⟩]
    by_cases h2 : 200 < a.length + b.length + l.length
    · exact .inr (.inl ⟨if_pos h2, h2, rfl⟩)
    · exact .inl ⟨if_neg h2, h2⟩
set_option maxRecDepth 100000 in
set_option maxHeartbeats 16000000 in
theorem stays_law (A B : Option Addr) (ca cb : Nat) (a b : List Int) (C : Option Addr) (cc : Nat) (l : List Int) (n : Int) (w : World) (ha : Rr w (.slice A a.length ca) a) (hb : Rr w (.slice B b.length cb) b) (hc : Rr w (.slice C l.length cc) l) (ma : a.length ≤ maxLen) (mb : b.length ≤ maxLen) (ml : l.length ≤ maxLen) (hn : -9223372036854775808 ≤ n) :
    Calls Try.prog 6 #[.agg #[.slice A a.length ca, .slice B b.length cb], .slice C l.length cc, .int .i64 n] w fun e w' => e = .returned (.bool true) ∧ Below w.heap.size w w' := by
  have V := Lib.hid ((La.start w).box #[.slice A a.length ca, .slice B b.length cb] 24)
  by_cases hbig : a.length ≤ 1000 ∧ b.length ≤ 1000 ∧ l.length ≤ 1000
  case neg =>
    have hB : (!decide (a.length ≤ 1000 ∧ b.length ≤ 1000 ∧ l.length ≤ 1000)) = true := by rw [decide_eq_false hbig]; rfl
    clear hbig
    go_enter Try.func6, Try.ntmps6
    go_wp2_with fail
    refine (big_any A B C a.length b.length l.length ca cb cc _ ma mb ml).mono ?_
    rintro e w1 ⟨rfl, hb⟩
    rw [hB]
    replace V := Lib.hid (V.out.call hb)
    clear hb
    go_wp2_with fail
    refine (gapped_any _).mono ?_
    rintro e w2 ⟨rfl, hb⟩
    replace V := Lib.hid (V.out.call hb)
    clear hb
    go_wp2
    go_ret
    exact ⟨rfl, V.out.below⟩
  have hB : (!decide (a.length ≤ 1000 ∧ b.length ≤ 1000 ∧ l.length ≤ 1000)) = false := by rw [decide_eq_true hbig]; rfl
  obtain ⟨la, lb, ll⟩ := hbig
  have HA := Lib.hid ha
  have HB := Lib.hid hb
  have HC := Lib.hid hc
  clear ha hb hc
  obtain ⟨x, y, hx⟩ : ∃ x y, inV (a, b) l = (x, y) := ⟨_, _, rfl⟩
  obtain ⟨lx, ly⟩ := in_len hx
  obtain ⟨x2, y2, hx2⟩ : ∃ x y, cuV (a, b) n = (x, y) := ⟨_, _, rfl⟩
  obtain ⟨z, hz⟩ : ∃ z, cuL (a, b) n = z := ⟨_, rfl⟩
  obtain ⟨lx2, ly2, lz⟩ := cu_len hx2 hz la lb
  obtain ⟨x3, y3, hx3⟩ : ∃ x y, goV (a, b) n = (x, y) := ⟨_, _, rfl⟩
  obtain ⟨lx3, ly3⟩ := go_len hx3 la lb
  obtain ⟨t, ht⟩ : ∃ t, t = a ++ b := ⟨_, rfl⟩
  have lt : t.length ≤ 2000 := by rw [ht, List.length_append]; omega
  have HI := fun wz (h : Below w.heap.size w wz) => gin_any A B C ca cb cc a b l x y wz (HA.out.below h) (HB.out.below h) (HC.out.below h) la lb ll hx
  have HU := Lib.hid (fun wz (h : Below w.heap.size w wz) => gcut_any A B ca cb a b n x2 y2 z wz (HA.out.below h) (HB.out.below h) la lb hn hx2 hz)
  have HG := Lib.hid (fun wz (h : Below w.heap.size w wz) => ggo_any A B ca cb a b n x3 y3 wz (HA.out.below h) (HB.out.below h) la lb hx3)
  have HT := Lib.hid (fun wz (h : Below w.heap.size w wz) => gtext_any A B ca cb a b wz (HA.out.below h) (HB.out.below h) la lb t ht)
  have HJ := fun wz (h : Below w.heap.size w wz) => gis_any A B ca cb a b wz (HA.out.below h) (HB.out.below h) la lb
  cases hg : rt (a, b)
  case false =>
    rw [hg] at HJ
    replace HJ := Lib.hid HJ
    replace HI := Lib.hid HI
    clear hx hx2 hz hx3 ht hg
    go_enter Try.func6, Try.ntmps6
    go_wp2_with fail
    refine (big_any A B C a.length b.length l.length ca cb cc _ ma mb ml).mono ?_
    rintro e w1 ⟨rfl, hb⟩
    rw [hB]
    replace V := Lib.hid (V.out.call hb)
    clear hb
    have gp := V.out.at 0 rfl
    obtain ⟨⟨m0a, m0b⟩, ⟨m0e, m0f⟩, m0z⟩ := blk2 gp
    clear gp
    go_wp2_with fail
    clear m0a m0b m0e m0f m0z
    refine (HJ.out _ V.out.below).mono ?_
    rintro e w2 ⟨rfl, hb⟩
    replace V := Lib.hid (V.out.call hb)
    clear hb
    go_wp2_with fail
    refine (gapped_any _).mono ?_
    rintro e w3 ⟨rfl, hb⟩
    replace V := Lib.hid (V.out.call hb)
    clear hb
    go_wp2
    go_ret
    exact ⟨rfl, V.out.below⟩
  case true =>
    rw [hg] at HJ
    replace HJ := Lib.hid HJ
    obtain ⟨c1, c2, c3⟩ := cu_rt (n := n) hg
    rw [hx2, hz, txt_len, txt_len] at c2
    rw [hx2] at c1
    obtain ⟨d1, d2⟩ := go_rt (n := n) hg
    rw [hx3] at d1 d2
    have d3 : t = x3 ++ y3 := ht.trans d2.symm
    obtain ⟨t2, ht2⟩ : ∃ t2, t2 = x2 ++ y2 := ⟨_, rfl⟩
    have e2 : ((t2.length : Int) + (z.length : Int) == (t.length : Int)) = true := by
      rw [beq_iff_eq, ht2, ht, List.length_append, List.length_append]
      dsimp only at c2
      omega
    have lt2 : t2.length ≤ 2000 := by rw [ht2, List.length_append]; omega
    have c1' := Lib.hid c1
    have d1' := Lib.hid d1
    have HD3 := Lib.hid d3
    have HT2 := Lib.hid ht2
    have in0 := fun h => in_rt (g := (a, b)) (l := l) h
    rw [hx] at in0
    have hcs := stays_cases a b l hg
    rw [← ht] at hcs
    have htl : (txt (a, b)).length = t.length := by rw [ht]; rfl
    rw [htl] at in0
    clear hx hx2 hz hx3 ht hg c1 c2 c3 d1 d2 d3 ht2 htl
    rcases hcs with ⟨hE, h2⟩ | ⟨hE, h2, hl⟩ | ⟨hE, h2, hl⟩ | ⟨hE, h2⟩
    · have k1 : decide ((200 : Int) < (t.length : Int) + (l.length : Int)) = false := by rw [decide_eq_false_iff_not]; omega
      have k2 : decide (200 < t.length + l.length) = false := decide_eq_false h2
      obtain ⟨r1, r2⟩ := in0 hE
      rw [txt_len] at r2
      obtain ⟨t1, ht1⟩ : ∃ t1, t1 = x ++ y := ⟨_, rfl⟩
      have e1 : ((t1.length : Int) == (t.length : Int) + (l.length : Int)) = true := by
        rw [beq_iff_eq, ht1, List.length_append]
        dsimp only at r2
        omega
      have e1' : ((t1.length : Int) != (t.length : Int) + (l.length : Int)) = false := by rw [bne, e1]; rfl
      have lt1 : t1.length ≤ 2000 := by rw [ht1, List.length_append]; omega
      have r1' := Lib.hid r1
      have HT1 := Lib.hid ht1
      clear r1 r2 ht1
      rw [hE] at HI
      replace HI := Lib.hid HI
      clear hE in0 h2
      go_enter Try.func6, Try.ntmps6
      go_wp2_with fail
      refine (big_any A B C a.length b.length l.length ca cb cc _ ma mb ml).mono ?_
      rintro e w1 ⟨rfl, hb⟩
      rw [hB]
      replace V := Lib.hid (V.out.call hb)
      clear hb
      have gp := V.out.at 0 rfl
      obtain ⟨⟨m0a, m0b⟩, ⟨m0e, m0f⟩, m0z⟩ := blk2 gp
      clear gp
      go_wp2_with fail
      clear m0a m0b m0e m0f m0z
      refine (HJ.out _ V.out.below).mono ?_
      rintro e w2 ⟨rfl, hb⟩
      replace V := Lib.hid (V.out.call hb)
      clear hb
      have gp := V.out.at 0 rfl
      obtain ⟨⟨m0a, m0b⟩, ⟨m0e, m0f⟩, m0z⟩ := blk2 gp
      clear gp
      go_wp2_with fail
      clear m0a m0b m0e m0f m0z
      refine (HT.out _ V.out.below).mono ?_
      rintro e w3 ⟨⟨U3, p3, rfl, hg⟩, hb⟩
      replace V := Lib.hid (V.out.call hb)
      clear hb
      replace V := Lib.hid (V.out.add _ hg (Stb.rr _ _))
      clear hg
      have gp := V.out.at 1 rfl
      obtain ⟨⟨m0a, m0b⟩, ⟨m0e, m0f⟩, m0z⟩ := blk2 gp
      clear gp
      go_wp2_with fail
      clear m0a m0b m0e m0f m0z
      refine (HI.out _ V.out.below).mono ?_
      rintro e w4 ⟨⟨U4, V4, p4, q4, rfl, hg⟩, hb⟩
      replace V := Lib.hid (V.out.call hb)
      clear hb
      replace V := Lib.hid (V.out.add _ hg (Stb.gr _ _ _ _ _ _))
      clear hg
      replace V := Lib.hid (V.out.box #[.slice U4 x.length p4, .slice V4 y.length q4] 24)
      have gp := V.out.at 3 rfl
      obtain ⟨⟨m0a, m0b⟩, ⟨m0e, m0f⟩, m0z⟩ := blk2 gp
      clear gp
      go_wp2_with fail
      clear m0a m0b m0e m0f m0z
      refine (HU.out _ V.out.below).mono ?_
      rintro e w5 ⟨⟨U5, V5, p5, q5, Z5, k5, rfl, hg, hz⟩, hb⟩
      replace V := Lib.hid (V.out.call hb)
      clear hb
      replace V := Lib.hid (V.out.add _ hg (Stb.gr _ _ _ _ _ _))
      replace V := Lib.hid (V.out.add _ hz (Stb.rr _ _))
      clear hg hz
      replace V := Lib.hid (V.out.box #[.slice U5 x2.length p5, .slice V5 y2.length q5] 24)
      have gp := V.out.at 6 rfl
      obtain ⟨⟨m0a, m0b⟩, ⟨m0e, m0f⟩, m0z⟩ := blk2 gp
      clear gp
      go_wp2_with fail
      clear m0a m0b m0e m0f m0z
      refine (HG.out _ V.out.below).mono ?_
      rintro e w6 ⟨⟨U6, V6, p6, q6, rfl, hg⟩, hb⟩
      replace V := Lib.hid (V.out.call hb)
      clear hb
      replace V := Lib.hid (V.out.add _ hg (Stb.gr _ _ _ _ _ _))
      clear hg
      replace V := Lib.hid (V.out.box #[.slice U6 x3.length p6, .slice V6 y3.length q6] 24)
      have gp := V.out.at 5 rfl
      obtain ⟨⟨m0a, m0b⟩, ⟨m0e, m0f⟩, m0z⟩ := blk2 gp
      clear gp
      go_wp2_with fail
      clear m0a m0b m0e m0f m0z
      refine (gis_any U4 V4 p4 q4 x y _ (V.out.at 6 rfl).1 (V.out.at 6 rfl).2 lx ly).mono ?_
      rintro e w7 ⟨rfl, hb⟩
      rw [r1'.out]
      replace V := Lib.hid (V.out.call hb)
      clear hb
      have gp := V.out.at 5 rfl
      obtain ⟨⟨m0a, m0b⟩, ⟨m0e, m0f⟩, m0z⟩ := blk2 gp
      clear gp
      go_wp2_with fail
      clear m0a m0b m0e m0f m0z
      refine (gtext_any U4 V4 p4 q4 x y _ (V.out.at 6 rfl).1 (V.out.at 6 rfl).2 lx ly t1 HT1.out).mono ?_
      rintro e w8 ⟨⟨U8, p8, rfl, hg⟩, hb⟩
      replace V := Lib.hid (V.out.call hb)
      clear hb
      replace V := Lib.hid (V.out.add _ hg (Stb.rr _ _))
      clear hg
      go_wp2_with fail
      refine (gapped_any _).mono ?_
      rintro e w9 ⟨rfl, hb⟩
      replace V := Lib.hid (V.out.call hb)
      clear hb
      have gp := V.out.at 3 rfl
      obtain ⟨⟨m0a, m0b⟩, ⟨m0e, m0f⟩, m0z⟩ := blk2 gp
      clear gp
      go_wp2_with fail
      clear m0a m0b m0e m0f m0z
      refine (gis_any U5 V5 p5 q5 x2 y2 _ (V.out.at 5 rfl).1 (V.out.at 5 rfl).2 lx2 ly2).mono ?_
      rintro e w10 ⟨rfl, hb⟩
      rw [c1'.out]
      replace V := Lib.hid (V.out.call hb)
      clear hb
      have gp := V.out.at 1 rfl
      obtain ⟨⟨m0a, m0b⟩, ⟨m0e, m0f⟩, m0z⟩ := blk2 gp
      clear gp
      go_wp2_with fail
      clear m0a m0b m0e m0f m0z
      refine (gis_any U6 V6 p6 q6 x3 y3 _ (V.out.at 2 rfl).1 (V.out.at 2 rfl).2 lx3 ly3).mono ?_
      rintro e w11 ⟨rfl, hb⟩
      rw [d1'.out]
      replace V := Lib.hid (V.out.call hb)
      clear hb
      have gp := V.out.at 3 rfl
      obtain ⟨⟨m0a, m0b⟩, ⟨m0e, m0f⟩, m0z⟩ := blk2 gp
      clear gp
      go_wp2_with fail
      clear m0a m0b m0e m0f m0z
      refine (gtext_any U5 V5 p5 q5 x2 y2 _ (V.out.at 5 rfl).1 (V.out.at 5 rfl).2 lx2 ly2 t2 HT2.out).mono ?_
      rintro e w12 ⟨⟨U12, p12, rfl, hg⟩, hb⟩
      replace V := Lib.hid (V.out.call hb)
      clear hb
      replace V := Lib.hid (V.out.add _ hg (Stb.rr _ _))
      clear hg
      have gp := V.out.at 2 rfl
      obtain ⟨⟨m0a, m0b⟩, ⟨m0e, m0f⟩, m0z⟩ := blk2 gp
      clear gp
      go_wp2_with fail
      clear m0a m0b m0e m0f m0z
      refine (gtext_any U6 V6 p6 q6 x3 y3 _ (V.out.at 3 rfl).1 (V.out.at 3 rfl).2 lx3 ly3 t HD3.out).mono ?_
      rintro e w13 ⟨⟨U13, p13, rfl, hg⟩, hb⟩
      replace V := Lib.hid (V.out.call hb)
      clear hb
      replace V := Lib.hid (V.out.add _ hg (Stb.rr _ _))
      clear hg
      go_wp2_with fail
      refine (same_yes U13 U3 p13 p3 t _ (V.out.at 0 rfl) (V.out.at 10 rfl) lt).mono ?_
      rintro e w14 ⟨rfl, hb⟩
      replace V := Lib.hid (V.out.call hb)
      clear hb
      have gp := V.out.at 11 rfl
      obtain ⟨⟨m0a, m0b⟩, ⟨m0e, m0f⟩, m0z⟩ := blk2 gp
      clear gp
      go_wp2_with fail
      clear m0a m0b m0e m0f m0z
      refine (HT.out _ V.out.below).mono ?_
      rintro e w15 ⟨⟨U15, p15, rfl, hg⟩, hb⟩
      replace V := Lib.hid (V.out.call hb)
      clear hb
      replace V := Lib.hid (V.out.add _ hg (Stb.rr _ _))
      clear hg
      go_wp2_with fail
      refine (same_yes U15 U3 p15 p3 t _ (V.out.at 0 rfl) (V.out.at 11 rfl) lt).mono ?_
      rintro e w16 ⟨rfl, hb⟩
      replace V := Lib.hid (V.out.call hb)
      clear hb
      go_wp2
      go_ret
      exact ⟨rfl, V.out.below⟩
    · have k1 : decide ((200 : Int) < (t.length : Int) + (l.length : Int)) = true := by rw [decide_eq_true_iff]; omega
      have k2 : decide (200 < t.length + l.length) = true := decide_eq_true h2
      rw [hE] at HI
      replace HI := Lib.hid HI
      clear hE in0 h2
      have HL := Lib.hid hl
      clear hl
      go_enter Try.func6, Try.ntmps6
      go_wp2_with fail
      refine (big_any A B C a.length b.length l.length ca cb cc _ ma mb ml).mono ?_
      rintro e w1 ⟨rfl, hb⟩
      rw [hB]
      replace V := Lib.hid (V.out.call hb)
      clear hb
      have gp := V.out.at 0 rfl
      obtain ⟨⟨m0a, m0b⟩, ⟨m0e, m0f⟩, m0z⟩ := blk2 gp
      clear gp
      go_wp2_with fail
      clear m0a m0b m0e m0f m0z
      refine (HJ.out _ V.out.below).mono ?_
      rintro e w2 ⟨rfl, hb⟩
      replace V := Lib.hid (V.out.call hb)
      clear hb
      have gp := V.out.at 0 rfl
      obtain ⟨⟨m0a, m0b⟩, ⟨m0e, m0f⟩, m0z⟩ := blk2 gp
      clear gp
      go_wp2_with fail
      clear m0a m0b m0e m0f m0z
      refine (HT.out _ V.out.below).mono ?_
      rintro e w3 ⟨⟨U3, p3, rfl, hg⟩, hb⟩
      replace V := Lib.hid (V.out.call hb)
      clear hb
      replace V := Lib.hid (V.out.add _ hg (Stb.rr _ _))
      clear hg
      have gp := V.out.at 1 rfl
      obtain ⟨⟨m0a, m0b⟩, ⟨m0e, m0f⟩, m0z⟩ := blk2 gp
      clear gp
      go_wp2_with fail
      clear m0a m0b m0e m0f m0z
      refine (HI.out _ V.out.below).mono ?_
      rintro e w4 ⟨⟨U4, V4, p4, q4, rfl, hg⟩, hb⟩
      replace V := Lib.hid (V.out.call hb)
      clear hb
      replace V := Lib.hid (V.out.add _ hg (Stb.gr _ _ _ _ _ _))
      clear hg
      replace V := Lib.hid (V.out.box #[.slice U4 x.length p4, .slice V4 y.length q4] 24)
      have gp := V.out.at 3 rfl
      obtain ⟨⟨m0a, m0b⟩, ⟨m0e, m0f⟩, m0z⟩ := blk2 gp
      clear gp
      go_wp2_with fail
      clear m0a m0b m0e m0f m0z
      refine (HU.out _ V.out.below).mono ?_
      rintro e w5 ⟨⟨U5, V5, p5, q5, Z5, k5, rfl, hg, hz⟩, hb⟩
      replace V := Lib.hid (V.out.call hb)
      clear hb
      replace V := Lib.hid (V.out.add _ hg (Stb.gr _ _ _ _ _ _))
      replace V := Lib.hid (V.out.add _ hz (Stb.rr _ _))
      clear hg hz
      replace V := Lib.hid (V.out.box #[.slice U5 x2.length p5, .slice V5 y2.length q5] 24)
      have gp := V.out.at 6 rfl
      obtain ⟨⟨m0a, m0b⟩, ⟨m0e, m0f⟩, m0z⟩ := blk2 gp
      clear gp
      go_wp2_with fail
      clear m0a m0b m0e m0f m0z
      refine (HG.out _ V.out.below).mono ?_
      rintro e w6 ⟨⟨U6, V6, p6, q6, rfl, hg⟩, hb⟩
      replace V := Lib.hid (V.out.call hb)
      clear hb
      replace V := Lib.hid (V.out.add _ hg (Stb.gr _ _ _ _ _ _))
      clear hg
      replace V := Lib.hid (V.out.box #[.slice U6 x3.length p6, .slice V6 y3.length q6] 24)
      go_wp2_with fail
      refine (gapped_any _).mono ?_
      rintro e w7 ⟨rfl, hb⟩
      replace V := Lib.hid (V.out.call hb)
      clear hb
      have gp := V.out.at 2 rfl
      obtain ⟨⟨m0a, m0b⟩, ⟨m0e, m0f⟩, m0z⟩ := blk2 gp
      clear gp
      go_wp2_with fail
      clear m0a m0b m0e m0f m0z
      refine (gis_any U5 V5 p5 q5 x2 y2 _ (V.out.at 4 rfl).1 (V.out.at 4 rfl).2 lx2 ly2).mono ?_
      rintro e w8 ⟨rfl, hb⟩
      rw [c1'.out]
      replace V := Lib.hid (V.out.call hb)
      clear hb
      have gp := V.out.at 0 rfl
      obtain ⟨⟨m0a, m0b⟩, ⟨m0e, m0f⟩, m0z⟩ := blk2 gp
      clear gp
      go_wp2_with fail
      clear m0a m0b m0e m0f m0z
      refine (gis_any U6 V6 p6 q6 x3 y3 _ (V.out.at 1 rfl).1 (V.out.at 1 rfl).2 lx3 ly3).mono ?_
      rintro e w9 ⟨rfl, hb⟩
      rw [d1'.out]
      replace V := Lib.hid (V.out.call hb)
      clear hb
      have gp := V.out.at 2 rfl
      obtain ⟨⟨m0a, m0b⟩, ⟨m0e, m0f⟩, m0z⟩ := blk2 gp
      clear gp
      go_wp2_with fail
      clear m0a m0b m0e m0f m0z
      refine (gtext_any U5 V5 p5 q5 x2 y2 _ (V.out.at 4 rfl).1 (V.out.at 4 rfl).2 lx2 ly2 t2 HT2.out).mono ?_
      rintro e w10 ⟨⟨U10, p10, rfl, hg⟩, hb⟩
      replace V := Lib.hid (V.out.call hb)
      clear hb
      replace V := Lib.hid (V.out.add _ hg (Stb.rr _ _))
      clear hg
      have gp := V.out.at 1 rfl
      obtain ⟨⟨m0a, m0b⟩, ⟨m0e, m0f⟩, m0z⟩ := blk2 gp
      clear gp
      go_wp2_with fail
      clear m0a m0b m0e m0f m0z
      refine (gtext_any U6 V6 p6 q6 x3 y3 _ (V.out.at 2 rfl).1 (V.out.at 2 rfl).2 lx3 ly3 t HD3.out).mono ?_
      rintro e w11 ⟨⟨U11, p11, rfl, hg⟩, hb⟩
      replace V := Lib.hid (V.out.call hb)
      clear hb
      replace V := Lib.hid (V.out.add _ hg (Stb.rr _ _))
      clear hg
      go_wp2_with fail
      refine (same_yes U11 U3 p11 p3 t _ (V.out.at 0 rfl) (V.out.at 9 rfl) lt).mono ?_
      rintro e w12 ⟨rfl, hb⟩
      replace V := Lib.hid (V.out.call hb)
      clear hb
      have gp := V.out.at 10 rfl
      obtain ⟨⟨m0a, m0b⟩, ⟨m0e, m0f⟩, m0z⟩ := blk2 gp
      clear gp
      go_wp2_with fail
      clear m0a m0b m0e m0f m0z
      refine (HT.out _ V.out.below).mono ?_
      rintro e w13 ⟨⟨U13, p13, rfl, hg⟩, hb⟩
      replace V := Lib.hid (V.out.call hb)
      clear hb
      replace V := Lib.hid (V.out.add _ hg (Stb.rr _ _))
      clear hg
      go_wp2_with fail
      refine (same_yes U13 U3 p13 p3 t _ (V.out.at 0 rfl) (V.out.at 10 rfl) lt).mono ?_
      rintro e w14 ⟨rfl, hb⟩
      replace V := Lib.hid (V.out.call hb)
      clear hb
      go_wp2_with fail
      refine (rall_any _ l _ (HC.out.row.below V.out.below) ml).mono ?_
      rintro e w15 ⟨rfl, hb⟩
      rw [HL.out]
      replace V := Lib.hid (V.out.call hb)
      clear hb
      go_wp2
      go_ret
      exact ⟨rfl, V.out.below⟩
    · have k1 : decide ((200 : Int) < (t.length : Int) + (l.length : Int)) = true := by rw [decide_eq_true_iff]; omega
      have k2 : decide (200 < t.length + l.length) = true := decide_eq_true h2
      rw [hE] at HI
      replace HI := Lib.hid HI
      clear hE in0 h2
      have HL := Lib.hid hl
      clear hl
      go_enter Try.func6, Try.ntmps6
      go_wp2_with fail
      refine (big_any A B C a.length b.length l.length ca cb cc _ ma mb ml).mono ?_
      rintro e w1 ⟨rfl, hb⟩
      rw [hB]
      replace V := Lib.hid (V.out.call hb)
      clear hb
      have gp := V.out.at 0 rfl
      obtain ⟨⟨m0a, m0b⟩, ⟨m0e, m0f⟩, m0z⟩ := blk2 gp
      clear gp
      go_wp2_with fail
      clear m0a m0b m0e m0f m0z
      refine (HJ.out _ V.out.below).mono ?_
      rintro e w2 ⟨rfl, hb⟩
      replace V := Lib.hid (V.out.call hb)
      clear hb
      have gp := V.out.at 0 rfl
      obtain ⟨⟨m0a, m0b⟩, ⟨m0e, m0f⟩, m0z⟩ := blk2 gp
      clear gp
      go_wp2_with fail
      clear m0a m0b m0e m0f m0z
      refine (HT.out _ V.out.below).mono ?_
      rintro e w3 ⟨⟨U3, p3, rfl, hg⟩, hb⟩
      replace V := Lib.hid (V.out.call hb)
      clear hb
      replace V := Lib.hid (V.out.add _ hg (Stb.rr _ _))
      clear hg
      have gp := V.out.at 1 rfl
      obtain ⟨⟨m0a, m0b⟩, ⟨m0e, m0f⟩, m0z⟩ := blk2 gp
      clear gp
      go_wp2_with fail
      clear m0a m0b m0e m0f m0z
      refine (HI.out _ V.out.below).mono ?_
      rintro e w4 ⟨⟨U4, V4, p4, q4, rfl, hg⟩, hb⟩
      replace V := Lib.hid (V.out.call hb)
      clear hb
      replace V := Lib.hid (V.out.add _ hg (Stb.gr _ _ _ _ _ _))
      clear hg
      replace V := Lib.hid (V.out.box #[.slice U4 x.length p4, .slice V4 y.length q4] 24)
      have gp := V.out.at 3 rfl
      obtain ⟨⟨m0a, m0b⟩, ⟨m0e, m0f⟩, m0z⟩ := blk2 gp
      clear gp
      go_wp2_with fail
      clear m0a m0b m0e m0f m0z
      refine (HU.out _ V.out.below).mono ?_
      rintro e w5 ⟨⟨U5, V5, p5, q5, Z5, k5, rfl, hg, hz⟩, hb⟩
      replace V := Lib.hid (V.out.call hb)
      clear hb
      replace V := Lib.hid (V.out.add _ hg (Stb.gr _ _ _ _ _ _))
      replace V := Lib.hid (V.out.add _ hz (Stb.rr _ _))
      clear hg hz
      replace V := Lib.hid (V.out.box #[.slice U5 x2.length p5, .slice V5 y2.length q5] 24)
      have gp := V.out.at 6 rfl
      obtain ⟨⟨m0a, m0b⟩, ⟨m0e, m0f⟩, m0z⟩ := blk2 gp
      clear gp
      go_wp2_with fail
      clear m0a m0b m0e m0f m0z
      refine (HG.out _ V.out.below).mono ?_
      rintro e w6 ⟨⟨U6, V6, p6, q6, rfl, hg⟩, hb⟩
      replace V := Lib.hid (V.out.call hb)
      clear hb
      replace V := Lib.hid (V.out.add _ hg (Stb.gr _ _ _ _ _ _))
      clear hg
      replace V := Lib.hid (V.out.box #[.slice U6 x3.length p6, .slice V6 y3.length q6] 24)
      go_wp2_with fail
      refine (gapped_any _).mono ?_
      rintro e w7 ⟨rfl, hb⟩
      replace V := Lib.hid (V.out.call hb)
      clear hb
      have gp := V.out.at 2 rfl
      obtain ⟨⟨m0a, m0b⟩, ⟨m0e, m0f⟩, m0z⟩ := blk2 gp
      clear gp
      go_wp2_with fail
      clear m0a m0b m0e m0f m0z
      refine (gis_any U5 V5 p5 q5 x2 y2 _ (V.out.at 4 rfl).1 (V.out.at 4 rfl).2 lx2 ly2).mono ?_
      rintro e w8 ⟨rfl, hb⟩
      rw [c1'.out]
      replace V := Lib.hid (V.out.call hb)
      clear hb
      have gp := V.out.at 0 rfl
      obtain ⟨⟨m0a, m0b⟩, ⟨m0e, m0f⟩, m0z⟩ := blk2 gp
      clear gp
      go_wp2_with fail
      clear m0a m0b m0e m0f m0z
      refine (gis_any U6 V6 p6 q6 x3 y3 _ (V.out.at 1 rfl).1 (V.out.at 1 rfl).2 lx3 ly3).mono ?_
      rintro e w9 ⟨rfl, hb⟩
      rw [d1'.out]
      replace V := Lib.hid (V.out.call hb)
      clear hb
      have gp := V.out.at 2 rfl
      obtain ⟨⟨m0a, m0b⟩, ⟨m0e, m0f⟩, m0z⟩ := blk2 gp
      clear gp
      go_wp2_with fail
      clear m0a m0b m0e m0f m0z
      refine (gtext_any U5 V5 p5 q5 x2 y2 _ (V.out.at 4 rfl).1 (V.out.at 4 rfl).2 lx2 ly2 t2 HT2.out).mono ?_
      rintro e w10 ⟨⟨U10, p10, rfl, hg⟩, hb⟩
      replace V := Lib.hid (V.out.call hb)
      clear hb
      replace V := Lib.hid (V.out.add _ hg (Stb.rr _ _))
      clear hg
      have gp := V.out.at 1 rfl
      obtain ⟨⟨m0a, m0b⟩, ⟨m0e, m0f⟩, m0z⟩ := blk2 gp
      clear gp
      go_wp2_with fail
      clear m0a m0b m0e m0f m0z
      refine (gtext_any U6 V6 p6 q6 x3 y3 _ (V.out.at 2 rfl).1 (V.out.at 2 rfl).2 lx3 ly3 t HD3.out).mono ?_
      rintro e w11 ⟨⟨U11, p11, rfl, hg⟩, hb⟩
      replace V := Lib.hid (V.out.call hb)
      clear hb
      replace V := Lib.hid (V.out.add _ hg (Stb.rr _ _))
      clear hg
      go_wp2_with fail
      refine (same_yes U11 U3 p11 p3 t _ (V.out.at 0 rfl) (V.out.at 9 rfl) lt).mono ?_
      rintro e w12 ⟨rfl, hb⟩
      replace V := Lib.hid (V.out.call hb)
      clear hb
      have gp := V.out.at 10 rfl
      obtain ⟨⟨m0a, m0b⟩, ⟨m0e, m0f⟩, m0z⟩ := blk2 gp
      clear gp
      go_wp2_with fail
      clear m0a m0b m0e m0f m0z
      refine (HT.out _ V.out.below).mono ?_
      rintro e w13 ⟨⟨U13, p13, rfl, hg⟩, hb⟩
      replace V := Lib.hid (V.out.call hb)
      clear hb
      replace V := Lib.hid (V.out.add _ hg (Stb.rr _ _))
      clear hg
      go_wp2_with fail
      refine (same_yes U13 U3 p13 p3 t _ (V.out.at 0 rfl) (V.out.at 10 rfl) lt).mono ?_
      rintro e w14 ⟨rfl, hb⟩
      replace V := Lib.hid (V.out.call hb)
      clear hb
      go_wp2_with fail
      refine (rall_any _ l _ (HC.out.row.below V.out.below) ml).mono ?_
      rintro e w15 ⟨rfl, hb⟩
      rw [HL.out]
      replace V := Lib.hid (V.out.call hb)
      clear hb
      go_wp2
      go_ret
      exact ⟨rfl, V.out.below⟩
    · have k1 : decide ((200 : Int) < (t.length : Int) + (l.length : Int)) = false := by rw [decide_eq_false_iff_not]; omega
      have k2 : decide (200 < t.length + l.length) = false := decide_eq_false h2
      rw [hE] at HI
      replace HI := Lib.hid HI
      clear hE in0 h2
      go_enter Try.func6, Try.ntmps6
      go_wp2_with fail
      refine (big_any A B C a.length b.length l.length ca cb cc _ ma mb ml).mono ?_
      rintro e w1 ⟨rfl, hb⟩
      rw [hB]
      replace V := Lib.hid (V.out.call hb)
      clear hb
      have gp := V.out.at 0 rfl
      obtain ⟨⟨m0a, m0b⟩, ⟨m0e, m0f⟩, m0z⟩ := blk2 gp
      clear gp
      go_wp2_with fail
      clear m0a m0b m0e m0f m0z
      refine (HJ.out _ V.out.below).mono ?_
      rintro e w2 ⟨rfl, hb⟩
      replace V := Lib.hid (V.out.call hb)
      clear hb
      have gp := V.out.at 0 rfl
      obtain ⟨⟨m0a, m0b⟩, ⟨m0e, m0f⟩, m0z⟩ := blk2 gp
      clear gp
      go_wp2_with fail
      clear m0a m0b m0e m0f m0z
      refine (HT.out _ V.out.below).mono ?_
      rintro e w3 ⟨⟨U3, p3, rfl, hg⟩, hb⟩
      replace V := Lib.hid (V.out.call hb)
      clear hb
      replace V := Lib.hid (V.out.add _ hg (Stb.rr _ _))
      clear hg
      have gp := V.out.at 1 rfl
      obtain ⟨⟨m0a, m0b⟩, ⟨m0e, m0f⟩, m0z⟩ := blk2 gp
      clear gp
      go_wp2_with fail
      clear m0a m0b m0e m0f m0z
      refine (HI.out _ V.out.below).mono ?_
      rintro e w4 ⟨⟨U4, V4, p4, q4, rfl, hg⟩, hb⟩
      replace V := Lib.hid (V.out.call hb)
      clear hb
      replace V := Lib.hid (V.out.add _ hg (Stb.gr _ _ _ _ _ _))
      clear hg
      replace V := Lib.hid (V.out.box #[.slice U4 x.length p4, .slice V4 y.length q4] 24)
      have gp := V.out.at 3 rfl
      obtain ⟨⟨m0a, m0b⟩, ⟨m0e, m0f⟩, m0z⟩ := blk2 gp
      clear gp
      go_wp2_with fail
      clear m0a m0b m0e m0f m0z
      refine (HU.out _ V.out.below).mono ?_
      rintro e w5 ⟨⟨U5, V5, p5, q5, Z5, k5, rfl, hg, hz⟩, hb⟩
      replace V := Lib.hid (V.out.call hb)
      clear hb
      replace V := Lib.hid (V.out.add _ hg (Stb.gr _ _ _ _ _ _))
      replace V := Lib.hid (V.out.add _ hz (Stb.rr _ _))
      clear hg hz
      replace V := Lib.hid (V.out.box #[.slice U5 x2.length p5, .slice V5 y2.length q5] 24)
      have gp := V.out.at 6 rfl
      obtain ⟨⟨m0a, m0b⟩, ⟨m0e, m0f⟩, m0z⟩ := blk2 gp
      clear gp
      go_wp2_with fail
      clear m0a m0b m0e m0f m0z
      refine (HG.out _ V.out.below).mono ?_
      rintro e w6 ⟨⟨U6, V6, p6, q6, rfl, hg⟩, hb⟩
      replace V := Lib.hid (V.out.call hb)
      clear hb
      replace V := Lib.hid (V.out.add _ hg (Stb.gr _ _ _ _ _ _))
      clear hg
      replace V := Lib.hid (V.out.box #[.slice U6 x3.length p6, .slice V6 y3.length q6] 24)
      go_wp2_with fail
      refine (gapped_any _).mono ?_
      rintro e w7 ⟨rfl, hb⟩
      replace V := Lib.hid (V.out.call hb)
      clear hb
      have gp := V.out.at 2 rfl
      obtain ⟨⟨m0a, m0b⟩, ⟨m0e, m0f⟩, m0z⟩ := blk2 gp
      clear gp
      go_wp2_with fail
      clear m0a m0b m0e m0f m0z
      refine (gis_any U5 V5 p5 q5 x2 y2 _ (V.out.at 4 rfl).1 (V.out.at 4 rfl).2 lx2 ly2).mono ?_
      rintro e w8 ⟨rfl, hb⟩
      rw [c1'.out]
      replace V := Lib.hid (V.out.call hb)
      clear hb
      have gp := V.out.at 0 rfl
      obtain ⟨⟨m0a, m0b⟩, ⟨m0e, m0f⟩, m0z⟩ := blk2 gp
      clear gp
      go_wp2_with fail
      clear m0a m0b m0e m0f m0z
      refine (gis_any U6 V6 p6 q6 x3 y3 _ (V.out.at 1 rfl).1 (V.out.at 1 rfl).2 lx3 ly3).mono ?_
      rintro e w9 ⟨rfl, hb⟩
      rw [d1'.out]
      replace V := Lib.hid (V.out.call hb)
      clear hb
      have gp := V.out.at 2 rfl
      obtain ⟨⟨m0a, m0b⟩, ⟨m0e, m0f⟩, m0z⟩ := blk2 gp
      clear gp
      go_wp2_with fail
      clear m0a m0b m0e m0f m0z
      refine (gtext_any U5 V5 p5 q5 x2 y2 _ (V.out.at 4 rfl).1 (V.out.at 4 rfl).2 lx2 ly2 t2 HT2.out).mono ?_
      rintro e w10 ⟨⟨U10, p10, rfl, hg⟩, hb⟩
      replace V := Lib.hid (V.out.call hb)
      clear hb
      replace V := Lib.hid (V.out.add _ hg (Stb.rr _ _))
      clear hg
      have gp := V.out.at 1 rfl
      obtain ⟨⟨m0a, m0b⟩, ⟨m0e, m0f⟩, m0z⟩ := blk2 gp
      clear gp
      go_wp2_with fail
      clear m0a m0b m0e m0f m0z
      refine (gtext_any U6 V6 p6 q6 x3 y3 _ (V.out.at 2 rfl).1 (V.out.at 2 rfl).2 lx3 ly3 t HD3.out).mono ?_
      rintro e w11 ⟨⟨U11, p11, rfl, hg⟩, hb⟩
      replace V := Lib.hid (V.out.call hb)
      clear hb
      replace V := Lib.hid (V.out.add _ hg (Stb.rr _ _))
      clear hg
      go_wp2_with fail
      refine (same_yes U11 U3 p11 p3 t _ (V.out.at 0 rfl) (V.out.at 9 rfl) lt).mono ?_
      rintro e w12 ⟨rfl, hb⟩
      replace V := Lib.hid (V.out.call hb)
      clear hb
      have gp := V.out.at 10 rfl
      obtain ⟨⟨m0a, m0b⟩, ⟨m0e, m0f⟩, m0z⟩ := blk2 gp
      clear gp
      go_wp2_with fail
      clear m0a m0b m0e m0f m0z
      refine (HT.out _ V.out.below).mono ?_
      rintro e w13 ⟨⟨U13, p13, rfl, hg⟩, hb⟩
      replace V := Lib.hid (V.out.call hb)
      clear hb
      replace V := Lib.hid (V.out.add _ hg (Stb.rr _ _))
      clear hg
      go_wp2_with fail
      refine (same_yes U13 U3 p13 p3 t _ (V.out.at 0 rfl) (V.out.at 10 rfl) lt).mono ?_
      rintro e w14 ⟨rfl, hb⟩
      replace V := Lib.hid (V.out.call hb)
      clear hb
      go_wp2
      go_ret
      exact ⟨rfl, V.out.below⟩
end Go.Proofs.Ytogfnhhgbmnbpaa
