/- Lines with a point: GapBack. -/
import Derived.Test.YtogfnhhgbmnbpaaGaQ
set_option linter.unusedVariables false
namespace Go.Proofs.Ytogfnhhgbmnbpaa
open Go.RowKit Go.PlainAid Gl L Gp
/-- A box of two cells is stored into: what is told anew. -/
theorem La.store2 {B : Nat} {W w : World} {Ts : List (World → Prop)} (V : La B W w Ts) (k : Nat) (hk : B ≤ k) (u0 u1 : Value) : La B W ((w.setCell ⟨k, 0, none⟩ u0).setCell ⟨k, 1, none⟩ u1) [] :=
  ⟨(V.below.setCell hk u0).setCell hk u1, fun i T h => by simp at h, fun i T h => by simp at h, V.hB⟩
theorem two_store {w : World} {k : Nat} {a b c d : Value} {t : TypeId} (h : w.heap[k]? = some (.cells #[a, b] t (0, 0))) : ((w.setCell ⟨k, 0, none⟩ c).setCell ⟨k, 1, none⟩ d).heap[k]? = some (.cells #[c, d] t (0, 0)) := by
  have h1 := setCell_at (o := 0) (u := c) h
  have h2 := setCell_at (o := 1) (u := d) h1
  exact h2
theorem two_other {w : World} {k j : Nat} {c d : Value} {x : Obj} (h : w.heap[j]? = some x) (hn : j ≠ k) : ((w.setCell ⟨k, 0, none⟩ c).setCell ⟨k, 1, none⟩ d).heap[j]? = some x := setCell_ne (setCell_ne h hn) hn
set_option maxRecDepth 100000 in
set_option maxHeartbeats 16000000 in
theorem back_law (A B : Option Addr) (ca cb : Nat) (a b : List Int) (C : Option Addr) (cc : Nat) (l : List Int) (n : Int) (w : World) (ha : Rr w (.slice A a.length ca) a) (hb : Rr w (.slice B b.length cb) b) (hc : Rr w (.slice C l.length cc) l) (ma : a.length ≤ maxLen) (mb : b.length ≤ maxLen) (ml : l.length ≤ maxLen) (hn : -9223372036854775808 ≤ n) :
    Calls Try.prog 7 #[.agg #[.slice A a.length ca, .slice B b.length cb], .slice C l.length cc, .int .i64 n] w fun e w' => e = .returned (.bool true) ∧ Below w.heap.size w w' := by
  have V := Lib.hid ((La.start w).box #[.slice A a.length ca, .slice B b.length cb] 24)
  by_cases hbig : a.length ≤ 1000 ∧ b.length ≤ 1000 ∧ l.length ≤ 1000
  case neg =>
    have hB : (!decide (a.length ≤ 1000 ∧ b.length ≤ 1000 ∧ l.length ≤ 1000)) = true := by rw [decide_eq_false hbig]; rfl
    clear hbig
    go_enter Try.func7, Try.ntmps7
    go_wp2_with fail
    refine (big_any A B C a.length b.length l.length ca cb cc _ ma mb ml).mono ?_
    rintro e w1 ⟨rfl, hb⟩
    rw [hB]
    replace V := Lib.hid (V.out.call hb)
    clear hb
    go_wp2
    go_ret
    exact ⟨rfl, V.out.below⟩
  have hB : (!decide (a.length ≤ 1000 ∧ b.length ≤ 1000 ∧ l.length ≤ 1000)) = false := by rw [decide_eq_true hbig]; rfl
  obtain ⟨la, lb, ll⟩ := hbig
  have HA := Lib.hid ha
  have HB := Lib.hid hb
  have HC := Lib.hid hc
  clear ha hb hc
  obtain ⟨x, y, hx⟩ : ∃ x y, inV (a, b) l = (x, y) := ⟨_, _, rfl⟩
  obtain ⟨lx, ly⟩ := in_len hx
  have HI := fun wz (h : Below w.heap.size w wz) => gin_any A B C ca cb cc a b l x y wz (HA.out.below h) (HB.out.below h) (HC.out.below h) la lb ll hx
  have HJ := fun wz (h : Below w.heap.size w wz) => gis_any A B ca cb a b wz (HA.out.below h) (HB.out.below h) la lb
  cases hg : rt (a, b)
  case false =>
    rw [hg] at HJ
    replace HJ := Lib.hid HJ
    have hE : inE (a, b) l = 1 := if_neg (by rw [hg]; simp)
    rw [hE] at HI
    replace HI := Lib.hid HI
    clear hx hg hE
    go_enter Try.func7, Try.ntmps7
    go_wp2_with fail
    refine (big_any A B C a.length b.length l.length ca cb cc _ ma mb ml).mono ?_
    rintro e w1 ⟨rfl, hb⟩
    rw [hB]
    replace V := Lib.hid (V.out.call hb)
    clear hb
    have gp := V.out.at 0 rfl
    obtain ⟨⟨m0a, m0b⟩, ⟨m0e, m0f⟩, m0z⟩ := blk2 gp
    clear gp
    go_wp2_with fail
    clear m0a m0b m0e m0f m0z
    refine (HI.out _ V.out.below).mono ?_
    rintro e w2 ⟨⟨U2, V2, p2, q2, rfl, hg⟩, hb⟩
    replace V := Lib.hid (V.out.call hb)
    clear hb
    replace V := Lib.hid (V.out.add _ hg (Stb.gr _ _ _ _ _ _))
    clear hg
    replace V := Lib.hid (V.out.box #[.slice U2 x.length p2, .slice V2 y.length q2] 24)
    have gp := V.out.at 2 rfl
    obtain ⟨⟨m0a, m0b⟩, ⟨m0e, m0f⟩, m0z⟩ := blk2 gp
    clear gp
    go_wp2_with fail
    clear m0a m0b m0e m0f m0z
    refine (HJ.out _ V.out.below).mono ?_
    rintro e w3 ⟨rfl, hb⟩
    replace V := Lib.hid (V.out.call hb)
    clear hb
    go_wp2_with fail
    refine (gapped_any _).mono ?_
    rintro e w4 ⟨rfl, hb⟩
    replace V := Lib.hid (V.out.call hb)
    clear hb
    go_wp2
    go_ret
    exact ⟨rfl, V.out.below⟩
  case true =>
    rw [hg] at HJ
    replace HJ := Lib.hid HJ
    obtain ⟨x2, y2, hx2⟩ : ∃ x y, cuV (a, b) n = (x, y) := ⟨_, _, rfl⟩
    obtain ⟨z, hz⟩ : ∃ z, cuL (a, b) n = z := ⟨_, rfl⟩
    obtain ⟨lx2, ly2, lz⟩ := cu_len hx2 hz la lb
    obtain ⟨x4, y4, hx4⟩ : ∃ x y, inV (x2, y2) z = (x, y) := ⟨_, _, rfl⟩
    obtain ⟨lx4, ly4⟩ := in_len hx4
    obtain ⟨i1, i2⟩ := cut_in (n := n) hg
    rw [hx2, hz] at i1 i2
    rw [hx4] at i2
    have HU := Lib.hid (fun wz (h : Below w.heap.size w wz) => gcut_any A B ca cb a b n x2 y2 z wz (HA.out.below h) (HB.out.below h) la lb hn hx2 hz)
    have HI2 := Lib.hid (fun (A B C : Option Addr) (ca cb cc : Nat) wz (h : Gr wz A B ca cb x2 y2) (hc : Rr wz (.slice C z.length cc) z) => (show Calls Try.prog 20 #[.agg #[.slice A x2.length ca, .slice B y2.length cb], .slice C z.length cc] wz fun e w' => OutE wz e w' x4 y4 0 by
      have h := gin_any A B C ca cb cc x2 y2 z x4 y4 wz h.1 h.2 hc lx2 ly2 lz hx4
      rwa [i1] at h))
    have HN := Lib.hid (show 0 < n → goV (x4, y4) (a.length : Int) = (a, b) from fun h => by rw [if_pos h] at i2; exact i2)
    have HM := Lib.hid (show ¬ 0 < n → a = x4 ∧ b = y4 from fun h => by
      rw [if_neg h] at i2
      injection i2 with h1 h2
      exact ⟨h1.symm, h2.symm⟩)
    have HK := Lib.hid (fun (h : inE (a, b) l = 0) => (show ∀ (A B : Option Addr) (ca cb : Nat) (n' : Int) (hn' : n' = 0 - (l.length : Int)) wz (k : Gr wz A B ca cb x y), Calls Try.prog 22 #[.agg #[.slice A x.length ca, .slice B y.length cb], .int .i64 n'] wz fun e w' => OutR wz e w' a b l from fun A B ca cb n' hn' wz k => by
      obtain ⟨j1, j2⟩ := in_cut h
      rw [hx] at j1 j2
      subst hn'
      unfold maxLen at ml
      exact gcut_any A B ca cb x y _ a b l wz k.1 k.2 lx ly (by omega) j1 j2))
    clear hx2 hz hx4 i1 i2 hx hg
    by_cases hE : inE (a, b) l = 0
    · by_cases h0 : 0 < n
      · skip
        replace HK := Lib.hid (HK.out hE)
        rw [hE] at HI
        replace HI := Lib.hid HI
        clear hE
        go_enter Try.func7, Try.ntmps7
        go_wp2_with fail
        refine (big_any A B C a.length b.length l.length ca cb cc _ ma mb ml).mono ?_
        rintro e w1 ⟨rfl, hb⟩
        rw [hB]
        replace V := Lib.hid (V.out.call hb)
        clear hb
        have gp := V.out.at 0 rfl
        obtain ⟨⟨m0a, m0b⟩, ⟨m0e, m0f⟩, m0z⟩ := blk2 gp
        clear gp
        go_wp2_with fail
        clear m0a m0b m0e m0f m0z
        refine (HI.out _ V.out.below).mono ?_
        rintro e w2 ⟨⟨U2, V2, p2, q2, rfl, hg⟩, hb⟩
        replace V := Lib.hid (V.out.call hb)
        clear hb
        replace V := Lib.hid (V.out.add _ hg (Stb.gr _ _ _ _ _ _))
        clear hg
        replace V := Lib.hid (V.out.box #[.slice U2 x.length p2, .slice V2 y.length q2] 24)
        go_wp2_with fail
        refine (HK.out U2 V2 p2 q2 _ (by omega) _ (V.out.at 1 rfl)).mono ?_
        rintro e w3 ⟨⟨U3, V3, p3, q3, Z3, k3, rfl, hg, hz⟩, hb⟩
        replace V := Lib.hid (V.out.call hb)
        clear hb
        replace V := Lib.hid (V.out.add _ hg (Stb.gr _ _ _ _ _ _))
        replace V := Lib.hid (V.out.add _ hz (Stb.rr _ _))
        clear hg hz
        replace V := Lib.hid (V.out.box #[.slice U3 a.length p3, .slice V3 b.length q3] 24)
        have gp := V.out.at 5 rfl
        obtain ⟨⟨m0a, m0b⟩, ⟨m0e, m0f⟩, m0z⟩ := blk2 gp
        clear gp
        go_wp2_with fail
        clear m0a m0b m0e m0f m0z
        refine (gsame_yes U3 V3 A B p3 q3 ca cb a b _ (V.out.at 2 rfl) ⟨HA.out.below V.out.below, HB.out.below V.out.below⟩ la lb).mono ?_
        rintro e w4 ⟨rfl, hb⟩
        replace V := Lib.hid (V.out.call hb)
        clear hb
        go_wp2_with fail
        refine (same_yes Z3 C k3 cc l _ (V.out.at 1 rfl) (HC.out.below V.out.below) (by omega)).mono ?_
        rintro e w5 ⟨rfl, hb⟩
        replace V := Lib.hid (V.out.call hb)
        clear hb
        have gp := V.out.at 5 rfl
        obtain ⟨⟨m0a, m0b⟩, ⟨m0e, m0f⟩, m0z⟩ := blk2 gp
        clear gp
        go_wp2_with fail
        clear m0a m0b m0e m0f m0z
        refine (HJ.out _ V.out.below).mono ?_
        rintro e w6 ⟨rfl, hb⟩
        replace V := Lib.hid (V.out.call hb)
        clear hb
        have gp := V.out.at 5 rfl
        obtain ⟨⟨m0a, m0b⟩, ⟨m0e, m0f⟩, m0z⟩ := blk2 gp
        clear gp
        go_wp2_with fail
        clear m0a m0b m0e m0f m0z
        refine (HU.out _ V.out.below).mono ?_
        rintro e w7 ⟨⟨U7, V7, p7, q7, Z7, k7, rfl, hg, hz⟩, hb⟩
        replace V := Lib.hid (V.out.call hb)
        clear hb
        replace V := Lib.hid (V.out.add _ hg (Stb.gr _ _ _ _ _ _))
        replace V := Lib.hid (V.out.add _ hz (Stb.rr _ _))
        clear hg hz
        replace V := Lib.hid (V.out.box #[.slice U7 x2.length p7, .slice V7 y2.length q7] 24)
        go_wp2_with fail
        refine (HI2.out U7 V7 Z7 p7 q7 k7 _ (V.out.at 2 rfl) (V.out.at 1 rfl)).mono ?_
        rintro e w8 ⟨⟨U8, V8, p8, q8, rfl, hg⟩, hb⟩
        replace V := Lib.hid (V.out.call hb)
        clear hb
        replace V := Lib.hid (V.out.add _ hg (Stb.gr _ _ _ _ _ _))
        clear hg
        have hk4 : w.heap.size ≤ w8.heap.size := V.out.below.size
        have hk0 : w.heap.size < w8.heap.size := lt_of_block (V.out.at 9 rfl)
        replace V := Lib.hid (V.out.box #[.slice U8 x4.length p8, .slice V8 y4.length q8] 24)
        have gp := V.out.at 10 rfl
        obtain ⟨⟨m0a, m0b⟩, ⟨m0e, m0f⟩, m0z⟩ := blk2 gp
        clear gp
        go_wp2_with fail
        clear m0a m0b m0e m0f m0z
        refine (ggo_any U8 V8 p8 q8 x4 y4 (a.length : Int) a b _ (V.out.at 1 rfl).1 (V.out.at 1 rfl).2 lx4 ly4 (HN.out h0)).mono ?_
        rintro e w9 ⟨⟨U9, V9, p9, q9, rfl, hg⟩, hb⟩
        replace V := Lib.hid (V.out.call hb)
        clear hb
        replace V := Lib.hid (V.out.add _ hg (Stb.gr _ _ _ _ _ _))
        clear hg
        have b0 := V.out.at 11 rfl
        have b4 := V.out.at 1 rfl
        have br := V.out.at 0 rfl
        have hne : w.heap.size ≠ w8.heap.size := Nat.ne_of_lt hk0
        have gp := V.out.at 1 rfl
        obtain ⟨⟨m0a, m0b⟩, ⟨m0e, m0f⟩, m0z⟩ := blk2 gp
        clear gp
        have VS := Lib.hid (La.store2 V.out w8.heap.size hk4 (.slice U9 a.length p9) (.slice V9 b.length q9))
        replace VS := Lib.hid (VS.out.add _ (Gr.upd (S := (· = w8.heap.size)) br (fun k hk => TwoS.of b4 hk) (upd_two _ _ _ _)) (Stb.gr _ _ _ _ _ _))
        replace VS := Lib.hid (VS.out.add (fun w' => w'.heap[w.heap.size]? = some (.cells #[.slice A a.length ca, .slice B b.length cb] 24 (0, 0))) (two_other b0 hne) (Stb.blk _ _))
        replace VS := Lib.hid (VS.out.add (fun w' => w'.heap[w8.heap.size]? = some (.cells #[.slice U9 a.length p9, .slice V9 b.length q9] 24 (0, 0))) (two_store b4) (Stb.blk _ _))
        clear b0 b4 br
        go_wp2_with fail
        clear m0a m0b m0e m0f m0z
        replace V := VS
        clear VS
        refine (gapped_any _).mono ?_
        rintro e w10 ⟨rfl, hb⟩
        replace V := Lib.hid (V.out.call hb)
        clear hb
        have gp := V.out.at 0 rfl
        obtain ⟨⟨m0a, m0b⟩, ⟨m0e, m0f⟩, m0z⟩ := blk2 gp
        clear gp
        have gp := V.out.at 1 rfl
        obtain ⟨⟨m1a, m1b⟩, ⟨m1e, m1f⟩, m1z⟩ := blk2 gp
        clear gp
        go_wp2_with fail
        clear m0a m0b m0e m0f m0z m1a m1b m1e m1f m1z
        refine (gsame_yes U9 V9 A B p9 q9 ca cb a b _ (V.out.at 2 rfl) ⟨HA.out.below V.out.below, HB.out.below V.out.below⟩ la lb).mono ?_
        rintro e w11 ⟨rfl, hb⟩
        replace V := Lib.hid (V.out.call hb)
        clear hb
        go_wp2
        go_ret
        exact ⟨rfl, V.out.below⟩
      · skip
        replace HK := Lib.hid (HK.out hE)
        rw [hE] at HI
        replace HI := Lib.hid HI
        clear hE
        obtain ⟨e1, e2⟩ := HM.out h0
        subst e1 e2
        clear HM
        go_enter Try.func7, Try.ntmps7
        go_wp2_with fail
        refine (big_any A B C a.length b.length l.length ca cb cc _ ma mb ml).mono ?_
        rintro e w1 ⟨rfl, hb⟩
        rw [hB]
        replace V := Lib.hid (V.out.call hb)
        clear hb
        have gp := V.out.at 0 rfl
        obtain ⟨⟨m0a, m0b⟩, ⟨m0e, m0f⟩, m0z⟩ := blk2 gp
        clear gp
        go_wp2_with fail
        clear m0a m0b m0e m0f m0z
        refine (HI.out _ V.out.below).mono ?_
        rintro e w2 ⟨⟨U2, V2, p2, q2, rfl, hg⟩, hb⟩
        replace V := Lib.hid (V.out.call hb)
        clear hb
        replace V := Lib.hid (V.out.add _ hg (Stb.gr _ _ _ _ _ _))
        clear hg
        replace V := Lib.hid (V.out.box #[.slice U2 x.length p2, .slice V2 y.length q2] 24)
        go_wp2_with fail
        refine (HK.out U2 V2 p2 q2 _ (by omega) _ (V.out.at 1 rfl)).mono ?_
        rintro e w3 ⟨⟨U3, V3, p3, q3, Z3, k3, rfl, hg, hz⟩, hb⟩
        replace V := Lib.hid (V.out.call hb)
        clear hb
        replace V := Lib.hid (V.out.add _ hg (Stb.gr _ _ _ _ _ _))
        replace V := Lib.hid (V.out.add _ hz (Stb.rr _ _))
        clear hg hz
        replace V := Lib.hid (V.out.box #[.slice U3 a.length p3, .slice V3 b.length q3] 24)
        have gp := V.out.at 5 rfl
        obtain ⟨⟨m0a, m0b⟩, ⟨m0e, m0f⟩, m0z⟩ := blk2 gp
        clear gp
        go_wp2_with fail
        clear m0a m0b m0e m0f m0z
        refine (gsame_yes U3 V3 A B p3 q3 ca cb a b _ (V.out.at 2 rfl) ⟨HA.out.below V.out.below, HB.out.below V.out.below⟩ la lb).mono ?_
        rintro e w4 ⟨rfl, hb⟩
        replace V := Lib.hid (V.out.call hb)
        clear hb
        go_wp2_with fail
        refine (same_yes Z3 C k3 cc l _ (V.out.at 1 rfl) (HC.out.below V.out.below) (by omega)).mono ?_
        rintro e w5 ⟨rfl, hb⟩
        replace V := Lib.hid (V.out.call hb)
        clear hb
        have gp := V.out.at 5 rfl
        obtain ⟨⟨m0a, m0b⟩, ⟨m0e, m0f⟩, m0z⟩ := blk2 gp
        clear gp
        go_wp2_with fail
        clear m0a m0b m0e m0f m0z
        refine (HJ.out _ V.out.below).mono ?_
        rintro e w6 ⟨rfl, hb⟩
        replace V := Lib.hid (V.out.call hb)
        clear hb
        have gp := V.out.at 5 rfl
        obtain ⟨⟨m0a, m0b⟩, ⟨m0e, m0f⟩, m0z⟩ := blk2 gp
        clear gp
        go_wp2_with fail
        clear m0a m0b m0e m0f m0z
        refine (HU.out _ V.out.below).mono ?_
        rintro e w7 ⟨⟨U7, V7, p7, q7, Z7, k7, rfl, hg, hz⟩, hb⟩
        replace V := Lib.hid (V.out.call hb)
        clear hb
        replace V := Lib.hid (V.out.add _ hg (Stb.gr _ _ _ _ _ _))
        replace V := Lib.hid (V.out.add _ hz (Stb.rr _ _))
        clear hg hz
        replace V := Lib.hid (V.out.box #[.slice U7 x2.length p7, .slice V7 y2.length q7] 24)
        go_wp2_with fail
        refine (HI2.out U7 V7 Z7 p7 q7 k7 _ (V.out.at 2 rfl) (V.out.at 1 rfl)).mono ?_
        rintro e w8 ⟨⟨U8, V8, p8, q8, rfl, hg⟩, hb⟩
        replace V := Lib.hid (V.out.call hb)
        clear hb
        replace V := Lib.hid (V.out.add _ hg (Stb.gr _ _ _ _ _ _))
        clear hg
        have hk4 : w.heap.size ≤ w8.heap.size := V.out.below.size
        have hk0 : w.heap.size < w8.heap.size := lt_of_block (V.out.at 9 rfl)
        replace V := Lib.hid (V.out.box #[.slice U8 a.length p8, .slice V8 b.length q8] 24)
        go_wp2_with fail
        refine (gapped_any _).mono ?_
        rintro e w9 ⟨rfl, hb⟩
        replace V := Lib.hid (V.out.call hb)
        clear hb
        have gp := V.out.at 0 rfl
        obtain ⟨⟨m0a, m0b⟩, ⟨m0e, m0f⟩, m0z⟩ := blk2 gp
        clear gp
        have gp := V.out.at 10 rfl
        obtain ⟨⟨m1a, m1b⟩, ⟨m1e, m1f⟩, m1z⟩ := blk2 gp
        clear gp
        go_wp2_with fail
        clear m0a m0b m0e m0f m0z m1a m1b m1e m1f m1z
        refine (gsame_yes U8 V8 A B p8 q8 ca cb a b _ (V.out.at 1 rfl) ⟨HA.out.below V.out.below, HB.out.below V.out.below⟩ la lb).mono ?_
        rintro e w10 ⟨rfl, hb⟩
        replace V := Lib.hid (V.out.call hb)
        clear hb
        go_wp2
        go_ret
        exact ⟨rfl, V.out.below⟩
    · by_cases h0 : 0 < n
      · skip
        generalize inE (a, b) l = E at HI hE
        have hE2 : (E == 0) = false := by simpa using hE
        clear HK
        replace HI := Lib.hid HI
        clear hE
        go_enter Try.func7, Try.ntmps7
        go_wp2_with fail
        refine (big_any A B C a.length b.length l.length ca cb cc _ ma mb ml).mono ?_
        rintro e w1 ⟨rfl, hb⟩
        rw [hB]
        replace V := Lib.hid (V.out.call hb)
        clear hb
        have gp := V.out.at 0 rfl
        obtain ⟨⟨m0a, m0b⟩, ⟨m0e, m0f⟩, m0z⟩ := blk2 gp
        clear gp
        go_wp2_with fail
        clear m0a m0b m0e m0f m0z
        refine (HI.out _ V.out.below).mono ?_
        rintro e w2 ⟨⟨U2, V2, p2, q2, rfl, hg⟩, hb⟩
        replace V := Lib.hid (V.out.call hb)
        clear hb
        replace V := Lib.hid (V.out.add _ hg (Stb.gr _ _ _ _ _ _))
        clear hg
        replace V := Lib.hid (V.out.box #[.slice U2 x.length p2, .slice V2 y.length q2] 24)
        have gp := V.out.at 2 rfl
        obtain ⟨⟨m0a, m0b⟩, ⟨m0e, m0f⟩, m0z⟩ := blk2 gp
        clear gp
        go_wp2_with fail
        clear m0a m0b m0e m0f m0z
        refine (HJ.out _ V.out.below).mono ?_
        rintro e w3 ⟨rfl, hb⟩
        replace V := Lib.hid (V.out.call hb)
        clear hb
        have gp := V.out.at 2 rfl
        obtain ⟨⟨m0a, m0b⟩, ⟨m0e, m0f⟩, m0z⟩ := blk2 gp
        clear gp
        go_wp2_with fail
        clear m0a m0b m0e m0f m0z
        refine (HU.out _ V.out.below).mono ?_
        rintro e w4 ⟨⟨U4, V4, p4, q4, Z4, k4, rfl, hg, hz⟩, hb⟩
        replace V := Lib.hid (V.out.call hb)
        clear hb
        replace V := Lib.hid (V.out.add _ hg (Stb.gr _ _ _ _ _ _))
        replace V := Lib.hid (V.out.add _ hz (Stb.rr _ _))
        clear hg hz
        replace V := Lib.hid (V.out.box #[.slice U4 x2.length p4, .slice V4 y2.length q4] 24)
        go_wp2_with fail
        refine (HI2.out U4 V4 Z4 p4 q4 k4 _ (V.out.at 2 rfl) (V.out.at 1 rfl)).mono ?_
        rintro e w5 ⟨⟨U5, V5, p5, q5, rfl, hg⟩, hb⟩
        replace V := Lib.hid (V.out.call hb)
        clear hb
        replace V := Lib.hid (V.out.add _ hg (Stb.gr _ _ _ _ _ _))
        clear hg
        have hk4 : w.heap.size ≤ w5.heap.size := V.out.below.size
        have hk0 : w.heap.size < w5.heap.size := lt_of_block (V.out.at 6 rfl)
        replace V := Lib.hid (V.out.box #[.slice U5 x4.length p5, .slice V5 y4.length q5] 24)
        have gp := V.out.at 7 rfl
        obtain ⟨⟨m0a, m0b⟩, ⟨m0e, m0f⟩, m0z⟩ := blk2 gp
        clear gp
        go_wp2_with fail
        clear m0a m0b m0e m0f m0z
        refine (ggo_any U5 V5 p5 q5 x4 y4 (a.length : Int) a b _ (V.out.at 1 rfl).1 (V.out.at 1 rfl).2 lx4 ly4 (HN.out h0)).mono ?_
        rintro e w6 ⟨⟨U6, V6, p6, q6, rfl, hg⟩, hb⟩
        replace V := Lib.hid (V.out.call hb)
        clear hb
        replace V := Lib.hid (V.out.add _ hg (Stb.gr _ _ _ _ _ _))
        clear hg
        have b0 := V.out.at 8 rfl
        have b4 := V.out.at 1 rfl
        have br := V.out.at 0 rfl
        have hne : w.heap.size ≠ w5.heap.size := Nat.ne_of_lt hk0
        have gp := V.out.at 1 rfl
        obtain ⟨⟨m0a, m0b⟩, ⟨m0e, m0f⟩, m0z⟩ := blk2 gp
        clear gp
        have VS := Lib.hid (La.store2 V.out w5.heap.size hk4 (.slice U6 a.length p6) (.slice V6 b.length q6))
        replace VS := Lib.hid (VS.out.add _ (Gr.upd (S := (· = w5.heap.size)) br (fun k hk => TwoS.of b4 hk) (upd_two _ _ _ _)) (Stb.gr _ _ _ _ _ _))
        replace VS := Lib.hid (VS.out.add (fun w' => w'.heap[w.heap.size]? = some (.cells #[.slice A a.length ca, .slice B b.length cb] 24 (0, 0))) (two_other b0 hne) (Stb.blk _ _))
        replace VS := Lib.hid (VS.out.add (fun w' => w'.heap[w5.heap.size]? = some (.cells #[.slice U6 a.length p6, .slice V6 b.length q6] 24 (0, 0))) (two_store b4) (Stb.blk _ _))
        clear b0 b4 br
        go_wp2_with fail
        clear m0a m0b m0e m0f m0z
        replace V := VS
        clear VS
        refine (gapped_any _).mono ?_
        rintro e w7 ⟨rfl, hb⟩
        replace V := Lib.hid (V.out.call hb)
        clear hb
        have gp := V.out.at 0 rfl
        obtain ⟨⟨m0a, m0b⟩, ⟨m0e, m0f⟩, m0z⟩ := blk2 gp
        clear gp
        have gp := V.out.at 1 rfl
        obtain ⟨⟨m1a, m1b⟩, ⟨m1e, m1f⟩, m1z⟩ := blk2 gp
        clear gp
        go_wp2_with fail
        clear m0a m0b m0e m0f m0z m1a m1b m1e m1f m1z
        refine (gsame_yes U6 V6 A B p6 q6 ca cb a b _ (V.out.at 2 rfl) ⟨HA.out.below V.out.below, HB.out.below V.out.below⟩ la lb).mono ?_
        rintro e w8 ⟨rfl, hb⟩
        replace V := Lib.hid (V.out.call hb)
        clear hb
        go_wp2
        go_ret
        exact ⟨rfl, V.out.below⟩
      · skip
        generalize inE (a, b) l = E at HI hE
        have hE2 : (E == 0) = false := by simpa using hE
        clear HK
        replace HI := Lib.hid HI
        clear hE
        obtain ⟨e1, e2⟩ := HM.out h0
        subst e1 e2
        clear HM
        go_enter Try.func7, Try.ntmps7
        go_wp2_with fail
        refine (big_any A B C a.length b.length l.length ca cb cc _ ma mb ml).mono ?_
        rintro e w1 ⟨rfl, hb⟩
        rw [hB]
        replace V := Lib.hid (V.out.call hb)
        clear hb
        have gp := V.out.at 0 rfl
        obtain ⟨⟨m0a, m0b⟩, ⟨m0e, m0f⟩, m0z⟩ := blk2 gp
        clear gp
        go_wp2_with fail
        clear m0a m0b m0e m0f m0z
        refine (HI.out _ V.out.below).mono ?_
        rintro e w2 ⟨⟨U2, V2, p2, q2, rfl, hg⟩, hb⟩
        replace V := Lib.hid (V.out.call hb)
        clear hb
        replace V := Lib.hid (V.out.add _ hg (Stb.gr _ _ _ _ _ _))
        clear hg
        replace V := Lib.hid (V.out.box #[.slice U2 x.length p2, .slice V2 y.length q2] 24)
        have gp := V.out.at 2 rfl
        obtain ⟨⟨m0a, m0b⟩, ⟨m0e, m0f⟩, m0z⟩ := blk2 gp
        clear gp
        go_wp2_with fail
        clear m0a m0b m0e m0f m0z
        refine (HJ.out _ V.out.below).mono ?_
        rintro e w3 ⟨rfl, hb⟩
        replace V := Lib.hid (V.out.call hb)
        clear hb
        have gp := V.out.at 2 rfl
        obtain ⟨⟨m0a, m0b⟩, ⟨m0e, m0f⟩, m0z⟩ := blk2 gp
        clear gp
        go_wp2_with fail
        clear m0a m0b m0e m0f m0z
        refine (HU.out _ V.out.below).mono ?_
        rintro e w4 ⟨⟨U4, V4, p4, q4, Z4, k4, rfl, hg, hz⟩, hb⟩
        replace V := Lib.hid (V.out.call hb)
        clear hb
        replace V := Lib.hid (V.out.add _ hg (Stb.gr _ _ _ _ _ _))
        replace V := Lib.hid (V.out.add _ hz (Stb.rr _ _))
        clear hg hz
        replace V := Lib.hid (V.out.box #[.slice U4 x2.length p4, .slice V4 y2.length q4] 24)
        go_wp2_with fail
        refine (HI2.out U4 V4 Z4 p4 q4 k4 _ (V.out.at 2 rfl) (V.out.at 1 rfl)).mono ?_
        rintro e w5 ⟨⟨U5, V5, p5, q5, rfl, hg⟩, hb⟩
        replace V := Lib.hid (V.out.call hb)
        clear hb
        replace V := Lib.hid (V.out.add _ hg (Stb.gr _ _ _ _ _ _))
        clear hg
        have hk4 : w.heap.size ≤ w5.heap.size := V.out.below.size
        have hk0 : w.heap.size < w5.heap.size := lt_of_block (V.out.at 6 rfl)
        replace V := Lib.hid (V.out.box #[.slice U5 a.length p5, .slice V5 b.length q5] 24)
        go_wp2_with fail
        refine (gapped_any _).mono ?_
        rintro e w6 ⟨rfl, hb⟩
        replace V := Lib.hid (V.out.call hb)
        clear hb
        have gp := V.out.at 0 rfl
        obtain ⟨⟨m0a, m0b⟩, ⟨m0e, m0f⟩, m0z⟩ := blk2 gp
        clear gp
        have gp := V.out.at 7 rfl
        obtain ⟨⟨m1a, m1b⟩, ⟨m1e, m1f⟩, m1z⟩ := blk2 gp
        clear gp
        go_wp2_with fail
        clear m0a m0b m0e m0f m0z m1a m1b m1e m1f m1z
        refine (gsame_yes U5 V5 A B p5 q5 ca cb a b _ (V.out.at 1 rfl) ⟨HA.out.below V.out.below, HB.out.below V.out.below⟩ la lb).mono ?_
        rintro e w7 ⟨rfl, hb⟩
        replace V := Lib.hid (V.out.call hb)
        clear hb
        go_wp2
        go_ret
        exact ⟨rfl, V.out.below⟩
end Go.Proofs.Ytogfnhhgbmnbpaa
