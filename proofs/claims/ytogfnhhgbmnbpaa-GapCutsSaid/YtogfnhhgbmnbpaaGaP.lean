/- Lines with a point: GapInserts, GapCuts. -/
import Derived.Test.YtogfnhhgbmnbpaaGaO
import Derived.Test.YtogfnhhgbmnbpaaGaI
import Derived.Test.YtogfnhhgbmnbpaaGaL
set_option linter.unusedVariables false
namespace Go.Proofs.Ytogfnhhgbmnbpaa
open Go.RowKit Go.PlainAid Gl L Gp
theorem Gp.in_len {a b l x y : List Int} (h : inV (a, b) l = (x, y)) : x.length ≤ 1000 ∧ y.length ≤ 1000 := by
  by_cases h0 : inE (a, b) l = 0
  · obtain ⟨_, _, h3, h4⟩ := in_ok h0
    rw [h4] at h
    injection h with h1 h2
    subst h1 h2
    dsimp only at *
    rw [List.length_append]
    omega
  · rw [in_no h0] at h
    injection h with h1 h2
    subst h1 h2
    exact ⟨Nat.zero_le _, Nat.zero_le _⟩
theorem Gp.cu_len {a b x y z : List Int} {n : Int} (hx : cuV (a, b) n = (x, y)) (hz : cuL (a, b) n = z) (la : a.length ≤ 1000) (lb : b.length ≤ 1000) : x.length ≤ 1000 ∧ y.length ≤ 1000 ∧ z.length ≤ 1000 := by
  cases hg : rt (a, b)
  · obtain ⟨e1, e2⟩ := cu_none (n := n) (.inl hg)
    rw [e1] at hx
    rw [e2] at hz
    injection hx with h1 h2
    subst h1 h2 hz
    exact ⟨la, lb, Nat.zero_le _⟩
  · obtain ⟨h1, h2, h3⟩ := cu_rt (n := n) hg
    have h4 := (rt_txt _ hg).2
    rw [hx] at h1 h2
    rw [hz] at h2
    rw [txt_len] at h2
    dsimp only at h2
    omega
theorem gsame_yes (A B C D : Option Addr) (ca cb cc cd : Nat) (a b : List Int) (w : World) (h : Gr w A B ca cb a b) (k : Gr w C D cc cd a b) (la : a.length ≤ 1000) (lb : b.length ≤ 1000) :
    Calls Try.prog 12 #[.agg #[.slice A a.length ca, .slice B b.length cb], .agg #[.slice C a.length cc, .slice D b.length cd]] w fun e w' => e = .returned (.bool true) ∧ Below w.heap.size w w' := by
  have h := gsame_any A B C D ca cb cc cd a b a b w h.1 h.2 k.1 k.2 la lb la lb
  rw [decide_eq_true rfl] at h
  exact h
theorem same_yes (A B : Option Addr) (ca cb : Nat) (a : List Int) (w : World) (h : Rr w (.slice A a.length ca) a) (k : Rr w (.slice B a.length cb) a) (la : a.length ≤ 2000) :
    Calls Try.prog 15 #[.slice A a.length ca, .slice B a.length cb] w fun e w' => e = .returned (.bool true) ∧ Below w.heap.size w w' := by
  have h := same_any _ _ a a w h.row k.row (by omega) (by omega)
  rw [decide_eq_true rfl] at h
  exact h
set_option maxRecDepth 100000 in
set_option maxHeartbeats 16000000 in
theorem inserts_law (A B : Option Addr) (ca cb : Nat) (a b : List Int) (C : Option Addr) (cc : Nat) (l : List Int) (w : World) (ha : Rr w (.slice A a.length ca) a) (hb : Rr w (.slice B b.length cb) b) (hc : Rr w (.slice C l.length cc) l) (ma : a.length ≤ maxLen) (mb : b.length ≤ maxLen) (ml : l.length ≤ maxLen) :
    Calls Try.prog 4 #[.agg #[.slice A a.length ca, .slice B b.length cb], .slice C l.length cc] w fun e w' => e = .returned (.bool true) ∧ Below w.heap.size w w' := by
  have V := Lib.hid ((La.start w).box #[.slice A a.length ca, .slice B b.length cb] 24)
  by_cases hbig : a.length ≤ 1000 ∧ b.length ≤ 1000 ∧ l.length ≤ 1000
  case neg =>
    have hB : (!decide (a.length ≤ 1000 ∧ b.length ≤ 1000 ∧ l.length ≤ 1000)) = true := by rw [decide_eq_false hbig]; rfl
    clear hbig
    go_enter Try.func4, Try.ntmps4
    go_wp2_with fail
    refine (big_any A B C a.length b.length l.length ca cb cc _ ma mb ml).mono ?_
    rintro e w1 ⟨rfl, hb⟩
    rw [hB]
    replace V := Lib.hid (V.out.call hb)
    clear hb
    go_wp2
    go_ret
    exact ⟨rfl, V.out.below⟩
  have hB : (!decide (a.length ≤ 1000 ∧ b.length ≤ 1000 ∧ l.length ≤ 1000)) = false := by rw [decide_eq_true hbig]; rfl
  obtain ⟨la, lb, ll⟩ := hbig
  have HA := Lib.hid ha
  have HB := Lib.hid hb
  have HC := Lib.hid hc
  clear ha hb hc
  obtain ⟨x, y, hx⟩ : ∃ x y, inV (a, b) l = (x, y) := ⟨_, _, rfl⟩
  obtain ⟨lx, ly⟩ := in_len hx
  have HI := fun wz (h : Below w.heap.size w wz) => gin_any A B C ca cb cc a b l x y wz (HA.out.below h) (HB.out.below h) (HC.out.below h) la lb ll hx
  have HR := fun wz (h : Below w.heap.size w wz) => rgin_any A B C ca cb cc a b l x y wz (HA.out.below h) (HB.out.below h) (HC.out.below h) la lb ll hx
  clear hx
  generalize inE (a, b) l = E at HI HR
  replace HI := Lib.hid HI
  replace HR := Lib.hid HR
  go_enter Try.func4, Try.ntmps4
  go_wp2_with fail
  refine (big_any A B C a.length b.length l.length ca cb cc _ ma mb ml).mono ?_
  rintro e w1 ⟨rfl, hb⟩
  rw [hB]
  replace V := Lib.hid (V.out.call hb)
  clear hb
  have gp := V.out.at 0 rfl
  obtain ⟨⟨m0a, m0b⟩, ⟨m0e, m0f⟩, m0z⟩ := blk2 gp
  clear gp
  go_wp2_with fail
  clear m0a m0b m0e m0f m0z
  refine (HI.out _ V.out.below).mono ?_
  rintro e w2 ⟨⟨U2, V2, p2, q2, rfl, hg⟩, hb⟩
  replace V := Lib.hid (V.out.call hb)
  clear hb
  replace V := Lib.hid (V.out.add _ hg (Stb.gr _ _ _ _ _ _))
  clear hg
  replace V := Lib.hid (V.out.box #[.slice U2 x.length p2, .slice V2 y.length q2] 24)
  have gp := V.out.at 2 rfl
  obtain ⟨⟨m0a, m0b⟩, ⟨m0e, m0f⟩, m0z⟩ := blk2 gp
  clear gp
  go_wp2_with fail
  clear m0a m0b m0e m0f m0z
  refine (HR.out _ V.out.below).mono ?_
  rintro e w3 ⟨⟨U3, V3, p3, q3, rfl, hg⟩, hb⟩
  replace V := Lib.hid (V.out.call hb)
  clear hb
  replace V := Lib.hid (V.out.add _ hg (Stb.gr _ _ _ _ _ _))
  clear hg
  replace V := Lib.hid (V.out.box #[.slice U3 x.length p3, .slice V3 y.length q3] 24)
  go_wp2_with fail
  refine (gapped_any _).mono ?_
  rintro e w4 ⟨rfl, hb⟩
  replace V := Lib.hid (V.out.call hb)
  clear hb
  have gp := V.out.at 2 rfl
  obtain ⟨⟨m0a, m0b⟩, ⟨m0e, m0f⟩, m0z⟩ := blk2 gp
  clear gp
  have gp := V.out.at 0 rfl
  obtain ⟨⟨m1a, m1b⟩, ⟨m1e, m1f⟩, m1z⟩ := blk2 gp
  clear gp
  go_wp2_with fail
  clear m0a m0b m0e m0f m0z m1a m1b m1e m1f m1z
  refine (gsame_yes U2 V2 U3 V3 p2 q2 p3 q3 x y _ (V.out.at 3 rfl) (V.out.at 1 rfl) lx ly).mono ?_
  rintro e w5 ⟨rfl, hb⟩
  replace V := Lib.hid (V.out.call hb)
  clear hb
  go_wp2
  go_ret
  exact ⟨rfl, V.out.below⟩
set_option maxRecDepth 100000 in
set_option maxHeartbeats 16000000 in
theorem cuts_law (A B : Option Addr) (ca cb : Nat) (a b : List Int) (n : Int) (w : World) (ha : Rr w (.slice A a.length ca) a) (hb : Rr w (.slice B b.length cb) b) (ma : a.length ≤ maxLen) (mb : b.length ≤ maxLen) (hn : -9223372036854775808 ≤ n) :
    Calls Try.prog 5 #[.agg #[.slice A a.length ca, .slice B b.length cb], .int .i64 n] w fun e w' => e = .returned (.bool true) ∧ Below w.heap.size w w' := by
  have V := Lib.hid ((La.start w).box #[.slice A a.length ca, .slice B b.length cb] 24)
  by_cases hbig : a.length ≤ 1000 ∧ b.length ≤ 1000 ∧ 0 ≤ 1000
  case neg =>
    have hB : (!decide (a.length ≤ 1000 ∧ b.length ≤ 1000 ∧ 0 ≤ 1000)) = true := by rw [decide_eq_false hbig]; rfl
    clear hbig
    go_enter Try.func5, Try.ntmps5
    go_wp2_with fail
    refine (big_any A B none a.length b.length 0 ca cb 0 _ ma mb (Nat.zero_le _)).mono ?_
    rintro e w1 ⟨rfl, hb⟩
    rw [hB]
    replace V := Lib.hid (V.out.call hb)
    clear hb
    go_wp2
    go_ret
    exact ⟨rfl, V.out.below⟩
  have hB : (!decide (a.length ≤ 1000 ∧ b.length ≤ 1000 ∧ 0 ≤ 1000)) = false := by rw [decide_eq_true hbig]; rfl
  obtain ⟨la, lb, ll⟩ := hbig
  have HA := Lib.hid ha
  have HB := Lib.hid hb
  clear ha hb
  obtain ⟨x, y, hx⟩ : ∃ x y, cuV (a, b) n = (x, y) := ⟨_, _, rfl⟩
  obtain ⟨z, hz⟩ : ∃ z, cuL (a, b) n = z := ⟨_, rfl⟩
  obtain ⟨lx, ly, lz⟩ := cu_len hx hz la lb
  have HI := Lib.hid (fun wz (h : Below w.heap.size w wz) => gcut_any A B ca cb a b n x y z wz (HA.out.below h) (HB.out.below h) la lb hn hx hz)
  have HR := Lib.hid (fun wz (h : Below w.heap.size w wz) => rgcut_any A B ca cb a b n x y z wz (HA.out.below h) (HB.out.below h) la lb hn hx hz)
  clear hx hz
  go_enter Try.func5, Try.ntmps5
  go_wp2_with fail
  refine (big_any A B none a.length b.length 0 ca cb 0 _ ma mb (Nat.zero_le _)).mono ?_
  rintro e w1 ⟨rfl, hb⟩
  rw [hB]
  replace V := Lib.hid (V.out.call hb)
  clear hb
  have gp := V.out.at 0 rfl
  obtain ⟨⟨m0a, m0b⟩, ⟨m0e, m0f⟩, m0z⟩ := blk2 gp
  clear gp
  go_wp2_with fail
  clear m0a m0b m0e m0f m0z
  refine (HI.out _ V.out.below).mono ?_
  rintro e w2 ⟨⟨U2, V2, p2, q2, Z2, k2, rfl, hg, hz⟩, hb⟩
  replace V := Lib.hid (V.out.call hb)
  clear hb
  replace V := Lib.hid (V.out.add _ hg (Stb.gr _ _ _ _ _ _))
  replace V := Lib.hid (V.out.add _ hz (Stb.rr _ _))
  clear hg hz
  replace V := Lib.hid (V.out.box #[.slice U2 x.length p2, .slice V2 y.length q2] 24)
  have gp := V.out.at 3 rfl
  obtain ⟨⟨m0a, m0b⟩, ⟨m0e, m0f⟩, m0z⟩ := blk2 gp
  clear gp
  go_wp2_with fail
  clear m0a m0b m0e m0f m0z
  refine (HR.out _ V.out.below).mono ?_
  rintro e w3 ⟨⟨U3, V3, p3, q3, Z3, k3, rfl, hg, hz⟩, hb⟩
  replace V := Lib.hid (V.out.call hb)
  clear hb
  replace V := Lib.hid (V.out.add _ hg (Stb.gr _ _ _ _ _ _))
  replace V := Lib.hid (V.out.add _ hz (Stb.rr _ _))
  clear hg hz
  replace V := Lib.hid (V.out.box #[.slice U3 x.length p3, .slice V3 y.length q3] 24)
  go_wp2_with fail
  refine (gapped_any _).mono ?_
  rintro e w4 ⟨rfl, hb⟩
  replace V := Lib.hid (V.out.call hb)
  clear hb
  have gp := V.out.at 3 rfl
  obtain ⟨⟨m0a, m0b⟩, ⟨m0e, m0f⟩, m0z⟩ := blk2 gp
  clear gp
  have gp := V.out.at 0 rfl
  obtain ⟨⟨m1a, m1b⟩, ⟨m1e, m1f⟩, m1z⟩ := blk2 gp
  clear gp
  go_wp2_with fail
  clear m0a m0b m0e m0f m0z m1a m1b m1e m1f m1z
  refine (gsame_yes U2 V2 U3 V3 p2 q2 p3 q3 x y _ (V.out.at 5 rfl) (V.out.at 2 rfl) lx ly).mono ?_
  rintro e w5 ⟨rfl, hb⟩
  replace V := Lib.hid (V.out.call hb)
  clear hb
  go_wp2_with fail
  refine (same_yes Z2 Z3 k2 k3 z _ (V.out.at 4 rfl) (V.out.at 1 rfl) (by omega)).mono ?_
  rintro e w6 ⟨rfl, hb⟩
  replace V := Lib.hid (V.out.call hb)
  clear hb
  go_wp2
  go_ret
  exact ⟨rfl, V.out.below⟩
end Go.Proofs.Ytogfnhhgbmnbpaa
