/- Lines with a point: GapDoes. -/
import Derived.Test.YtogfnhhgbmnbpaaGaQ
import Derived.Test.YtogfnhhgbmnbpaaGaJ
import Derived.Test.YtogfnhhgbmnbpaaGaK
import Derived.Test.YtogfnhhgbmnbpaaGaM
import Derived.Test.YtogfnhhgbmnbpaaGaN
import Derived.BigGuardPart
import Derived.Deep.RegionHeld3
set_option linter.unusedVariables false
namespace Go.Proofs.Ytogfnhhgbmnbpaa
open Go.RowKit Go.PlainAid Gl L Gp
theorem Gp.of_len {l x y : List Int} {n : Int} (h : ofV l n = (x, y)) (ll : l.length ≤ 1000) : x.length ≤ 1000 ∧ y.length ≤ 1000 := by
  unfold ofV at h
  split at h
  · injection h with h1 h2
    subst h1 h2
    rw [List.length_take, List.length_drop]
    omega
  · injection h with h1 h2
    subst h1 h2
    exact ⟨Nat.zero_le _, Nat.zero_le _⟩
theorem rggo_any (A B : Option Addr) (ca cb : Nat) (a b : List Int) (n : Int) (x y : List Int) (w : World) (ha : Rr w (.slice A a.length ca) a) (hb : Rr w (.slice B b.length cb) b) (la : a.length ≤ 1000) (lb : b.length ≤ 1000) (hx : goV (a, b) n = (x, y)) :
    Calls Try.prog 19 #[.agg #[.slice A a.length ca, .slice B b.length cb], .int .i64 n] w fun e w' => OutG w e w' x y := by
  cases hg : rt (a, b)
  · have V := Lib.hid (((La.start w).box #[.slice A a.length ca, .slice B b.length cb] 24).box #[.slice none 0 0, .slice none 0 0] 24)
    have HA := Lib.hid ha
    have HB := Lib.hid hb
    clear ha hb
    obtain ⟨rfl, rfl⟩ : a = x ∧ b = y := by
      have e1 : goV (a, b) n = (a, b) := if_neg (by rw [hg]; decide)
      rw [e1] at hx
      injection hx with h1 h2
      exact ⟨h1, h2⟩
    clear hx
    go_enter Try.func19, Try.ntmps19
    go_wp2_with fail
    refine (rgis_any A B ca cb a b _ (HA.out.below V.out.below) (HB.out.below V.out.below) la lb).mono ?_
    rintro e w1 ⟨rfl, hb⟩
    rw [hg]
    replace V := Lib.hid (V.out.call hb)
    clear hb
    have g0 := V.out.at 0 rfl
    rw [one_size] at g0
    obtain ⟨⟨c0, c1⟩, ⟨f0, f1⟩, hz1⟩ := blk2 g0
    obtain ⟨⟨d0, d1⟩, ⟨k0, k1⟩, hz2⟩ := blk2 (V.out.at 1 rfl)
    clear g0
    go_wp2
    refine bodyPost_ret (v := .agg #[.slice A a.length ca, .slice B b.length cb]) (by simp [results, Try.results19, go_sem, *]) rfl (and_below ?_ fun hB => ?_)
    · repeat (first | (with_reducible exact V.out.below) | refine Below.setCell ?_ (by simp) _)
    · exact ⟨_, _, _, _, rfl, HA.out.below hB, HB.out.below hB⟩
  · obtain ⟨l, hl⟩ : ∃ l, l = a ++ b := ⟨_, rfl⟩
    have e1 : goV (a, b) n = (l.take (wi n l.length), l.drop (wi n l.length)) := by
      have : goV (a, b) n = at' (txt (a, b)) (wi n (txt (a, b)).length) := if_pos hg
      rw [this]
      show (((a ++ b).take _, (a ++ b).drop _) : Ln) = _
      rw [hl]; rfl
    rw [e1] at hx
    have ll : l.length ≤ 200 := by
      have := (rt_txt _ hg).2
      rw [hl]; exact this
    injection hx with hx1 hx2
    unfold wi at hx1 hx2
    by_cases h0 : n < 0
    · rw [if_pos h0, List.take_zero] at hx1
      rw [if_pos h0, List.drop_zero] at hx2
      exact rgo_lt A B ca cb a b l n x y w ha hb la lb hg hl ll h0 hx1.symm hx2
    · rw [if_neg h0] at hx1 hx2
      by_cases h1 : (l.length : Int) < n
      · rw [if_pos h1, List.take_length] at hx1
        rw [if_pos h1, List.drop_length] at hx2
        exact rgo_gt A B ca cb a b l n x y w ha hb la lb hg hl ll h1 hx1 hx2.symm
      · rw [if_neg h1] at hx1 hx2
        obtain ⟨m, rfl⟩ := Int.eq_ofNat_of_zero_le (Int.not_lt.1 h0)
        rw [Int.toNat_natCast] at hx1 hx2
        exact rgo_mid A B ca cb a b l (m : Int) x y w ha hb la lb hg hl ll m rfl (by omega) hx1 hx2
set_option maxRecDepth 100000 in
set_option maxHeartbeats 16000000 in
theorem does_law (A B : Option Addr) (ca cb : Nat) (a b : List Int) (C : Option Addr) (cc : Nat) (l : List Int) (n : Int) (w : World) (ha : Rr w (.slice A a.length ca) a) (hb : Rr w (.slice B b.length cb) b) (hc : Rr w (.slice C l.length cc) l) (ma : a.length ≤ maxLen) (mb : b.length ≤ maxLen) (ml : l.length ≤ maxLen) (hn : -9223372036854775808 ≤ n) :
    Calls Try.prog 3 #[.agg #[.slice A a.length ca, .slice B b.length cb], .slice C l.length cc, .int .i64 n] w fun e w' => e = .returned (.bool true) ∧ Below w.heap.size w w' := by
  have V := Lib.hid ((La.start w).box #[.slice A a.length ca, .slice B b.length cb] 24)
  by_cases hbig : a.length ≤ 1000 ∧ b.length ≤ 1000 ∧ l.length ≤ 1000
  case neg =>
    have hB : (!decide (a.length ≤ 1000 ∧ b.length ≤ 1000 ∧ l.length ≤ 1000)) = true := by rw [decide_eq_false hbig]; rfl
    clear hbig
    go_enter Try.func3, Try.ntmps3
    go_wp2_with fail
    refine (big_any A B C a.length b.length l.length ca cb cc _ ma mb ml).mono ?_
    rintro e w1 ⟨rfl, hb⟩
    rw [hB]
    replace V := Lib.hid (V.out.call hb)
    clear hb
    go_wp2
    go_ret
    exact ⟨rfl, V.out.below⟩
  have hB : (!decide (a.length ≤ 1000 ∧ b.length ≤ 1000 ∧ l.length ≤ 1000)) = false := by rw [decide_eq_true hbig]; rfl
  obtain ⟨la, lb, ll⟩ := hbig
  have HA := Lib.hid ha
  have HB := Lib.hid hb
  have HC := Lib.hid hc
  clear ha hb hc
  obtain ⟨x, y, hx⟩ : ∃ x y, ofV l n = (x, y) := ⟨_, _, rfl⟩
  obtain ⟨lx, ly⟩ := of_len hx ll
  obtain ⟨x3, y3, hx3⟩ : ∃ x y, goV (a, b) n = (x, y) := ⟨_, _, rfl⟩
  obtain ⟨lx3, ly3⟩ := go_len hx3 la lb
  obtain ⟨t, ht⟩ : ∃ t, t = a ++ b := ⟨_, rfl⟩
  have lt : t.length ≤ 2000 := by rw [ht, List.length_append]; omega
  have HO := fun wz (h : Below w.heap.size w wz) => gof_any C cc l n x y wz (HC.out.below h) ll hx
  have HRO := fun wz (h : Below w.heap.size w wz) => rgof_any C cc l n x y wz (HC.out.below h) ll hx
  generalize ofE l n = E at HO HRO
  have HJ := fun wz (h : Below w.heap.size w wz) => gis_any A B ca cb a b wz (HA.out.below h) (HB.out.below h) la lb
  have HRJ := fun wz (h : Below w.heap.size w wz) => rgis_any A B ca cb a b wz (HA.out.below h) (HB.out.below h) la lb
  generalize rt (a, b) = rb at HJ HRJ
  have HT := Lib.hid (fun wz (h : Below w.heap.size w wz) => gtext_any A B ca cb a b wz (HA.out.below h) (HB.out.below h) la lb t ht)
  have HRT := Lib.hid (fun wz (h : Below w.heap.size w wz) => rgtext_any A B ca cb a b wz (HA.out.below h) (HB.out.below h) la lb t ht)
  have HG := Lib.hid (fun wz (h : Below w.heap.size w wz) => ggo_any A B ca cb a b n x3 y3 wz (HA.out.below h) (HB.out.below h) la lb hx3)
  have HRG := Lib.hid (fun wz (h : Below w.heap.size w wz) => rggo_any A B ca cb a b n x3 y3 wz (HA.out.below h) (HB.out.below h) la lb hx3)
  replace HO := Lib.hid HO
  replace HRO := Lib.hid HRO
  replace HJ := Lib.hid HJ
  replace HRJ := Lib.hid HRJ
  clear hx hx3 ht
  go_enter Try.func3, Try.ntmps3
  go_wp2_with fail
  refine (big_any A B C a.length b.length l.length ca cb cc _ ma mb ml).mono ?_
  rintro e w1 ⟨rfl, hb⟩
  rw [hB]
  replace V := Lib.hid (V.out.call hb)
  clear hb
  go_wp2_with fail
  refine (HO.out _ V.out.below).mono ?_
  rintro e w2 ⟨⟨U2, V2, p2, q2, rfl, hg⟩, hb⟩
  replace V := Lib.hid (V.out.call hb)
  clear hb
  replace V := Lib.hid (V.out.add _ hg (Stb.gr _ _ _ _ _ _))
  clear hg
  replace V := Lib.hid (V.out.box #[.slice U2 x.length p2, .slice V2 y.length q2] 24)
  go_wp2_with fail
  refine (HRO.out _ V.out.below).mono ?_
  rintro e w3 ⟨⟨U3, V3, p3, q3, rfl, hg⟩, hb⟩
  replace V := Lib.hid (V.out.call hb)
  clear hb
  replace V := Lib.hid (V.out.add _ hg (Stb.gr _ _ _ _ _ _))
  clear hg
  replace V := Lib.hid (V.out.box #[.slice U3 x.length p3, .slice V3 y.length q3] 24)
  have gp := V.out.at 4 rfl
  obtain ⟨⟨m0a, m0b⟩, ⟨m0e, m0f⟩, m0z⟩ := blk2 gp
  clear gp
  have gp := V.out.at 2 rfl
  obtain ⟨⟨m1a, m1b⟩, ⟨m1e, m1f⟩, m1z⟩ := blk2 gp
  clear gp
  have gp := V.out.at 0 rfl
  obtain ⟨⟨m2a, m2b⟩, ⟨m2e, m2f⟩, m2z⟩ := blk2 gp
  clear gp
  go_wp2
  have VD := Lib.hid V.out.drew
  refine wp_region_held_drew (S := fun w' => w'.cell? ⟨w.heap.size, 0, none⟩ = some (.slice A a.length ca) ∧ w'.cell? ⟨w.heap.size, 1, none⟩ = some (.slice B b.length cb) ∧ w'.cell? ⟨w2.heap.size, 0, none⟩ = some (.slice U2 x.length p2) ∧ w'.cell? ⟨w2.heap.size, 1, none⟩ = some (.slice V2 y.length q2) ∧ w'.cell? ⟨w3.heap.size, 0, none⟩ = some (.slice U3 x.length p3) ∧ w'.cell? ⟨w3.heap.size, 1, none⟩ = some (.slice V3 y.length q3) ∧ Below w.heap.size w w') (by kernel_rfl) (by exact ⟨by go_keep, by go_keep, by go_keep, by go_keep, by go_keep, by go_keep, Below.drew V.out.below⟩) (fun hHeld => ?_)
  refine wpAnyH_ready (rs := [0]) (by kernel_rfl) (by simp) ?_
  refine AllReadyH.cons rfl (fun K hK => ?_) AllReadyH.nil
  go_simp
  go_at_call 11; refine (gapped_any _).mono ?_; rintro e wq ⟨rfl, hb⟩; (try replace hrT := hrT.below hb); (try replace hrS := hrS.below hb); (try replace hrG := hrG.below hb); (try replace hrH := hrH.below hb); replace VD := Lib.hid (VD.out.call hb)
  refine hK.out _ _ (by exact keep6 hb hHeld) (fun hHeld2 => ?_)
  clear hK K hHeld
  have hHeld := hHeld2
  clear hHeld2
  clear hb
  (try simp only [Act.put, List.setIfInBounds_toArray, List.set_cons_zero, List.set_cons_succ])
  refine held_take (i := 1) (d := (some 27)) (v := ?_) rfl rfl (by kernel_rfl) (by kernel_rfl) (by kernel_rfl) (fun _ _ _ h => h) (by rfl) ?_ (by assumption) ?_
  rotate_left
  · (intro w hSw; (try dsimp only at hSw); go_simp; try with_reducible rfl)
  (try simp only [Act.put, List.setIfInBounds_toArray, List.set_cons_zero, List.set_cons_succ])
  refine held_take (i := 2) (d := (some 28)) (v := ?_) rfl rfl (by kernel_rfl) (by kernel_rfl) (by kernel_rfl) (fun _ _ _ h => h) (by rfl) ?_ (by assumption) ?_
  rotate_left
  · (intro w hSw; (try dsimp only at hSw); go_simp; try with_reducible rfl)
  (try simp only [Act.put, List.setIfInBounds_toArray, List.set_cons_zero, List.set_cons_succ])
  refine held_take (i := 3) (d := (some 29)) (v := ?_) rfl rfl (by kernel_rfl) (by kernel_rfl) (by kernel_rfl) (fun _ _ _ h => h) (by rfl) ?_ (by assumption) ?_
  rotate_left
  · (intro w hSw; (try dsimp only at hSw); go_simp; try with_reducible rfl)
  (try simp only [Act.put, List.setIfInBounds_toArray, List.set_cons_zero, List.set_cons_succ])
  refine wpAnyH_ready (rs := [4]) (by kernel_rfl) (by simp) ?_
  refine AllReadyH.cons rfl (fun K hK => ?_) AllReadyH.nil
  go_simp
  go_at_call 12; refine (gsame_yes U2 V2 U3 V3 p2 q2 p3 q3 x y _ (VD.out.at 3 rfl) (VD.out.at 1 rfl) lx ly).mono ?_; rintro e wq ⟨rfl, hb⟩; (try replace hrT := hrT.below hb); (try replace hrS := hrS.below hb); (try replace hrG := hrG.below hb); (try replace hrH := hrH.below hb); replace VD := Lib.hid (VD.out.call hb)
  refine hK.out _ _ (by exact keep6 hb hHeld) (fun hHeld2 => ?_)
  clear hK K hHeld
  have hHeld := hHeld2
  clear hHeld2
  clear hb
  (try simp only [Act.put, List.setIfInBounds_toArray, List.set_cons_zero, List.set_cons_succ])
  refine held_take (i := 5) (d := (some 31)) (v := ?_) rfl rfl (by kernel_rfl) (by kernel_rfl) (by kernel_rfl) (fun _ _ _ h => h) (by rfl) ?_ (by assumption) ?_
  rotate_left
  · (intro w hSw; (try dsimp only at hSw); go_simp; try with_reducible rfl)
  (try simp only [Act.put, List.setIfInBounds_toArray, List.set_cons_zero, List.set_cons_succ])
  refine held_take (i := 6) (d := (some 32)) (v := ?_) rfl rfl (by kernel_rfl) (by kernel_rfl) (by kernel_rfl) (fun _ _ _ h => h) (by rfl) ?_ (by assumption) ?_
  rotate_left
  · (intro w hSw; (try dsimp only at hSw); go_simp; try with_reducible rfl)
  (try simp only [Act.put, List.setIfInBounds_toArray, List.set_cons_zero, List.set_cons_succ])
  refine held_take (i := 7) (d := (some 33)) (v := ?_) rfl rfl (by kernel_rfl) (by kernel_rfl) (by kernel_rfl) (fun _ _ _ h => h) (by rfl) ?_ (by assumption) ?_
  rotate_left
  · (intro w hSw; (try dsimp only at hSw); go_simp; try with_reducible rfl)
  (try simp only [Act.put, List.setIfInBounds_toArray, List.set_cons_zero, List.set_cons_succ])
  refine held_take (i := 8) (d := (some 34)) (v := ?_) rfl rfl (by kernel_rfl) (by kernel_rfl) (by kernel_rfl) (fun _ _ _ h => h) (by rfl) ?_ (by assumption) ?_
  rotate_left
  · (intro w hSw; (try dsimp only at hSw); go_simp; try with_reducible rfl)
  (try simp only [Act.put, List.setIfInBounds_toArray, List.set_cons_zero, List.set_cons_succ])
  refine held_take (i := 9) (d := (some 35)) (v := ?_) rfl rfl (by kernel_rfl) (by kernel_rfl) (by kernel_rfl) (fun _ _ _ h => h) (by rfl) ?_ (by assumption) ?_
  rotate_left
  · (intro w hSw; (try dsimp only at hSw); go_simp; try with_reducible rfl)
  (try simp only [Act.put, List.setIfInBounds_toArray, List.set_cons_zero, List.set_cons_succ])
  refine held_take (i := 10) (d := (some 36)) (v := ?_) rfl rfl (by kernel_rfl) (by kernel_rfl) (by kernel_rfl) (fun _ _ _ h => h) (by rfl) ?_ (by assumption) ?_
  rotate_left
  · (intro w hSw; (try dsimp only at hSw); go_simp; try with_reducible rfl)
  (try simp only [Act.put, List.setIfInBounds_toArray, List.set_cons_zero, List.set_cons_succ])
  refine held_take (i := 11) (d := (some 37)) (v := ?_) rfl rfl (by kernel_rfl) (by kernel_rfl) (by kernel_rfl) (fun _ _ _ h => h) (by rfl) ?_ (by assumption) ?_
  rotate_left
  · (intro w hSw; (try dsimp only at hSw); go_simp; try with_reducible rfl)
  (try simp only [Act.put, List.setIfInBounds_toArray, List.set_cons_zero, List.set_cons_succ])
  refine held_take (i := 12) (d := (some 38)) (v := ?_) rfl rfl (by kernel_rfl) (by kernel_rfl) (by kernel_rfl) (fun _ _ _ h => h) (by rfl) ?_ (by assumption) ?_
  rotate_left
  · (intro w hSw; (try dsimp only at hSw); go_simp; try with_reducible rfl)
  (try simp only [Act.put, List.setIfInBounds_toArray, List.set_cons_zero, List.set_cons_succ])
  refine held_take (i := 14) (d := (some 40)) (v := ?_) rfl rfl (by kernel_rfl) (by kernel_rfl) (by kernel_rfl) (fun _ _ _ h => h) (by rfl) ?_ (by assumption) ?_
  rotate_left
  · (intro w hSw; (try dsimp only at hSw); go_simp; try with_reducible rfl)
  (try simp only [Act.put, List.setIfInBounds_toArray, List.set_cons_zero, List.set_cons_succ])
  refine wpAnyH_ready (rs := [13]) (by kernel_rfl) (by simp) ?_
  refine AllReadyH.cons rfl (fun K hK => ?_) AllReadyH.nil
  go_simp
  go_at_call 13; refine (HJ.out _ VD.out.below).mono ?_; rintro e wq ⟨rfl, hb⟩; (try replace hrT := hrT.below hb); (try replace hrS := hrS.below hb); (try replace hrG := hrG.below hb); (try replace hrH := hrH.below hb); replace VD := Lib.hid (VD.out.call hb)
  refine hK.out _ _ (by exact keep6 hb hHeld) (fun hHeld2 => ?_)
  clear hK K hHeld
  have hHeld := hHeld2
  clear hHeld2
  clear hb
  (try simp only [Act.put, List.setIfInBounds_toArray, List.set_cons_zero, List.set_cons_succ])
  refine wpAnyH_ready (rs := [15]) (by kernel_rfl) (by simp) ?_
  refine AllReadyH.cons rfl (fun K hK => ?_) AllReadyH.nil
  go_simp
  go_at_call 14; refine (HRJ.out _ VD.out.below).mono ?_; rintro e wq ⟨rfl, hb⟩; (try replace hrT := hrT.below hb); (try replace hrS := hrS.below hb); (try replace hrG := hrG.below hb); (try replace hrH := hrH.below hb); replace VD := Lib.hid (VD.out.call hb)
  refine hK.out _ _ (by exact keep6 hb hHeld) (fun hHeld2 => ?_)
  clear hK K hHeld
  have hHeld := hHeld2
  clear hHeld2
  clear hb
  (try simp only [Act.put, List.setIfInBounds_toArray, List.set_cons_zero, List.set_cons_succ])
  refine held_take (i := 16) (d := (some 42)) (v := ?_) rfl rfl (by kernel_rfl) (by kernel_rfl) (by kernel_rfl) (fun _ _ _ h => h) (by rfl) ?_ (by assumption) ?_
  rotate_left
  · (intro w hSw; (try dsimp only at hSw); go_simp; try with_reducible rfl)
  (try simp only [Act.put, List.setIfInBounds_toArray, List.set_cons_zero, List.set_cons_succ])
  refine held_take (i := 17) (d := (some 43)) (v := ?_) rfl rfl (by kernel_rfl) (by kernel_rfl) (by kernel_rfl) (fun _ _ _ h => h) (by rfl) ?_ (by assumption) ?_
  rotate_left
  · (intro w hSw; (try dsimp only at hSw); go_simp; try with_reducible rfl)
  (try simp only [Act.put, List.setIfInBounds_toArray, List.set_cons_zero, List.set_cons_succ])
  refine held_take (i := 18) (d := (some 44)) (v := ?_) rfl rfl (by kernel_rfl) (by kernel_rfl) (by kernel_rfl) (fun _ _ _ h => h) (by rfl) ?_ (by assumption) ?_
  rotate_left
  · (intro w hSw; (try dsimp only at hSw); go_simp; try with_reducible rfl)
  (try simp only [Act.put, List.setIfInBounds_toArray, List.set_cons_zero, List.set_cons_succ])
  refine held_take (i := 19) (d := (some 45)) (v := ?_) rfl rfl (by kernel_rfl) (by kernel_rfl) (by kernel_rfl) (fun _ _ _ h => h) (by rfl) ?_ (by assumption) ?_
  rotate_left
  · (intro w hSw; (try dsimp only at hSw); go_simp; try with_reducible rfl)
  (try simp only [Act.put, List.setIfInBounds_toArray, List.set_cons_zero, List.set_cons_succ])
  refine held_take (i := 21) (d := (some 47)) (v := ?_) rfl rfl (by kernel_rfl) (by kernel_rfl) (by kernel_rfl) (fun _ _ _ h => h) (by rfl) ?_ (by assumption) ?_
  rotate_left
  · (intro w hSw; (try dsimp only at hSw); go_simp; try with_reducible rfl)
  (try simp only [Act.put, List.setIfInBounds_toArray, List.set_cons_zero, List.set_cons_succ])
  refine wpAnyH_ready (rs := [20]) (by kernel_rfl) (by simp) ?_
  refine AllReadyH.cons rfl (fun K hK => ?_) AllReadyH.nil
  go_simp
  go_at_call 16; refine (HT.out _ VD.out.below).mono ?_; rintro e wq ⟨⟨UT, pT, rfl, hr⟩, hb⟩; (try replace hrT := hrT.below hb); (try replace hrS := hrS.below hb); (try replace hrG := hrG.below hb); (try replace hrH := hrH.below hb); replace VD := Lib.hid (VD.out.call hb); have hrT := hr; clear hr
  refine hK.out _ _ (by exact keep6 hb hHeld) (fun hHeld2 => ?_)
  clear hK K hHeld
  have hHeld := hHeld2
  clear hHeld2
  clear hb
  (try simp only [Act.put, List.setIfInBounds_toArray, List.set_cons_zero, List.set_cons_succ])
  refine wpAnyH_ready (rs := [22]) (by kernel_rfl) (by simp) ?_
  refine AllReadyH.cons rfl (fun K hK => ?_) AllReadyH.nil
  go_simp
  go_at_call 17; refine (HRT.out _ VD.out.below).mono ?_; rintro e wq ⟨⟨US, pS, rfl, hr⟩, hb⟩; (try replace hrT := hrT.below hb); (try replace hrS := hrS.below hb); (try replace hrG := hrG.below hb); (try replace hrH := hrH.below hb); replace VD := Lib.hid (VD.out.call hb); have hrS := hr; clear hr
  refine hK.out _ _ (by exact keep6 hb hHeld) (fun hHeld2 => ?_)
  clear hK K hHeld
  have hHeld := hHeld2
  clear hHeld2
  clear hb
  (try simp only [Act.put, List.setIfInBounds_toArray, List.set_cons_zero, List.set_cons_succ])
  refine wpAnyH_ready (rs := [23]) (by kernel_rfl) (by simp) ?_
  refine AllReadyH.cons rfl (fun K hK => ?_) AllReadyH.nil
  go_simp
  go_at_call 15; refine (same_yes UT US pT pS t _ hrT hrS lt).mono ?_; rintro e wq ⟨rfl, hb⟩; (try replace hrT := hrT.below hb); (try replace hrS := hrS.below hb); (try replace hrG := hrG.below hb); (try replace hrH := hrH.below hb); replace VD := Lib.hid (VD.out.call hb)
  refine hK.out _ _ (by exact keep6 hb hHeld) (fun hHeld2 => ?_)
  clear hK K hHeld
  have hHeld := hHeld2
  clear hHeld2
  clear hb
  (try simp only [Act.put, List.setIfInBounds_toArray, List.set_cons_zero, List.set_cons_succ])
  refine held_take (i := 24) (d := (some 50)) (v := ?_) rfl rfl (by kernel_rfl) (by kernel_rfl) (by kernel_rfl) (fun _ _ _ h => h) (by rfl) ?_ (by assumption) ?_
  rotate_left
  · (intro w hSw; (try dsimp only at hSw); go_simp; try with_reducible rfl)
  (try simp only [Act.put, List.setIfInBounds_toArray, List.set_cons_zero, List.set_cons_succ])
  refine held_take (i := 25) (d := (some 51)) (v := ?_) rfl rfl (by kernel_rfl) (by kernel_rfl) (by kernel_rfl) (fun _ _ _ h => h) (by rfl) ?_ (by assumption) ?_
  rotate_left
  · (intro w hSw; (try dsimp only at hSw); go_simp; try with_reducible rfl)
  (try simp only [Act.put, List.setIfInBounds_toArray, List.set_cons_zero, List.set_cons_succ])
  refine held_take (i := 26) (d := (some 52)) (v := ?_) rfl rfl (by kernel_rfl) (by kernel_rfl) (by kernel_rfl) (fun _ _ _ h => h) (by rfl) ?_ (by assumption) ?_
  rotate_left
  · (intro w hSw; (try dsimp only at hSw); go_simp; try with_reducible rfl)
  (try simp only [Act.put, List.setIfInBounds_toArray, List.set_cons_zero, List.set_cons_succ])
  refine held_take (i := 27) (d := (some 53)) (v := ?_) rfl rfl (by kernel_rfl) (by kernel_rfl) (by kernel_rfl) (fun _ _ _ h => h) (by rfl) ?_ (by assumption) ?_
  rotate_left
  · (intro w hSw; (try dsimp only at hSw); go_simp; try with_reducible rfl)
  (try simp only [Act.put, List.setIfInBounds_toArray, List.set_cons_zero, List.set_cons_succ])
  refine held_take (i := 29) (d := (some 55)) (v := ?_) rfl rfl (by kernel_rfl) (by kernel_rfl) (by kernel_rfl) (fun _ _ _ h => h) (by rfl) ?_ (by assumption) ?_
  rotate_left
  · (intro w hSw; (try dsimp only at hSw); go_simp; try with_reducible rfl)
  (try simp only [Act.put, List.setIfInBounds_toArray, List.set_cons_zero, List.set_cons_succ])
  refine held_take (i := 30) (d := (some 56)) (v := ?_) rfl rfl (by kernel_rfl) (by kernel_rfl) (by kernel_rfl) (fun _ _ _ h => h) (by rfl) ?_ (by assumption) ?_
  rotate_left
  · (intro w hSw; (try dsimp only at hSw); go_simp; try with_reducible rfl)
  (try simp only [Act.put, List.setIfInBounds_toArray, List.set_cons_zero, List.set_cons_succ])
  refine wpAnyH_ready (rs := [28]) (by kernel_rfl) (by simp) ?_
  refine AllReadyH.cons rfl (fun K hK => ?_) AllReadyH.nil
  go_simp
  go_at_call 18; refine (HG.out _ VD.out.below).mono ?_; rintro e wq ⟨⟨UG, VG, pG, qG, rfl, hr⟩, hb⟩; (try replace hrT := hrT.below hb); (try replace hrS := hrS.below hb); (try replace hrG := hrG.below hb); (try replace hrH := hrH.below hb); replace VD := Lib.hid (VD.out.call hb); have hrG := hr; clear hr
  refine hK.out _ _ (by exact keep6 hb hHeld) (fun hHeld2 => ?_)
  clear hK K hHeld
  have hHeld := hHeld2
  clear hHeld2
  clear hb
  (try simp only [Act.put, List.setIfInBounds_toArray, List.set_cons_zero, List.set_cons_succ])
  refine wpAnyH_ready (rs := [31]) (by kernel_rfl) (by simp) ?_
  refine AllReadyH.cons rfl (fun K hK => ?_) AllReadyH.nil
  go_simp
  go_at_call 19; refine (HRG.out _ VD.out.below).mono ?_; rintro e wq ⟨⟨UH, VH, pH, qH, rfl, hr⟩, hb⟩; (try replace hrT := hrT.below hb); (try replace hrS := hrS.below hb); (try replace hrG := hrG.below hb); (try replace hrH := hrH.below hb); replace VD := Lib.hid (VD.out.call hb); have hrH := hr; clear hr
  refine hK.out _ _ (by exact keep6 hb hHeld) (fun hHeld2 => ?_)
  clear hK K hHeld
  have hHeld := hHeld2
  clear hHeld2
  clear hb
  (try simp only [Act.put, List.setIfInBounds_toArray, List.set_cons_zero, List.set_cons_succ])
  refine wpAnyH_ready (rs := [32]) (by kernel_rfl) (by simp) ?_
  refine AllReadyH.cons rfl (fun K hK => ?_) AllReadyH.nil
  go_simp
  go_at_call 12; refine (gsame_yes UG VG UH VH pG qG pH qH x3 y3 _ hrG hrH lx3 ly3).mono ?_; rintro e wq ⟨rfl, hb⟩; (try replace hrT := hrT.below hb); (try replace hrS := hrS.below hb); (try replace hrG := hrG.below hb); (try replace hrH := hrH.below hb); replace VD := Lib.hid (VD.out.call hb)
  refine hK.out _ _ (by exact keep6 hb hHeld) (fun hHeld2 => ?_)
  clear hK K hHeld
  have hHeld := hHeld2
  clear hHeld2
  clear hb
  (try simp only [Act.put, List.setIfInBounds_toArray, List.set_cons_zero, List.set_cons_succ])
  refine held_take (i := 33) (d := (some 59)) (v := ?_) rfl rfl (by kernel_rfl) (by kernel_rfl) (by kernel_rfl) (fun _ _ _ h => h) (by rfl) ?_ (by assumption) ?_
  rotate_left
  · (intro w hSw; (try dsimp only at hSw); go_simp; try with_reducible rfl)
  (try simp only [Act.put, List.setIfInBounds_toArray, List.set_cons_zero, List.set_cons_succ])
  refine held_take (i := 34) (d := (some 6)) (v := ?_) rfl rfl (by kernel_rfl) (by kernel_rfl) (by kernel_rfl) (fun _ _ _ h => h) (by rfl) ?_ (by assumption) ?_
  rotate_left
  · (intro w hSw; (try dsimp only at hSw); go_simp; try with_reducible rfl)
  (try simp only [Act.put, List.setIfInBounds_toArray, List.set_cons_zero, List.set_cons_succ])
  refine wpAnyH_done (by kernel_rfl) ?_ _
  go_wp2
  go_ret
  exact ⟨by simp, VD.out.below⟩
end Go.Proofs.Ytogfnhhgbmnbpaa
