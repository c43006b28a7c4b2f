/- Lines with a point: joined and Text (the program's), join and Text (the reference's), parted. -/
import Derived.Test.YtogfnhhgbmnbpaaGaC
set_option linter.unusedVariables false
namespace Go.Proofs.Ytogfnhhgbmnbpaa
open Go.RowKit Go.PlainAid Gl L Gp
theorem Rr.src {w : World} {A : Option Addr} {cap : Nat} {l : List Int} (h : Rr w (.slice A l.length cap) l) (h0 : 0 < l.length) : ∃ ad, A = some ad ∧ ∀ j v, (ints .i32 l)[j]? = some v → w.cell? (ad.add j) = some v := by
  obtain ⟨_, A', c, e, h⟩ := h.rw
  cases e
  rcases h with ⟨h, _⟩ | ⟨g, o, rfl, hc⟩
  · omega
  · exact ⟨_, rfl, fun j v hv => by rw [add_none]; exact hc j v hv⟩
theorem Try.infoI : (Try.prog.info? 21).map (fun i => (i.zero, i.size, i.bytes)) = some (some (.int .i32 0), 1, 4) := by kernel_rfl
theorem Try.sizeI : (Try.prog.info? 21).map (·.size) = some 1 := by kernel_rfl
theorem rep_cells (n : Nat) : (madeCells (Value.int .i32 0).cells (n * 1)).toList = ints .i32 (List.replicate n 0) := by
  apply List.ext_getElem?
  intro j
  by_cases h : j < n <;> simp [madeCells, ints, Value.cells, h, Nat.mod_one]
theorem splice_two (a b : List Int) : splice (splice (ints .i32 (List.replicate (a.length + b.length) 0)) 0 (ints .i32 a)) a.length (ints .i32 b) = ints .i32 (a ++ b) := by
  unfold splice
  simp only [ints, List.take_zero, List.nil_append, Nat.zero_add, List.length_map, List.map_append]
  rw [List.take_left' (by simp), List.drop_of_length_le (by simp), List.append_nil]
theorem joined_any (A B : Option Addr) (ca cb : Nat) (a b : List Int) (w : World) (ha : Rr w (.slice A a.length ca) a) (hb : Rr w (.slice B b.length cb) b) (la : a.length ≤ 1000) (lb : b.length ≤ 1000) (l : List Int) (hl : l = a ++ b) :
    Calls Try.prog 27 #[.slice A a.length ca, .slice B b.length cb] w fun e w' => (∃ V c, e = .returned (.slice V l.length c) ∧ Rr w' (.slice V l.length c) l) ∧ Below w.heap.size w w' := by
  subst hl
  obtain ⟨i0, hi, hz0, hz1, hz2⟩ := info_parts Try.infoI
  obtain ⟨wm, hmk, hown0, hgr0⟩ := run_make_full (P := Try.prog) w w.heap.size 22 21 i0 _ 1 Try.underlying22 hi hz0 hz1 .i64 .i64 (a.length + b.length) (by rw [hz2]; omega) (by unfold maxLen; omega) (Nat.le_refl _)
  rw [rep_cells] at hown0
  rw [show ((a.length + b.length : Nat) : Int) = (a.length : Int) + (b.length : Int) by omega] at hmk
  have hbm : Below w.heap.size w wm := (Below.refl _ _).grown hgr0 (by simp) (by simp)
  have HA := Lib.hid (ha.below hbm)
  have HB := Lib.hid hb
  clear ha hb hgr0
  obtain ⟨N, hN⟩ : ∃ N, N = a.length + b.length := ⟨_, rfl⟩
  rw [← hN] at hmk hown0
  have e2 := splice_two a b
  rw [← hN] at e2
  have HL : ∀ v c w', w'.ownsRow w.heap.size 21 1 (.slice v N c) N (splice (splice (ints .i32 (List.replicate N 0)) 0 (ints .i32 a)) a.length (ints .i32 b)) → ∃ V c', Value.slice v N c = .slice V (a ++ b).length c' ∧ Rr w' (.slice V (a ++ b).length c') (a ++ b) := fun v c w' h => by
    rw [e2] at h
    have := Rr.of_owns h (l := a ++ b) (by rw [hN, List.length_append])
    have e : N = (a ++ b).length := by rw [hN, List.length_append]
    exact ⟨v, c, by rw [e], by rw [← e]; exact this⟩
  have HL' := Lib.hid HL
  have hNi : (N : Int) = (a.length : Int) + (b.length : Int) := by omega
  have HN := Lib.hid hN
  have hb2 : N ≤ 2000 := by omega
  have hb3 : a.length ≤ N := by omega
  have e1 : Nat.min a.length N = a.length := Nat.min_eq_left hb3
  clear HL e2 hN hNi
  by_cases hb0 : N = a.length
  · subst hb0

    go_enter Try.func27, Try.ntmps27
    go_wp2_with (with_reducible refine wpList_copy_rw rfl (.tmp 12) (.tmp 13) 22 22 rfl 21 1 Try.underlying22 Try.sizeI _ _ _ _ _ _ rfl rfl w.heap.size w.heap.size a.length a.length _ hown0 0 a.length (ints .i32 a) ?c1 (by rw [ints_len, Nat.mul_one]) ?c2 (by omega) (ints_one _ _) ?c3)
    case c1 => exact e1
    case c2 =>
      intro h0
      obtain ⟨ad, rfl, hc⟩ := Rr.src HA.out h0
      first | exact ⟨ad, rfl, hc⟩ | exact ⟨rfl, ad, rfl, hc⟩
    case c3 =>
      intro w2 hown2 hgr2
      have hb2 : Below w.heap.size w w2 := hbm.grown hgr2 hbm.size (fun k hk => by cases hk; exact Nat.le_refl _)
      have HB2 := Lib.hid (HB.out.below hb2)
      clear hgr2
      go_wp2_with (with_reducible refine wpList_copy_rw rfl (.tmp 18) (.tmp 19) 22 22 rfl 21 1 Try.underlying22 Try.sizeI _ _ _ _ _ _ rfl rfl w.heap.size w.heap.size a.length a.length _ hown2 a.length b.length (ints .i32 b) ?d1 (by rw [ints_len, Nat.mul_one]) ?d2 ?d4 (ints_one _ _) ?d3)
      case d1 => have := HN.out; show min _ _ = _; omega
      case d4 => have := HN.out; omega
      case d2 =>
        intro h0
        have := HN.out; omega
        
      case d3 =>
        intro w3 hown3 hgr3
        have hb3 : Below w.heap.size w w3 := hb2.grown hgr3 hb2.size (fun k hk => by cases hk; exact Nat.le_refl _)
        obtain ⟨V, c, e4, e5⟩ := HL'.out _ _ _ hown3
        have E5 := Lib.hid e5
        have E4 := Lib.hid e4
        clear e5 e4
        go_wp2
        go_ret
        exact ⟨⟨V, c, by rw [← E4.out]; rfl, E5.out⟩, hb3⟩
  · have hb1 : ¬ (N = a.length) := hb0
    go_enter Try.func27, Try.ntmps27
    go_wp2_with (with_reducible refine wpList_copy_rw rfl (.tmp 12) (.tmp 13) 22 22 rfl 21 1 Try.underlying22 Try.sizeI _ _ _ _ _ _ rfl rfl w.heap.size w.heap.size N N _ hown0 0 a.length (ints .i32 a) ?c1 (by rw [ints_len, Nat.mul_one]) ?c2 (by omega) (ints_one _ _) ?c3)
    case c1 => exact e1
    case c2 =>
      intro h0
      obtain ⟨ad, rfl, hc⟩ := Rr.src HA.out h0
      first | exact ⟨ad, rfl, hc⟩ | exact ⟨rfl, ad, rfl, hc⟩
    case c3 =>
      intro w2 hown2 hgr2
      have hb2 : Below w.heap.size w w2 := hbm.grown hgr2 hbm.size (fun k hk => by cases hk; exact Nat.le_refl _)
      have HB2 := Lib.hid (HB.out.below hb2)
      clear hgr2
      go_wp2_with (with_reducible refine wpList_copy_rw rfl (.tmp 18) (.tmp 19) 22 22 rfl 21 1 Try.underlying22 Try.sizeI _ _ _ _ _ _ rfl rfl w.heap.size w.heap.size N N _ hown2 a.length b.length (ints .i32 b) ?d1 (by rw [ints_len, Nat.mul_one]) ?d2 ?d4 (ints_one _ _) ?d3)
      case d1 => have := HN.out; show min _ _ = _; omega
      case d4 => have := HN.out; omega
      case d2 =>
        intro h0
        obtain ⟨ad, rfl, hc⟩ := Rr.src HB2.out h0
        first | exact ⟨ad, rfl, hc⟩ | exact ⟨rfl, ad, rfl, hc⟩
      case d3 =>
        intro w3 hown3 hgr3
        have hb3 : Below w.heap.size w w3 := hb2.grown hgr3 hb2.size (fun k hk => by cases hk; exact Nat.le_refl _)
        obtain ⟨V, c, e4, e5⟩ := HL'.out _ _ _ hown3
        have E5 := Lib.hid e5
        have E4 := Lib.hid e4
        clear e5 e4
        go_wp2
        go_ret
        exact ⟨⟨V, c, by rw [← E4.out]; rfl, E5.out⟩, hb3⟩
theorem gtext_any (A B : Option Addr) (ca cb : Nat) (a b : List Int) (w : World) (ha : Rr w (.slice A a.length ca) a) (hb : Rr w (.slice B b.length cb) b) (la : a.length ≤ 1000) (lb : b.length ≤ 1000) (l : List Int) (hl : l = a ++ b) :
    Calls Try.prog 16 #[.agg #[.slice A a.length ca, .slice B b.length cb]] w fun e w' => (∃ V c, e = .returned (.slice V l.length c) ∧ Rr w' (.slice V l.length c) l) ∧ Below w.heap.size w w' := by
  have V := Lib.hid ((La.start w).box #[.slice A a.length ca, .slice B b.length cb] 24)
  have HA := Lib.hid ha
  have HB := Lib.hid hb
  have HL := Lib.hid hl
  clear ha hb hl
  go_enter Try.func16, Try.ntmps16
  go_wp2_with fail
  refine (joined_any A B ca cb a b _ (HA.out.below V.out.below) (HB.out.below V.out.below) la lb l HL.out).mono ?_
  rintro e w1 ⟨⟨U, c, rfl, hr⟩, hb⟩
  replace V := Lib.hid (V.out.call hb)
  have HR := Lib.hid hr
  clear hb hr
  go_wp2
  go_ret
  exact ⟨⟨U, c, rfl, HR.out⟩, V.out.below⟩
theorem join_any (A B : Option Addr) (ca cb : Nat) (a b : List Int) (w : World) (ha : Rr w (.slice A a.length ca) a) (hb : Rr w (.slice B b.length cb) b) (la : a.length ≤ 1000) (lb : b.length ≤ 1000) (l : List Int) (hl : l = a ++ b) :
    Calls Try.prog 28 #[.slice A a.length ca, .slice B b.length cb] w fun e w' => (∃ V c, e = .returned (.slice V l.length c) ∧ Rr w' (.slice V l.length c) l) ∧ Below w.heap.size w w' := by
  obtain ⟨i0, hi, hz0, hz1, hz2⟩ := info_parts Try.infoI
  have HA := Lib.hid ha
  have HB := Lib.hid hb
  clear ha hb
  have hown0 : (w.alloc (.cells #[] 21)).ownsRow w.heap.size 21 1 (.slice (some ⟨w.heap.size, 0, none⟩) 0 0) 0 [] := ⟨rfl, .inr ⟨w.heap.size, 0, #[], rfl, Nat.le_refl _, heap_alloc_new w _, Nat.le_refl _, by unfold maxLen; omega, by simp, rfl⟩⟩
  have hb0 : Below w.heap.size w (w.alloc (.cells #[] 21)) := (Below.refl _ _).alloc (Nat.le_refl _) _
  have HL := Lib.hid hl
  clear hl
  go_enter Try.func28, Try.ntmps28
  go_wp2_with (at_builtin; refine wpList_append_rw rfl _ _ 22 rfl w.heap.size 21 i0 (.int .i32 0) 1 4 Try.underlying22 hi hz0 hz1 hz2 rfl (by decide) _ 0 [] rfl hown0 _ a.length (ints .i32 a) rfl (HA.out.below hb0).rw (ints_one _ _) ?c3 ?c4 ?c5 ?_)
  case c3 => unfold maxLen; omega
  case c4 => omega
  case c5 => simp
  intro v1 w1 hown1 hgr1 hn1
  obtain ⟨g1, cap1, rfl, hc1⟩ := Rw.form_ne hown1 hn1
  have hb1 : Below w.heap.size w w1 := L.Below.of_grown hb0 hown0 hgr1 hb0.size (Nat.le_refl _)
  try simp only [Nat.zero_add, List.nil_append] at hown1
  clear hgr1 hn1 hown0
  go_wp2_with (at_builtin; refine wpList_append_rw rfl _ _ 22 rfl w.heap.size 21 i0 (.int .i32 0) 1 4 Try.underlying22 hi hz0 hz1 hz2 rfl (by decide) _ a.length (ints .i32 a) rfl hown1 _ b.length (ints .i32 b) rfl (HB.out.below hb1).rw (ints_one _ _) ?c6 ?c7 ?c8 ?_)
  case c6 => unfold maxLen; omega
  case c7 => omega
  case c8 => exact hb1.size
  intro v2 w2 hown2 hgr2 hn2
  obtain ⟨g2, cap2, rfl, hc2⟩ := Rw.form_ne hown2 hn2
  have hb2 : Below w.heap.size w w2 := L.Below.of_grown hb1 hown1 hgr2 hb1.size (Nat.le_refl _)
  rw [ints_append, ← HL.out] at hown2
  have e0 : a.length + b.length = l.length := by rw [HL.out, List.length_append]
  rw [e0] at hown2 ⊢
  clear hgr2 hn2 hown1 e0
  go_wp2
  go_ret
  exact ⟨⟨_, _, rfl, Rr.of_owns hown2 rfl⟩, hb2⟩
theorem rgtext_any (A B : Option Addr) (ca cb : Nat) (a b : List Int) (w : World) (ha : Rr w (.slice A a.length ca) a) (hb : Rr w (.slice B b.length cb) b) (la : a.length ≤ 1000) (lb : b.length ≤ 1000) (l : List Int) (hl : l = a ++ b) :
    Calls Try.prog 17 #[.agg #[.slice A a.length ca, .slice B b.length cb]] w fun e w' => (∃ V c, e = .returned (.slice V l.length c) ∧ Rr w' (.slice V l.length c) l) ∧ Below w.heap.size w w' := by
  have V := Lib.hid ((La.start w).box #[.slice A a.length ca, .slice B b.length cb] 24)
  have HA := Lib.hid ha
  have HB := Lib.hid hb
  have HL := Lib.hid hl
  clear ha hb hl
  go_enter Try.func17, Try.ntmps17
  go_wp2_with fail
  refine (join_any A B ca cb a b _ (HA.out.below V.out.below) (HB.out.below V.out.below) la lb l HL.out).mono ?_
  rintro e w1 ⟨⟨U, c, rfl, hr⟩, hb⟩
  replace V := Lib.hid (V.out.call hb)
  have HR := Lib.hid hr
  clear hb hr
  go_wp2
  go_ret
  exact ⟨⟨U, c, rfl, HR.out⟩, V.out.below⟩
theorem parted_any (A : Option Addr) (ca : Nat) (a : List Int) (n : Nat) (w : World) (ha : Rr w (.slice A a.length ca) a) (la : a.length ≤ 1000) (hn : n ≤ a.length) :
    Calls Try.prog 26 #[.slice A a.length ca, .int .i64 n] w fun e w' => (∃ V W c d, e = .returned (.agg #[.slice V (a.take n).length c, .slice W (a.drop n).length d]) ∧ Rr w' (.slice V (a.take n).length c) (a.take n) ∧ Rr w' (.slice W (a.drop n).length d) (a.drop n)) ∧ Below w.heap.size w w' := by
  have hb := (Below.refl w.heap.size w).alloc (Nat.le_refl _) (.cells #[.slice none 0 0, .slice none 0 0] 24)
  obtain ⟨_, _, e, hc⟩ := ha.room
  cases e
  have H1 := ha.cut 0 n n (Nat.zero_le _) hn (Nat.le_refl _) (by omega)
  have H2 := ha.cut n a.length a.length hn (Nat.le_refl _) (Nat.le_refl _) hc
  have e1 : (a.take n).length = n := by rw [List.length_take]; omega
  have e2 : (a.drop n).length = a.length - n := List.length_drop
  rw [e1, e2]
  rw [List.drop_zero, Nat.sub_zero] at H1
  rw [List.take_of_length_le (Nat.le_refl _)] at H2
  have i1 : (0 : Int) ≤ (n : Int) := by omega
  have i2 : (n : Int) ≤ (a.length : Int) := by omega
  have i3 : (n : Int) ≤ (ca : Int) := by omega
  have i4 : (a.length : Int) ≤ (ca : Int) := by omega
  clear e1 e2
  by_cases h0 : a.length = 0
  · obtain rfl : n = 0 := by omega
    rw [if_pos rfl] at H1
    rw [h0, if_pos rfl] at H2
    have HH := Lib.hid (And.intro H1 H2)
    clear H1 H2 ha i2
    rw [h0]
    rw [h0] at i4
    go_enter Try.func26, Try.ntmps26
    go_wp2
    go_region
    all_goals go_wp2
    all_goals refine bodyPost_ret (v := .agg #[.slice A 0 0, .slice A 0 0]) (by simp [results, Try.results26, go_sem, *]) rfl ?_
    all_goals have hbb := Below.drew ((Below.refl w.heap.size w).alloc (Nat.le_refl _) (.cells #[.slice A 0 0, .slice A 0 0] 24))
    all_goals exact ⟨⟨_, _, _, _, rfl, HH.out.1.below hbb, HH.out.2.below hbb⟩, hbb⟩
  · obtain ⟨ad, rfl, _⟩ := ha.src (by omega)
    obtain ⟨_, _, _, e, hx⟩ := ha.rw
    cases e
    rcases hx with ⟨hx, _⟩ | ⟨g, o, e, _⟩
    · exact absurd hx h0
    cases e
    clear ha
    rw [Option.map_some, add_none, Nat.zero_mul, Nat.add_zero, ite_self] at H1
    rw [Option.map_some, add_none, Nat.mul_one] at H2
    by_cases h1 : n = a.length
    · subst h1
      rw [if_pos rfl, Nat.sub_self] at H2
      rw [Nat.sub_self]
      have HH := Lib.hid (And.intro H1 H2)
      clear H1 H2
      go_enter Try.func26, Try.ntmps26
      go_wp2
      go_region
      all_goals go_wp2
      all_goals refine bodyPost_ret (v := .agg #[.slice (some ⟨g, o, none⟩) a.length a.length, .slice (some ⟨g, o, none⟩) 0 0]) (by simp [results, Try.results26, go_sem, *]) rfl ?_
      all_goals have hbb := Below.drew ((Below.refl w.heap.size w).alloc (Nat.le_refl _) (.cells #[.slice (some ⟨g, o, none⟩) a.length a.length, .slice (some ⟨g, o, none⟩) 0 0] 24))
      all_goals exact ⟨⟨_, _, _, _, rfl, HH.out.1.below hbb, HH.out.2.below hbb⟩, hbb⟩
    · have h2 : ¬ (a.length = n) := fun e => h1 e.symm
      rw [if_neg h2] at H2
      have HH := Lib.hid (And.intro H1 H2)
      clear H1 H2
      by_cases h3 : n = 0
      · subst h3
        rw [Nat.sub_zero] at HH ⊢
        go_enter Try.func26, Try.ntmps26
        go_wp2
        go_region
        all_goals go_wp2
        all_goals refine bodyPost_ret (v := .agg #[.slice (some ⟨g, o, none⟩) 0 0, .slice (some ⟨g, o, none⟩) a.length a.length]) (by simp [results, Try.results26, go_sem, *]) rfl ?_
        all_goals have hbb := Below.drew ((Below.refl w.heap.size w).alloc (Nat.le_refl _) (.cells #[.slice (some ⟨g, o, none⟩) 0 0, .slice (some ⟨g, o, none⟩) a.length a.length] 24))
        all_goals exact ⟨⟨_, _, _, _, rfl, HH.out.1.below hbb, HH.out.2.below hbb⟩, hbb⟩
      · go_enter Try.func26, Try.ntmps26
        go_wp2
        go_region
        all_goals go_wp2
        all_goals refine bodyPost_ret (v := .agg #[.slice (some ⟨g, o, none⟩) n n, .slice (some ⟨g, o + n, none⟩) (a.length - n) (a.length - n)]) (by simp [results, Try.results26, go_sem, *]) rfl ?_
        all_goals have hbb := Below.drew ((Below.refl w.heap.size w).alloc (Nat.le_refl _) (.cells #[.slice (some ⟨g, o, none⟩) n n, .slice (some ⟨g, o + n, none⟩) (a.length - n) (a.length - n)] 24))
        all_goals exact ⟨⟨_, _, _, _, rfl, HH.out.1.below hbb, HH.out.2.below hbb⟩, hbb⟩
end Go.Proofs.Ytogfnhhgbmnbpaa
