/- The contracts of glyph.Decode and of the reference's Decode, of Same, of both Encode. -/
import Derived.Test.YtfnmcnbfagnlhaaDoorGlV
import Derived.Test.YtfnmcnbfagnlhaaDoorGlX
import Derived.BigQuiet
import Derived.Laws.Cover4
set_option linter.unusedVariables false
namespace Go.Proofs.YtfnmcnbfagnlhaaDoor
open Go.RowKit Go.PlainAid Gl L
theorem Tryd.info21 : (Tryd.prog.info? 21).map (fun i => (i.zero, i.size, i.bytes)) = some (some (.int .i32 0), 1, 4) := by kernel_rfl
set_option maxHeartbeats 1000000 in
theorem decode_any (s : ByteArray) (w : World) (hs : s.size ≤ 1000000) :
   Calls Tryd.prog 17 #[.string s] w fun e w' => ∃ v, e = .returned v ∧ w'.ownsRow w.heap.size 21 1 v (decL s).length (ints .i32 (decL s)) ∧ Below w.heap.size w w' := by
  obtain ⟨i0, hi, hz0, hz1, hz2⟩ := info_parts Tryd.info21
  have hdl := decL_len s
  go_enter Tryd.func17, Tryd.ntmps17
  go_wp2
  go_loopw [3] (fun v wr => ∃ (p : Nat) (xs : List Int), decL s = xs ++ decP s p ∧ wr.heap[w.heap.size]? = some (.stringIter s p) ∧ wr.ownsRow (w.heap.size + 1) 21 1 v xs.length (ints .i32 xs) ∧ Below w.heap.size w wr) (fun _ wr => s.size - wr.iterPos w.heap.size)
  case atStart => exact ⟨0, [], rfl, World.iter_heap _ _ _, World.ownsRow_nil _ _ _ _, (Below.refl _ _).alloc (Nat.le_refl _) _⟩
  case round =>
    obtain ⟨p, xs, hx, hit, hown, hw⟩ := hrel
    have hip := iterPos_of hit
    have HX := Lib.hid hx
    have HI := Lib.hid hip
    have HT := Lib.hid hit
    clear hx hip
    by_cases hp : p < s.size
    · have hd := dec_bounds s p hp
      have hlen : xs.length < s.size := by
        have := congrArg List.length HX.out
        rw [List.length_append, decP_cons s p hp, List.length_cons] at this
        omega
      have n0 := fun ty => Lib.run_next_any_at (P := Tryd.prog) wr w.heap.size s p ty hit hp
      have hown1 := (ownsRow_iterAt' hown hit (p + (Utf8.decode s p).2)).alloc (.cells #[.int .i32 ((Utf8.decode s p).1 : Int)] 21)
      clear hit
      go_wp2_with (at_builtin; refine wpList_append_own _ rfl _ _ 30 rfl (w.heap.size + 1) 21 i0 (.int .i32 0) 1 4 Tryd.underlying30 hi hz0 hz1 hz2 rfl (by decide) _ _ _ rfl hown1 ⟨(wr.iterAt w.heap.size s (p + (Utf8.decode s p).2)).heap.size, 0, none⟩ 1 1 [.int .i32 ((Utf8.decode s p).1 : Int)] rfl rfl ?c1 ?c2 ?c3 ?c4 ?c5 ?_)
      case c1 => exact new1 _ _ _
      case c2 => exact one1 _ rfl
      case c3 => unfold maxLen; omega
      case c4 => omega
      case c5 =>
        have h1 : (wr.iterAt w.heap.size s (p + (Utf8.decode s p).2)).heap.size = wr.heap.size := Lib.iterAt_size _ _ _ _
        have h2 := (Array.getElem?_eq_some_iff.1 HT.out).1
        simp [h1]; omega
      intro v' w1 hown' hgr hnil
      go_wp2
      have hlt := (Array.getElem?_eq_some_iff.1 HT.out).1
      have hit1 : w1.heap[w.heap.size]? = some (.stringIter s (p + decN s p)) := by
        rw [hgr.block w.heap.size (by simp [Lib.iterAt_size]; omega) (fun e => by have := hown.lt _ e.symm; omega), Below.heap_alloc _ _ _ (by rw [Lib.iterAt_size]; exact hlt)]
        exact Lib.iterAt_heap _ _ _ _ _ HT.out
      have hw1 : Below w.heap.size w w1 := (((Lib.below_iterAt hw (Nat.le_refl _) s _).alloc (by rw [Lib.iterAt_size]; exact hw.size) _).grown hgr (by simp [Lib.iterAt_size]; have := hw.size; omega) (fun k hk => by have := hown.lt _ hk; omega))
      have hi1 := iterPos_of hit1
      have hi0 := HI.out
      go_roundw
      case rel =>
        refine ⟨p + decN s p, xs ++ [decR s p], ?_, hit1, ?_, hw1⟩
        · rw [List.append_assoc, List.singleton_append, ← decP_cons s p hp]; exact HX.out
        · rw [List.length_append, ← ints_snoc]; exact hown'
      case measure => rw [hi0, hi1]; omega
    · have n0 := fun ty => Lib.run_next_end_at (P := Tryd.prog) wr w.heap.size s p ty hit hp
      clear hit
      go_wp2
      go_ret
      have : xs = decL s := by rw [HX.out, decP_end s p (by omega), List.append_nil]
      subst this
      exact ⟨_, rfl, ownsRow_mono hown (by omega), hw⟩
namespace Gl
theorem enc_bad (r : Int) (h : vld r = false) : Utf8.encode r = ⟨#[239, 191, 189]⟩ := by
  unfold Utf8.encode
  rw [vld_eq, h]
  simp [Utf8.runeError]
theorem runes_snoc (l : List Int) (x : Int) : runesBytes (l ++ [x]) = runesBytes l ++ Utf8.encode x := by
  unfold runesBytes; rw [List.foldl_append]; rfl
theorem take_snoc {l : List Int} {k : Nat} (h : k < l.length) : l.take (k + 1) = l.take k ++ [l.getD k 0] := by
  rw [List.take_succ_eq_append_getElem h]; simp [List.getD, h]
end Gl
theorem encode_any (v : Value) (xs : List Int) (w : World) (hv : IsRow w v .i32 xs) :
   Calls Tryd.prog 19 #[v] w fun e w' => e = .returned (.string (runesBytes xs)) ∧ w = w' := by
  obtain ⟨A, cap, rfl, h⟩ := hv
  have hc : ∀ w', w' = w → (convert 30 9 (.slice A xs.length cap)).run Tryd.prog w' = .ok (.string (runesBytes xs)) w' := by
    rintro w' rfl
    cases A with
    | none =>
      rcases h with rfl | ⟨_, _, h, _⟩
      · exact run_convert_runes_nil w' 30 9 21 _ _ Tryd.underlying30 Tryd.underlying21 Tryd.underlying9
      · cases h
    | some a =>
      have := run_convert_runes (P := Tryd.prog) w' 30 9 21 a xs.length cap xs (Nat.le_refl _) Tryd.underlying30 Tryd.underlying21 Tryd.underlying9 (by
        intro j hj
        rcases h with rfl | ⟨b, off, h, hc⟩
        · simp at hj
        · cases h
          have e : (⟨b, off, none⟩ : Addr).add j = ⟨b, off + j, none⟩ := by unfold Addr.add; split <;> simp_all
          rw [e]; exact hc j hj)
      rw [List.take_length] at this
      exact this
  have hc' := hc w rfl
  clear hc h
  go_enter Tryd.func19, Tryd.ntmps19
  go_wp2
  go_ret
  exact ⟨rfl, rfl⟩
set_option maxHeartbeats 1000000 in
theorem rencode_any (v : Value) (xs : List Int) (w : World) (hv : IsRow w v .i32 xs) (hl : xs.length ≤ 1000000000) :
   Calls Tryd.prog 20 #[v] w fun e w' => e = .returned (.string (runesBytes xs)) ∧ Below w.heap.size w w' := by
  obtain ⟨A, cap, rfl, h⟩ := hv
  go_enter Tryd.func20, Tryd.ntmps20
  go_wp2
  go_loopw [3, 4] (fun s i wr => ∃ k : Nat, k ≤ xs.length ∧ i = .int .i64 k ∧ s = .string (runesBytes (xs.take k)) ∧ Below w.heap.size w wr) (fun _ i _ => xs.length - (intOf i).toNat)
  case atStart => exact ⟨0, Nat.zero_le _, rfl, rfl, Below.refl _ _⟩
  case round =>
    obtain ⟨k, hk, rfl, rfl, hw⟩ := hrel
    by_cases hlt : k < xs.length
    · rcases h with rfl | ⟨b, off, rfl, hc⟩
      · simp at hlt
      · have hcell : wr.cell? ⟨b, off + k, none⟩ = some (.int .i32 (xs.getD k 0)) := by
          rw [hw.cell (World.block_lt_of_cell? w _ (hc k hlt))]; exact hc k hlt
        have hts := runes_snoc (xs.take k) (xs.getD k 0)
        rw [← take_snoc hlt] at hts
        have HS := Lib.hid hts
        clear hts hc
        generalize hx : xs.getD k 0 = x at hcell HS
        have HX := Lib.hid hx
        clear hx
        have hz1 : (runesBytes (xs.take k)).size ≤ 4000000000 := by
          have := runesBytes_size_le (xs.take k)
          rw [List.length_take] at this
          omega
        have hz2 : (putS x).size ≤ 4 := by
          unfold putS
          split
          · exact encode_size_le x
          · exact Nat.zero_le _
        go_wp2_with fail
        refine (rput_any _ _).mono ?_
        rintro e w1 ⟨rfl, hw1⟩
        have hw' := hw.trans (hw1.mono hw.size)
        cases hb : vld x
        all_goals
          have hE : putE x = if vld x then 0 else 1 := rfl
          rw [hb] at hE
          simp only [if_true, Bool.false_eq_true, if_false] at hE
          have HE := Lib.hid hE
          rw [hE]
          have HB := Lib.hid hb
          clear hE hb
          go_wp2_with fail
          go_roundw
          case rel =>
            refine ⟨k + 1, by omega, by go_num, ?_, hw'⟩
            rw [HS.out]
            first | (rw [enc_bad x HB.out]) | (unfold putS; rw [HB.out, if_pos rfl])
          case measure => simp [intOf]; omega
    · go_wp2
      go_ret
      exact ⟨ret_str (by rw [List.take_of_length_le (by omega)]), hw⟩
set_option maxHeartbeats 1000000 in
theorem same_any (a b : Value) (xs ys : List Int) (w : World) (ha : IsRow w a .i32 xs) (hb : IsRow w b .i32 ys) (hl : xs.length ≤ 1000000000) (hl' : ys.length ≤ 1000000000) :
   Calls Tryd.prog 16 #[a, b] w fun e w' => e = .returned (.bool (decide (xs = ys))) ∧ Below w.heap.size w w' := by
  obtain ⟨A, capa, rfl, ha⟩ := ha
  obtain ⟨B, capb, rfl, hb⟩ := hb
  by_cases hne : xs.length = ys.length
  · rw [← hne]
    go_enter Tryd.func16, Tryd.ntmps16
    go_wp2
    go_loopw [5] (fun i wr => ∃ k : Nat, k ≤ xs.length ∧ i = .int .i64 k ∧ xs.take k = ys.take k ∧ Below w.heap.size w wr) (fun i _ => xs.length - (intOf i).toNat)
    case atStart => exact ⟨0, Nat.zero_le _, rfl, rfl, Below.refl _ _⟩
    case round =>
      obtain ⟨k, hk, rfl, heq, hw⟩ := hrel
      have HQ := Lib.hid heq
      have HN := Lib.hid hne
      clear heq hne
      by_cases hlt : k < xs.length
      · rcases ha with rfl | ⟨b1, off1, rfl, hca⟩
        · simp at hlt
        rcases hb with rfl | ⟨b2, off2, rfl, hcb⟩
        · have := HN.out; simp only [List.length_nil] at this; omega
        have c1 : wr.cell? ⟨b1, off1 + k, none⟩ = some (.int .i32 (xs.getD k 0)) := by
          rw [hw.cell (World.block_lt_of_cell? w _ (hca k hlt))]; exact hca k hlt
        have hlt' : k < ys.length := by have := HN.out; omega
        have c2 : wr.cell? ⟨b2, off2 + k, none⟩ = some (.int .i32 (ys.getD k 0)) := by
          rw [hw.cell (World.block_lt_of_cell? w _ (hcb k hlt'))]; exact hcb k hlt'
        clear hca hcb
        have t1 := take_snoc hlt
        have t2 := take_snoc hlt'
        have HT := Lib.hid (And.intro t1 t2)
        clear t1 t2
        generalize hx : xs.getD k 0 = x at c1 HT
        generalize hy : ys.getD k 0 = y at c2 HT
        have HX := Lib.hid hx
        have HY := Lib.hid hy
        clear hx hy
        by_cases he : x = y
        · subst he
          go_wp2
          go_quiet (fail)
          go_wp2
          go_roundw
          case rel => exact ⟨k + 1, by omega, by go_num, by rw [HT.out.1, HT.out.2, HQ.out], below_drewN hw _⟩
          case measure => simp [intOf]; omega
        · have he' : (x == y) = false := by simpa using he
          have he'' : (x != y) = true := by simpa using he
          have HE := Lib.hid he
          clear he
          go_wp2
          go_quiet (fail)
          go_wp2
          go_ret
          refine ⟨ret_bool ?_, below_drewN hw _⟩
          symm
          rw [decide_eq_false_iff_not]
          rintro rfl
          exact HE.out (HX.out.symm.trans HY.out)
      · go_wp2
        go_ret
        refine ⟨ret_bool ?_, hw⟩
        symm
        rw [decide_eq_true_iff]
        have h1 := HQ.out
        have h2 := HN.out
        rw [List.take_of_length_le (i := k) (l := xs) (by omega), List.take_of_length_le (i := k) (l := ys) (by omega)] at h1
        exact h1
  · have h1 : ((xs.length : Int) == ys.length) = false := by simp; omega
    have h2 : ((xs.length : Int) != ys.length) = true := by simp; omega
    have HN := Lib.hid hne
    clear hne
    go_enter Tryd.func16, Tryd.ntmps16
    go_wp2
    go_ret
    refine ⟨ret_bool ?_, Below.refl _ _⟩
    symm
    rw [decide_eq_false_iff_not]
    rintro rfl
    exact HN.out rfl
set_option maxHeartbeats 2000000 in
theorem rdecode_any (s : ByteArray) (w : World) (hs : s.size ≤ 1000000) :
   Calls Tryd.prog 18 #[.string s] w fun e w' => ∃ v, e = .returned v ∧ w'.ownsRow w.heap.size 21 1 v (decL s).length (ints .i32 (decL s)) ∧ Below w.heap.size w w' := by
  obtain ⟨i0, hi, hz0, hz1, hz2⟩ := info_parts Tryd.info21
  have hs0 := suf_zero s
  go_enter Tryd.func18, Tryd.ntmps18
  go_wp2
  go_loopw [0, 3] (fun t v wr => ∃ (p : Nat) (xs : List Int), p ≤ s.size ∧ t = .string (suf s p) ∧ decL s = xs ++ decP s p ∧ wr.ownsRow w.heap.size 21 1 v xs.length (ints .i32 xs) ∧ Below w.heap.size w wr) (fun t _ _ => match t with | .string z => z.size | _ => 0)
  case atStart => exact ⟨0, [], Nat.zero_le _, by rw [hs0], rfl, World.ownsRow_made _ _ 0 (Nat.le_refl _) (by decide) (by simp), (Below.refl _ _).alloc (Nat.le_refl _) _⟩
  case round =>
    obtain ⟨p, xs, hp, rfl, hx, hown, hw⟩ := hrel
    have HX := Lib.hid hx
    have hz := suf_size s p
    have HZ := Lib.hid hz
    clear hx hs0
    by_cases hlt : p < s.size
    · have hlen : xs.length < s.size := by
        have := congrArg List.length HX.out
        have h2 := decL_len s
        rw [List.length_append, decP_cons s p hlt, List.length_cons] at this
        omega
      have hz' : 1 ≤ (suf s p).size := by omega
      have hz'' : (suf s p).size ≤ 1000000 := by omega
      clear hz
      have hd := dec_bounds (suf s p) 0 hz'
      have hsuf : decR (suf s p) 0 = decR s p ∧ decN (suf s p) 0 = decN s p := dec_suf s p 0 (by omega)
      have HS := Lib.hid hsuf
      have HSS := Lib.hid (suf_suf s p)
      have hbd : p + decN s p ≤ s.size := (dec_bounds s p hlt).2
      have HB := Lib.hid hbd
      clear hsuf hbd
      cases hm : moreB (suf s p)
      · obtain ⟨e1, e2, e3⟩ := next_ok _ hz' hm
        have HE := Lib.hid (And.intro e1 (And.intro e2 e3))
        clear hm e1 e2 e3
        go_wp2_with fail
        refine (rnext_any _ _ (by omega)).mono ?_
        rintro e w1 ⟨rfl, hw1⟩
        rw [HE.out.1, HE.out.2.1, HE.out.2.2]
        have hown1 := ownsRow_below hown hw1
        have hw1' := hw.trans (hw1.mono hw.size)
        have hws := hw1'.size
        have hown2 := hown1.alloc (.cells #[.int .i32 (decR (suf s p) 0)] 21)
        clear hown hown1
        go_wp2_with (at_builtin; refine wpList_append_own _ rfl _ _ 30 rfl w.heap.size 21 i0 (.int .i32 0) 1 4 Tryd.underlying30 hi hz0 hz1 hz2 rfl (by decide) _ _ _ rfl hown2 ⟨w1.heap.size, 0, none⟩ 1 1 [.int .i32 (decR (suf s p) 0)] rfl rfl ?c1 ?c2 ?c3 ?c4 ?c5 ?_)
        case c1 => exact new1 _ _ _
        case c2 => exact one1 _ rfl
        case c3 => unfold maxLen; omega
        case c4 => omega
        case c5 => simp; omega
        intro v' w2 hown' hgr _
        have hw2 : Below w.heap.size w w2 := (hw1'.alloc hws _).grown hgr (by simp; omega) (fun k hk => (hown2.lt _ hk).1)
        go_wp2
        go_roundw
        case rel =>
          refine ⟨p + decN s p, xs ++ [decR s p], HB.out, ?_, ?_, ?_, hw2⟩
          · rw [HSS.out, HS.out.2]
          · rw [List.append_assoc, List.singleton_append, ← decP_cons s p hlt]; exact HX.out
          · rw [List.length_append, ← ints_snoc, ← HS.out.1]; exact hown'
        case measure => (show ((suf s p).extract _ _).size < _; simp [ByteArray.size_extract]; omega)
      · obtain ⟨e1, e2, e3⟩ := next_more _ hz' hm
        obtain ⟨f1, f2⟩ := next_dec _ hz' hm
        have HE := Lib.hid (And.intro e1 (And.intro e2 e3))
        have HF := Lib.hid (And.intro f1 f2)
        clear hm e1 e2 e3 f1 f2
        go_wp2_with fail
        refine (rnext_any _ _ (by omega)).mono ?_
        rintro e w1 ⟨rfl, hw1⟩
        rw [HE.out.1, HE.out.2.1, HE.out.2.2]
        have hown1 := ownsRow_below hown hw1
        have hw1' := hw.trans (hw1.mono hw.size)
        have hws := hw1'.size
        have hown2 := hown1.alloc (.cells #[.int .i32 (65533 : Int)] 21)
        clear hown hown1
        go_wp2_with (at_builtin; refine wpList_append_own _ rfl _ _ 30 rfl w.heap.size 21 i0 (.int .i32 0) 1 4 Tryd.underlying30 hi hz0 hz1 hz2 rfl (by decide) _ _ _ rfl hown2 ⟨w1.heap.size, 0, none⟩ 1 1 [.int .i32 (65533 : Int)] rfl rfl ?c1 ?c2 ?c3 ?c4 ?c5 ?_)
        case c1 => exact new1 _ _ _
        case c2 => exact one1 _ rfl
        case c3 => unfold maxLen; omega
        case c4 => omega
        case c5 => simp; omega
        intro v' w2 hown' hgr _
        have hw2 : Below w.heap.size w w2 := (hw1'.alloc hws _).grown hgr (by simp; omega) (fun k hk => (hown2.lt _ hk).1)
        go_wp2
        go_roundw
        case rel =>
          refine ⟨p + decN s p, xs ++ [decR s p], HB.out, ?_, ?_, ?_, hw2⟩
          · rw [HSS.out, ← HS.out.2, HF.out.2]
          · rw [List.append_assoc, List.singleton_append, ← decP_cons s p hlt]; exact HX.out
          · rw [List.length_append, ← ints_snoc, ← HS.out.1]; rw [HF.out.1]; exact hown'
        case measure => (show ((suf s p).extract _ _).size < _; simp [ByteArray.size_extract]; omega)
    · go_wp2
      go_ret
      have : xs = decL s := by rw [HX.out, decP_end s p (by omega), List.append_nil]
      subst this
      exact ⟨_, rfl, hown, hw⟩
end Go.Proofs.YtfnmcnbfagnlhaaDoor
