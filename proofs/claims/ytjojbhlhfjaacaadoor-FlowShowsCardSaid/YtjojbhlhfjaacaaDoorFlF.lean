/- The contract of flow Cells: any width and place, rows of whatever length. -/
import Derived.Test.YtjojbhlhfjaacaaDoorFlE
import Derived.Test.YtjojbhlhfjaacaaDoorBk
set_option linter.unusedVariables false
namespace Go.Proofs.YtjojbhlhfjaacaaDoor
open Go.RowKit Gl L Wd Fl
/-- What Cells tells: an error, or the cells. -/
def Celd (W w' : World) (e : Ending) (a b : Int) (l : List Int) : Prop :=
  Below W.heap.size W w' ∧ (lk a b l.length ≠ 0 ∧ e = .returned (.tuple #[.slice none 0 0, .int .i64 (lk a b l.length)]) ∨
    lk a b l.length = 0 ∧ ∃ v, e = .returned (.tuple #[v, .int .i64 0]) ∧ v ≠ .slice none 0 0 ∧ w'.ownsRow W.heap.size 40 2 v (cells a.toNat b.toNat l).length (flat (cells a.toNat b.toNat l)))
/-- Places in memory: the k-th one. -/
theorem place_at {w : World} {base : Nat} {v : Value} {m p : Nat} {l : List Int} (h : w.ownsRow base 3 1 v l.length (ints .i64 (lay m p l))) (hv : v ≠ .slice none 0 0) :
    ∃ g cap, v = .slice (some ⟨g, 0, none⟩) l.length cap ∧ l.length ≤ cap ∧ base ≤ g ∧ g < w.heap.size ∧ ∀ k, k < l.length → w.cell? ⟨g, k, none⟩ = some (.int .i64 (nx m (fin m p (l.take k)) (l.getD k 0) : Nat)) := by
  obtain ⟨g, cap, rfl, hc⟩ := Rw.form_ne h hv
  refine ⟨g, cap, rfl, hc, (h.lt _ rfl).1, (h.lt _ rfl).2, fun k hk => ?_⟩
  rw [h.cellAt k (by omega), ← lay_at hk]
  have hl := lay_len m p l
  simp only [ints, List.getElem?_map]
  rw [List.getD_eq_getElem?_getD, List.getElem?_eq_getElem (by omega)]
  rfl
theorem cellsd_len {m p : Nat} (l : List Int) (h : 2 ≤ m) : (cells m p l).length + p = fin m p l := cells_len m p l h
set_option maxHeartbeats 4000000 in
theorem cellsF_any (a b : Int) (v : Value) (l : List Int) (w : World) (hv : IsRow w v .i32 l) (hl : l.length ≤ maxLen) (S : Spans w 1) (T : Blk w 0) : Calls Tryd.prog 15 #[.int .i64 a, .int .i64 b, v] w fun e w' => Celd w w' e a b l := by
  have hlm := hl
  unfold maxLen at hlm
  have HC := Lib.hid (lay_any a b v l w hv hl S)
  unfold Celd
  have hv' := hv
  obtain ⟨A, cap, rfl, hc⟩ := hv'
  by_cases h0 : lk a b l.length = 0
  · obtain ⟨h, h5⟩ := lk_ok h0
    rw [h0]
    obtain ⟨m, p, rfl, rfl, h1, h2, h3⟩ := ck_ok h
    simp only [Int.toNat_natCast] at *
    clear h
    obtain ⟨i0, hi, hz0, hz1, hz2⟩ := info_parts (Tryd.info40)
    go_enter Tryd.func15, Tryd.ntmps15
    go_wp2_with fail
    refine HC.out.mono ?_
    rintro e w1 ⟨hb1, ⟨hne, _⟩ | ⟨_, vp, rfl, hvp, hop⟩⟩
    · exact absurd h0 hne
    simp only [Int.toNat_natCast] at hop ⊢
    obtain ⟨gp, capp, rfl, hcapp, hg1, hg2, hcp⟩ := place_at hop hvp
    have hfl := fin_le m p l h1
    obtain ⟨wm, hmk, hown0, hgr0⟩ := run_make_own (P := Tryd.prog) w1 w1.heap.size 33 40 i0 _ 2 Tryd.underlying33 hi hz0 hz1 .i64 .i64 (fin m p l - p) (by rw [hz2]; omega) (by unfold maxLen; omega) (Nat.le_refl _)
    have hb2 : Below w1.heap.size w1 wm := (Below.refl _ _).grown hgr0 (Nat.le_refl _) (by simp)
    rw [show ((fin m p l - p : Nat) : Int) = (fin m p l : Int) - (p : Int) by omega] at hmk
    have HCP := Lib.hid hcp
    have HFL := Lib.hid (cells_len m p l h1)
    clear hcp hop hvp hgr0
    generalize fin m p l = z at *
    go_wp2_with fail
    go_loopw [11, 32] (fun c i wr => ∃ k : Nat, k ≤ l.length ∧ i = .int .i64 k ∧ wr.ownsRow w1.heap.size 40 2 c (cells m p (l.take k)).length (flat (cells m p (l.take k))) ∧ c ≠ .slice none 0 0 ∧ Below w1.heap.size w1 wr) (fun _ i _ => l.length - (intOf i).toNat)
    case atStart => exact ⟨0, Nat.zero_le _, rfl, hown0, by simp, hb2⟩
    case round =>
      obtain ⟨k, hk, rfl, hown, hne, hw⟩ := hrel
      obtain ⟨gc, capc, rfl, hcapc⟩ := Rw.form_ne hown hne
      clear hne hmk hown0 hb2
      have hww := hb1.trans (hw.mono hb1.size)
      by_cases hlt : k < l.length
      · rcases hc with rfl | ⟨b, off, rfl, hc⟩
        · simp at hlt
        have hcell : wr.cell? ⟨b, off + k, none⟩ = some (.int .i32 (l.getD k 0)) := by
          rw [hww.cell (World.block_lt_of_cell? w _ (hc k hlt))]; exact hc k hlt
        have hcell2 : wr.cell? ⟨gp, k, none⟩ = some (.int .i64 (nx m (fin m p (l.take k)) (l.getD k 0) : Nat)) := by
          rw [old_cell hw _ _ hg2]; exact HCP.out k hlt
        have hT := T.below hww
        obtain ⟨t1, t2⟩ := hT
        have hfk := cells_len m p (l.take k) h1
        have HT := Lib.hid (cells_take (w := m) (a := p) hlt)
        have hcl := cl_len (l.getD k 0)
        have hnx := nx_ge m (fin m p (l.take k)) (l.getD k 0) h1
        have hfl2 := fin_le m p (l.take k) h1
        rw [List.length_take] at hfl2
        generalize hx : l.getD k 0 = x at *
        generalize hf : fin m p (l.take k) = f at *
        generalize hy : nx m f x = y at *
        generalize hq : cells m p (l.take k) = Q at *
        have HOWN := Lib.hid hown
        clear hx hf hc hown hq hy
        rcases (show y = f ∨ y = f + 1 by omega) with rfl | rfl
        · rw [Nat.sub_self, List.replicate_zero, List.append_nil] at HT
          go_wp2_with fail
          refine wp_loop_rounds 1 ?_
          rw [rounds_succ]
          go_wp2_with fail
          refine (cells_any x _ (S.below hww)).mono ?_
          rintro e w2 ⟨g2, cap2, rfl, hRw, hw2⟩
          have hw' := hw.trans (hw2.mono hw.size)
          have hown1 := ownsRow_below HOWN.out hw2
          go_wp2_with (at_builtin; refine wpList_append_rw rfl (.tmp 54) (.tmp 56) 33 rfl w1.heap.size 40 i0 _ 2 16 Tryd.underlying33 hi hz0 hz1 hz2 rfl (by decide) _ _ _ rfl hown1 _ _ _ rfl hRw (flat_one _) ?c2 ?c3 ?c4 ?_)
          case c2 => unfold maxLen; omega
          case c3 => omega
          case c4 => exact hw'.size
          intro v' w3 hown' hgr hne'
          have hb2 := Below.of_grown hw' hown1 hgr hw'.size (Nat.le_refl _)
          have hown2 : w3.ownsRow w1.heap.size 40 2 v' (cells m p (l.take (k + 1))).length (flat (cells m p (l.take (k + 1)))) := by
            rw [HT.out, flat_append, List.length_append]; exact hown'
          have HNE' := Lib.hid hne'
          clear hown1 hown' hRw hne' hgr
          go_wp2
          go_roundw
          case rel => exact ⟨k + 1, by omega, by go_num, hown2, HNE'.out, hb2⟩
          case measure => simp [intOf]; omega
        · rw [Nat.add_sub_cancel_left] at HT
          have ho0 := HOWN.out.alloc (.cells #[.int .i32 32, .int .i64 0] 40)
          have hb0 := hw.alloc hw.size (.cells #[.int .i32 32, .int .i64 0] 40)
          have hr0 := Rw.lit wr #[.int .i32 32, .int .i64 0] 40 2 1 1 (by simp)
          have hs0 : (wr.alloc (.cells #[.int .i32 32, .int .i64 0] 40)).heap.size = wr.heap.size + 1 := by simp
          go_wp2_with fail
          refine wp_loop_rounds 2 ?_
          rw [rounds_succ]
          go_wp2_with (at_builtin; refine wpList_append_rw rfl (.tmp 49) (.tmp 51) 33 rfl w1.heap.size 40 i0 _ 2 16 Tryd.underlying33 hi hz0 hz1 hz2 rfl (by decide) _ _ _ rfl ho0 _ _ _ rfl hr0 (flat_one [(32, 0)]) ?d2 ?d3 ?d4 ?_)
          case d2 => unfold maxLen; omega
          case d3 => omega
          case d4 => exact hb0.size
          intro v1 w2 hown1 hgr1 hne1
          have hb1' := Below.of_grown hb0 ho0 hgr1 hb0.size (Nat.le_refl _)
          obtain ⟨g1, cap1, rfl, _⟩ := Rw.form_ne hown1 hne1
          clear ho0 hr0 hgr1 hb0 hne1
          go_wp2_with fail
          rw [rounds_succ]
          go_wp2_with fail
          refine (cells_any x _ (S.below (hb1.trans (hb1'.mono hb1.size)))).mono ?_
          rintro e w3 ⟨g2, cap2, rfl, hRw, hw2⟩
          have hw' := hb1'.trans (hw2.mono hb1'.size)
          have hown2 := ownsRow_below hown1 hw2
          clear hown1
          go_wp2_with (at_builtin; refine wpList_append_rw rfl (.tmp 54) (.tmp 56) 33 rfl w1.heap.size 40 i0 _ 2 16 Tryd.underlying33 hi hz0 hz1 hz2 rfl (by decide) _ _ _ rfl hown2 _ _ _ rfl hRw (flat_one _) ?e2 ?e3 ?e4 ?_)
          case e2 => unfold maxLen; omega
          case e3 => omega
          case e4 => exact hw'.size
          intro v' w4 hown' hgr hne'
          have hb2 := Below.of_grown hw' hown2 hgr hw'.size (Nat.le_refl _)
          have hown3 : w4.ownsRow w1.heap.size 40 2 v' (cells m p (l.take (k + 1))).length (flat (cells m p (l.take (k + 1)))) := by
            have e : flat (List.replicate 1 ((32 : Int), (0 : Int))) = [.int .i32 32, .int .i64 0] := rfl
            rw [HT.out, flat_append, flat_append, e, List.length_append, List.length_append, List.append_assoc]; exact hown'
          have HNE' := Lib.hid hne'
          clear hown2 hown' hRw hne' hgr
          go_wp2
          go_roundw
          case rel => exact ⟨k + 1, by omega, by go_num, hown3, HNE'.out, hb2⟩
          case measure => simp [intOf]; omega
      · obtain rfl : k = l.length := by omega
        rw [List.take_length] at *
        clear hc
        have HOWN := Lib.hid (ownsRow_mono hown hb1.size)
        clear hown
        go_wp2
        go_ret2
        exact ⟨hww, .inr ⟨trivial, _, rfl, by simp, HOWN.out⟩⟩
  · have HK := Lib.hid (show lk a b l.length ≠ 0 ∧ (lk a b l.length != 0) = true from ⟨h0, by simpa using h0⟩)
    have d1 := HK.out.2
    go_enter Tryd.func15, Tryd.ntmps15
    go_wp2_with fail
    refine HC.out.mono ?_
    rintro e w1 ⟨hb1, ⟨_, rfl⟩ | ⟨h1, _⟩⟩
    · go_wp2
      go_ret2
      exact ⟨hb1, .inl ⟨HK.out.1, rfl⟩⟩
    · exact absurd h1 h0
end Go.Proofs.YtjojbhlhfjaacaaDoor
