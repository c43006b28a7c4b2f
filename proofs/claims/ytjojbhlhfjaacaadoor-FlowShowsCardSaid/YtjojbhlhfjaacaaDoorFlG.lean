/- The contract of the reference Cells: any width and place, rows of whatever length. -/
import Derived.Test.YtjojbhlhfjaacaaDoorFlF
import Derived.BigQuiet
set_option linter.unusedVariables false
namespace Go.Proofs.YtjojbhlhfjaacaaDoor
open Go.RowKit Gl L Wd Fl
namespace Fl
/-- Cells, and blanks up to q of them. -/
def pad (q : Nat) (l : List (Int × Int)) : List (Int × Int) := l ++ List.replicate (q - l.length) (32, 0)
theorem pad_len {q : Nat} {l : List (Int × Int)} (h : l.length ≤ q) : (pad q l).length = q := by simp [pad]; omega
theorem pad_rep {q d : Nat} {l : List (Int × Int)} (h : l.length + d ≤ q) : pad q (l ++ List.replicate d (32, 0)) = pad q l := by
  unfold pad
  rw [List.append_assoc, List.replicate_append_replicate, List.length_append, List.length_replicate, show d + (q - (l.length + d)) = q - l.length by omega]
theorem pad_set {q i : Nat} {l : List (Int × Int)} {c : Int × Int} (hi : i = l.length) (h : l.length < q) : (pad q l).set i c = pad q (l ++ [c]) := by
  subst hi
  unfold pad
  obtain ⟨m, hm⟩ : ∃ m, q - l.length = m + 1 := ⟨q - l.length - 1, by omega⟩
  rw [List.set_append_right _ _ (Nat.le_refl _), Nat.sub_self, hm, List.replicate_succ, List.length_append, show q - (l.length + [c].length) = m by simp; omega]
  simp
theorem pad_full {q : Nat} {l : List (Int × Int)} (h : l.length = q) : pad q l = l := by simp [pad, h]
theorem flat_snoc (n : Nat) : flat (List.replicate (n + 1) ((32 : Int), (0 : Int))) = flat (List.replicate n (32, 0)) ++ [.int .i32 32, .int .i64 0] := by
  rw [List.replicate_succ', flat_append]; rfl
end Fl
set_option maxHeartbeats 4000000 in
theorem rcellsF_any (a b : Int) (v : Value) (l : List Int) (w : World) (hv : IsRow w v .i32 l) (hl : l.length ≤ maxLen) : Calls Tryd.prog 16 #[.int .i64 a, .int .i64 b, v] w fun e w' => Celd w w' e a b l := by
  have hlm := hl
  unfold maxLen at hlm
  have HC := Lib.hid (rlay_any a b v l w hv hl)
  unfold Celd
  have hv' := hv
  obtain ⟨A, cap, rfl, hc⟩ := hv'
  by_cases h0 : lk a b l.length = 0
  · obtain ⟨h, h5⟩ := lk_ok h0
    rw [h0]
    obtain ⟨m, p, rfl, rfl, h1, h2, h3⟩ := ck_ok h
    simp only [Int.toNat_natCast] at *
    clear h
    obtain ⟨i0, hi, hz0, hz1, hz2⟩ := info_parts Tryd.info40
    go_enter Tryd.func16, Tryd.ntmps16
    go_wp2_with fail
    refine HC.out.mono ?_
    rintro e w1 ⟨hb1, ⟨hne, _⟩ | ⟨_, vp, rfl, hvp, hop⟩⟩
    · exact absurd h0 hne
    simp only [Int.toNat_natCast] at hop ⊢
    obtain ⟨gp, capp, rfl, hcapp, hg1, hg2, hcp⟩ := place_at hop hvp
    have hfl := fin_le m p l h1
    have hq := cells_len m p l h1
    have HCP := Lib.hid hcp
    clear hcp hop hvp
    generalize hz : fin m p l = z at *
    generalize hQ : (cells m p l).length = Q at *
    have HQ := Lib.hid hQ
    have hown0 := World.ownsRow_made (e := 40) (size := 2) w1 #[] 0 (Nat.le_refl _) (by decide) (by simp)
    have hb2 : Below w1.heap.size w1 (w1.alloc (.cells #[] 40)) := (Below.refl _ _).alloc (Nat.le_refl _) _
    go_wp2_with fail
    go_loopw [11, 12] (fun c i wr => ∃ j : Nat, j ≤ Q ∧ i = .int .i64 ((p : Int) + (j : Int)) ∧ wr.ownsRow w1.heap.size 40 2 c j (flat (List.replicate j (32, 0))) ∧ c ≠ .slice none 0 0 ∧ Below w1.heap.size w1 wr) (fun _ i _ => z - (intOf i).toNat)
    case atStart => exact ⟨0, Nat.zero_le _, by simp, hown0, by simp, hb2⟩
    case round =>
      obtain ⟨j, hj, rfl, hown, hne, hw⟩ := hrel
      have HNE := Lib.hid hne
      clear hne hown0 hb2
      by_cases hlt : j < Q
      · have ho0 := hown.alloc (.cells #[.int .i32 32, .int .i64 0] 40)
        have hb0 := hw.alloc hw.size (.cells #[.int .i32 32, .int .i64 0] 40)
        have hr0 := Rw.lit wr #[.int .i32 32, .int .i64 0] 40 2 1 1 (by simp)
        have hs0 : (wr.alloc (.cells #[.int .i32 32, .int .i64 0] 40)).heap.size = wr.heap.size + 1 := by simp
        go_wp2_with (at_builtin; refine wpList_append_rw rfl (.tmp 34) (.tmp 36) 33 rfl w1.heap.size 40 i0 _ 2 16 Tryd.underlying33 hi hz0 hz1 hz2 rfl (by decide) _ _ _ rfl ho0 _ _ _ rfl hr0 (flat_one [(32, 0)]) ?d2 ?d3 ?d4 ?_)
        case d2 => unfold maxLen; omega
        case d3 => omega
        case d4 => have := hw.size; omega
        intro v1 w2 hown1 hgr1 hne1
        have hb1' := Below.of_grown hb0 ho0 hgr1 hb0.size (Nat.le_refl _)
        have HNE' := Lib.hid (hne1 HNE.out)
        have hown2 : w2.ownsRow w1.heap.size 40 2 v1 (j + 1) (flat (List.replicate (j + 1) (32, 0))) := by rw [flat_snoc]; exact hown1
        clear ho0 hr0 hgr1 hb0 hne1 hown1 hown
        go_wp2
        go_roundw
        case rel => exact ⟨j + 1, by omega, by go_num, hown2, HNE'.out, hb1'⟩
        case measure => simp [intOf]; omega
      · obtain rfl : j = Q := by omega
        obtain ⟨gc, capc, rfl, hcapc⟩ := Rw.form_ne hown HNE.out
        have HO := Lib.hid hown
        have hwz := hw.size
        clear hown
        have e0 : List.replicate j ((32 : Int), (0 : Int)) = pad j (cells m p (l.take 0)) := by simp [pad, cells]
        rw [e0] at HO
        have HW0 := Lib.hid hw
        clear hw hQ e0
        go_wp2_with fail
        go_loopw [13] (fun i wx => ∃ k : Nat, k ≤ l.length ∧ i = .int .i64 k ∧ wx.ownsRow w1.heap.size 40 2 (.slice (some ⟨gc, 0, none⟩) j capc) j (flat (pad j (cells m p (l.take k)))) ∧ Below w1.heap.size w1 wx) (fun i _ => l.length - (intOf i).toNat)
        case atStart => exact ⟨0, Nat.zero_le _, rfl, HO.out, HW0.out⟩
        case round =>
          obtain ⟨k, hk, rfl, hown, hw⟩ := hrel
          have hww := hb1.trans (hw.mono hb1.size)
          by_cases hlt : k < l.length
          · rcases hc with rfl | ⟨b, off, rfl, hc⟩
            · simp at hlt
            have hbw : b < w.heap.size := World.block_lt_of_cell? w _ (hc k hlt)
            have hcell : wr.cell? ⟨b, off + k, none⟩ = some (.int .i32 (l.getD k 0)) := by
              rw [hww.cell (World.block_lt_of_cell? w _ (hc k hlt))]; exact hc k hlt
            have hcell2 : wr.cell? ⟨gp, k, none⟩ = some (.int .i64 (nx m (fin m p (l.take k)) (l.getD k 0) : Nat)) := by
              rw [old_cell hw _ _ hg2]; exact HCP.out k hlt
            have hgw : gp < wr.heap.size := by have := hw.size; omega
            have hfk := cells_len m p (l.take k) h1
            have hT := cells_take (w := m) (a := p) hlt
            have hcl := cl_len (l.getD k 0)
            have hnx := nx_ge m (fin m p (l.take k)) (l.getD k 0) h1
            have hle := (fin_mono (w := m) (a := p) (l := l) (k := k + 1) h1).1
            rw [fin_take hlt, hz] at hle
            generalize hx : l.getD k 0 = x at *
            generalize hf : fin m p (l.take k) = f at *
            generalize hy : nx m f x = y at *
            generalize hX : cells m p (l.take k) ++ List.replicate (y - f) (32, 0) = X at *
            have hXl : X.length + p = y := by rw [← hX, List.length_append, List.length_replicate]; omega
            have hown' : wr.ownsRow w1.heap.size 40 2 (.slice (some ⟨gc, 0, none⟩) j capc) j (flat (pad j X)) := by
              rw [← hX, pad_rep (by omega)]; exact hown
            have HOWN := Lib.hid hown'
            have HT := Lib.hid hT
            have HWX := Lib.hid hw
            clear hx hf hc hown hown' hy hX hT hw
            go_wp2_with fail
            refine (rcells_at x _).mono ?_
            rintro e w2 ⟨g2, cap2, rfl, hRw, hw2, hg3⟩
            have hgc := (HOWN.out.lt _ rfl).2
            have hw' := HWX.out.trans (hw2.mono HWX.out.size)
            have hown1 := ownsRow_below HOWN.out hw2
            have hcell3 : w2.cell? ⟨gp, k, none⟩ = some (.int .i64 (y : Int)) := by rw [old_cell hw2 _ _ hgw]; exact hcell2
            have HRW := Lib.hid hRw
            have HO2 := Lib.hid hown1
            have HW2 := Lib.hid hw'
            clear hcell hcell2 hRw hown1 hw' hw2
            go_wp2_with fail
            go_loopw [15] (fun i wy => ∃ q : Nat, q ≤ (cl x).length ∧ i = .int .i64 q ∧ wy.ownsRow w1.heap.size 40 2 (.slice (some ⟨gc, 0, none⟩) j capc) j (flat (pad j (X ++ (cl x).take q))) ∧ Below w1.heap.size w1 wy ∧ wy.heap[g2]? = w2.heap[g2]?) (fun i _ => (cl x).length - (intOf i).toNat)
            case atStart => exact ⟨0, Nat.zero_le _, rfl, by simpa using HO2.out, HW2.out, rfl⟩
            case round =>
              obtain ⟨q, hq, rfl, hown, hw, hk2⟩ := hrel
              have hp3 : wr.cell? ⟨gp, k, none⟩ = some (.int .i64 (y : Int)) := by
                rw [old_cell hw _ _ hg2, ← old_cell HW2.out _ _ hg2]; exact hcell3
              by_cases hqn : q < (cl x).length
              · obtain ⟨c1, c2⟩ := Rw.at2 HRW.out q hqn
                rw [← World.cell?_of_block (a := ⟨g2, 0 + q * 2, none⟩) hk2] at c1
                rw [← World.cell?_of_block (a := ⟨g2, 0 + q * 2 + 1, none⟩) hk2] at c2
                rw [Nat.zero_add] at c1 c2
                have hTQ := take_snoc2 (d := ((0 : Int), (0 : Int))) hqn
                have hlq : (X ++ (cl x).take q).length = X.length + q := by rw [List.length_append, List.length_take]; omega
                have hS := pad_set (q := j) (i := X.length + q) (l := X ++ (cl x).take q) (c := (cl x).getD q (0, 0)) hlq.symm (by omega)
                rw [List.append_assoc, ← hTQ] at hS
                generalize hxy : (cl x).getD q (0, 0) = xy at c1 c2 hS
                obtain ⟨x3, y3⟩ := xy
                simp only at c1 c2
                obtain ⟨x4, y4, _, p3, p4, q3, q4⟩ := own_cells hown (X.length + q) (by omega)
                have HS := Lib.hid hS
                have HS3 := Lib.hid (ownsRow_set2 hown ((X.length + q) * 2) (.int .i32 x3) (.int .i64 y3))
                have HON := Lib.hid hown
                have HWY := Lib.hid (And.intro hw hk2)
                have hg2y := World.block_lt_of_cell? wr _ c1
                have n1 : 0 ≤ (y : Int) - (p : Int) + (q : Int) := by omega
                have n2 : ((y : Int) - (p : Int) + (q : Int)).toNat = X.length + q := by omega
                have n3 : (y : Int) - (p : Int) + (q : Int) < (j : Int) := by omega
                have s1 := IntWalk.i64_in ((y : Int) - (p : Int)) (by omega)
                have s2 := IntWalk.i64_in ((y : Int) - (p : Int) + (q : Int)) (by omega)
                clear hown hw hk2 hS hTQ hxy
                go_wp2
                go_region
                clear s1 s2 n1 n2 n3 c1 c2 p3 p4 q3 q4 hp3
                go_wp2
                go_roundw
                case rel =>
                  obtain ⟨o1, g1⟩ := HS3.out
                  refine ⟨q + 1, by omega, by go_num, ?_, (below_own HWY.out.1 g1 HON.out (Nat.le_refl _) HWY.out.1.size).drew, (g1.block _ hg2y (by simp; omega)).trans HWY.out.2⟩
                  rw [← HS.out, flat_set]
                  exact o1.drew
                case measure => simp [intOf]; omega
              · obtain rfl : q = (cl x).length := by omega
                rw [List.take_length] at hown
                have hX2 : pad j (X ++ cl x) = pad j (cells m p (l.take (k + 1))) := by rw [HT.out]
                rw [hX2] at hown
                have HON := Lib.hid hown
                have HWY := Lib.hid hw
                clear hown hw hk2 hX2
                go_wp2
                go_roundw
                case rel => exact ⟨k + 1, by omega, by go_num, HON.out, HWY.out⟩
                case measure => simp [intOf]; omega
          · obtain rfl : k = l.length := by omega
            rw [List.take_length] at *
            rw [pad_full HQ.out] at hown
            have hown' : wr.ownsRow w.heap.size 40 2 (.slice (some ⟨gc, 0, none⟩) j capc) (cells m p l).length (flat (cells m p l)) := by
              rw [HQ.out]; exact ownsRow_mono hown hb1.size
            have HON := Lib.hid hown'
            clear hown hown' hc
            go_wp2
            go_ret2
            exact ⟨hww, .inr ⟨trivial, _, rfl, by simp, HON.out⟩⟩
  · have HK := Lib.hid (show lk a b l.length ≠ 0 ∧ (lk a b l.length != 0) = true from ⟨h0, by simpa using h0⟩)
    have d1 := HK.out.2
    go_enter Tryd.func16, Tryd.ntmps16
    go_wp2_with fail
    refine HC.out.mono ?_
    rintro e w1 ⟨hb1, ⟨_, rfl⟩ | ⟨h1, _⟩⟩
    · go_wp2
      go_ret2
      exact ⟨hb1, .inl ⟨HK.out.1, rfl⟩⟩
    · exact absurd h1 h0
end Go.Proofs.YtjojbhlhfjaacaaDoor
