/- The walk of FlowShows: it returns true, and turns nothing that was there. -/
import Derived.Test.YtjojbhlhfjaacaaDoorFlQ
set_option linter.unusedVariables false
namespace Go.Proofs.YtjojbhlhfjaacaaDoor
open Go.RowKit Gl L Wd Fl
set_option maxRecDepth 100000 in
set_option maxHeartbeats 4000000 in
theorem shows_law (a b : Int) (v : Value) (l : List Int) (w : World) (hv : IsRow w v .i32 l) (hl : l.length ≤ maxLen) (S : Spans w 1) (T : Blk w 0) : Calls Tryd.prog 8 #[.int .i64 a, .int .i64 b, v] w fun e w' => e = .returned (.bool true) ∧ Below w.heap.size w w' := by
  have hxm := hl
  unfold maxLen at hxm
  have hv' := hv
  obtain ⟨A, cap, rfl, hc⟩ := hv'
  by_cases hk : 1000 < l.length
  · have d1 : decide ((1000 : Int) < (l.length : Int)) = true := by simp; omega
    go_enter Tryd.func8, Tryd.ntmps8
    go_wp2
    go_ret
    exact ⟨rfl, Below.refl _ _⟩
  have d1 : decide ((1000 : Int) < (l.length : Int)) = false := by simp; omega
  have HL := Lib.hid (lay_any a b _ l w hv hl S)
  have HR := Lib.hid (fun wz hz => cellsF_any a b _ l wz (IsRow.below hv hz) hl (S.below hz) (T.below hz))
  by_cases h0 : lk a b l.length = 0
  · have hq := lk_ok h0
    have HK := Lib.hid h0
    obtain ⟨m, p, rfl, rfl, g1, g2, g3⟩ := ck_ok hq.1
    have hcl := cells_len m p l g1
    have hfl := fin_le m p l g1
    have HFE := Lib.hid (And.intro (fin_eq m p l g1) (nbl_cells m p l g1))
    clear h0
    go_enter Tryd.func8, Tryd.ntmps8
    go_wp2_with fail
    refine HL.out.mono ?_
    intro e w1 h1
    obtain ⟨hb1, gp, capp, rfl, hcapp, hop, _⟩ := h1.yes HK.out
    simp only [Int.toNat_natCast] at hop ⊢
    go_wp2_with fail
    refine (HR.out _ hb1).mono ?_
    intro e w2 h2
    obtain ⟨hb2, gc, capc, rfl, hcapc, hrc⟩ := h2.yes HK.out
    simp only [Int.toNat_natCast] at hrc hcapc ⊢
    obtain ⟨gp', capp', he, _, hg1, hg2, hcp⟩ := place_at (ownsRow_below hop hb2) (by simp)
    simp only [Value.slice.injEq, Option.some.injEq, Addr.mk.injEq, and_true, true_and] at he
    obtain ⟨rfl, rfl⟩ := he
    have HCP := Lib.hid hcp
    have hbw := hb1.trans (hb2.mono hb1.size)
    have HCUT := Lib.hid (fun k (hk : k < l.length) => And.intro (cells_cut (w := m) (a := p) hk) (And.intro (fin_take (w := m) (a := p) hk) (fin_mono (w := m) (a := p) (l := l) (k := k + 1) g1).1))
    clear hcp hop h1 h2
    generalize hz : fin m p l = z at *
    generalize hC : cells m p l = C at *
    generalize hN : nbl C = N at *
    have HN := Lib.hid hN
    have hNC : N ≤ C.length := by rw [← hN]; exact List.count_le_length
    have HN2 := Lib.hid hNC
    clear hz hC hN
    have e1 : ((C.length : Int) == (z : Int) - (p : Int)) = true := by simp; omega
    have e2 : ((C.length : Int) != (z : Int) - (p : Int)) = false := by rw [bne, e1]; rfl
    go_wp2_with fail
    go_loopw [12, 13] (fun c i wr => ∃ k : Nat, k ≤ C.length ∧ i = .int .i64 k ∧ c = .int .i64 (nbl (C.take k) : Nat) ∧ Below w2.heap.size w2 wr) (fun _ i _ => C.length - (intOf i).toNat)
    case atStart => exact ⟨0, Nat.zero_le _, rfl, rfl, Below.refl _ _⟩
    case round =>
      obtain ⟨k, hk, rfl, rfl, hw⟩ := hrel
      by_cases hlt : k < C.length
      · obtain ⟨c1, c2⟩ := Rw.at2 hrc k hlt
        rw [← old_cell hw _ _ (World.block_lt_of_cell? w2 _ c1)] at c1
        rw [← old_cell hw _ _ (World.block_lt_of_cell? w2 _ c2)] at c2
        rw [Nat.zero_add] at c1 c2
        have HT := Lib.hid (count_take2 hlt)
        have hle : nbl (C.take k) ≤ k := by
          have := List.count_le_length (a := ((32 : Int), (0 : Int))) (l := C.take k)
          rw [List.length_take] at this
          unfold nbl; omega
        generalize nbl (C.take k) = q at *
        generalize hxy : C.getD k (0, 0) = xy at *
        obtain ⟨x, y⟩ := xy
        simp only at c1 c2
        clear hxy
        by_cases he : x = 32 ∧ y = 0
        · obtain ⟨rfl, rfl⟩ := he
          rw [if_pos rfl] at HT
          go_wp2
          go_roundw
          case rel => exact ⟨k + 1, by omega, by go_num, by rw [HT.out]; go_num, hw⟩
          case measure => simp [intOf]; omega
        · rw [if_neg (by simpa using he), Nat.add_zero] at HT
          rcases (show x ≠ 32 ∨ x = 32 ∧ y ≠ 0 by omega) with h | ⟨rfl, h⟩
          all_goals
            have hb := beq_eq_false_iff_ne.2 h
            clear h he
            go_wp2
            go_roundw
            case rel => exact ⟨k + 1, by omega, by go_num, by rw [HT.out]; rfl, hw⟩
            case measure => simp [intOf]; omega
      · obtain rfl : k = C.length := by omega
        rw [List.take_length, HN.out]
        have HW := Lib.hid hw
        clear hw
        go_wp2_with fail
        go_loopw [12, 14] (fun c i wr => ∃ k : Nat, k ≤ l.length ∧ i = .int .i64 k ∧ c = .int .i64 ((N : Int) - ((l.take k).count 32 : Nat)) ∧ Below w2.heap.size w2 wr) (fun _ i _ => l.length - (intOf i).toNat)
        case atStart => exact ⟨0, Nat.zero_le _, rfl, by simp, HW.out⟩
        case round =>
          obtain ⟨k, hk, rfl, rfl, hw⟩ := hrel
          have hww := hbw.trans (hw.mono hbw.size)
          by_cases hlt : k < l.length
          · rcases hc with rfl | ⟨b, off, rfl, hc⟩
            · simp at hlt
            have hbw2 : b < w.heap.size := World.block_lt_of_cell? w _ (hc k hlt)
            have hcell : wr.cell? ⟨b, off + k, none⟩ = some (.int .i32 (l.getD k 0)) := by
              rw [hww.cell (World.block_lt_of_cell? w _ (hc k hlt))]; exact hc k hlt
            have hP := HCP.out k hlt
            obtain ⟨u1, u2, u3⟩ := HCUT.out k hlt
            have hnx := nx_ge m (fin m p (l.take k)) (l.getD k 0) g1
            have hfk := cells_len m p (l.take k) g1
            have hfl2 := fin_le m p (l.take k) g1
            have hcl2 := cl_len (l.getD k 0)
            have HCT := Lib.hid (count_take hlt)
            have hct : (l.take k).count 32 ≤ k := by
              have := List.count_le_length (a := (32 : Int)) (l := l.take k)
              rw [List.length_take] at this; omega
            rw [u2] at u3
            generalize hx : l.getD k 0 = x at *
            generalize hf : fin m p (l.take k) = f at *
            generalize hy : nx m f x = y at *
            generalize hX : cells m p (l.take k) ++ List.replicate (y - f) (32, 0) = X at *
            have hXl : X.length + p = y := by rw [← hX, List.length_append, List.length_replicate]; omega
            generalize cells m (fin m p (List.take (k + 1) l)) (List.drop (k + 1) l) = Z at *
            have hCe : flat C = flat X ++ flat (cl x) ++ flat Z := by rw [u1, flat_append, flat_append]
            have hmid := fun c => Rw.mid (i := X.length) (n := (cl x).length) hrc hCe (flat_len _) (flat_len _) (by omega) c
            generalize hq : (l.take k).count 32 = q at *
            have HMID := Lib.hid hmid
            have HW3 := Lib.hid hw
            clear hx hf hy hX u1 u2 hCe hmid hq hc hw
            go_wp2_with fail
            refine (cells_any x _ (S.below hww)).mono ?_
            rintro e w3 ⟨g2, cap2, rfl, hRw, hb3⟩
            have hP3 : w3.cell? ⟨gp, k, none⟩ = some (.int .i64 (y : Int)) := by
              rw [old_cell (HW3.out.trans (hb3.mono HW3.out.size)) _ _ hg2]; exact hP
            have hcell3 : w3.cell? ⟨b, off + k, none⟩ = some (.int .i32 x) := by
              rw [old_cell hb3 _ _ (World.block_lt_of_cell? wr _ hcell)]; exact hcell
            have hmid3 := fun c => ((HMID.out c).below HW3.out).below hb3
            have HM3 := Lib.hid hmid3
            have HR3 := Lib.hid hRw
            have HW4 := Lib.hid (HW3.out.trans (hb3.mono HW3.out.size))
            clear hmid3 hRw hb3 hcell
            generalize hn : (cl x).length = n at *
            generalize X.length = X0 at *
            have v1 : decide ((y : Int) < (p : Int)) = false := by simp; omega
            have v2 : decide (y < p) = false := by simp; omega
            have v3 : decide (p ≤ y) = true := by simp; omega
            have v4 : decide ((z : Int) < (y : Int) + (n : Int)) = false := by simp; omega
            have n1 : 0 ≤ (y : Int) - (p : Int) := by omega
            have n2 : ((y : Int) - (p : Int)).toNat = X0 := by omega
            have n3 : ((y : Int) - (p : Int) + (n : Int)).toNat = X0 + n := by omega
            have n4 : (y : Int) - (p : Int) + (n : Int) ≤ (capc : Int) := by omega
            have n5 : 0 ≤ (y : Int) - (p : Int) + (n : Int) := by omega
            have hsame : ∀ nn c, Calls Tryd.prog 17 #[.slice (some ⟨gc, X0 * 2, none⟩) n c, .slice (some ⟨g2, 0, none⟩) n cap2] (w3.drewN nn) fun e w' => e = .returned (.bool true) ∧ ∃ m, w' = (w3.drewN nn).drewN m := fun nn c => by
              have q1 := (HM3.out c).below (below_drewN' (Below.refl w3.heap.size w3) nn)
              have q2 := HR3.out.below (below_drewN' (Below.refl w3.heap.size w3) nn)
              rw [Nat.zero_add] at q1
              refine (same2q_any _ _ (cl x) (cl x) _ (by rw [hn]; exact q1) (by rw [hn]; exact q2) (by omega) (by omega)).mono ?_
              rintro e w' ⟨rfl, h⟩
              exact ⟨by rw [decide_eq_true rfl], h⟩
            have HSM := Lib.hid hsame
            have HHN := Lib.hid hn
            clear hsame hn HM3 HR3
            go_wp2
            go_quiet ((go_at_call 17; exact Calls.quiet_of (HSM.out _ _)))
            by_cases h32 : x = 32
            · have b1 : (x == 32) = true := by simpa using h32
              rw [if_pos h32] at HCT
              have H32 := Lib.hid h32
              clear h32
              go_wp2
              go_roundw
              case rel => exact ⟨k + 1, by omega, by go_num, by rw [HCT.out]; go_num, below_drewN' HW4.out _⟩
              case measure => simp [intOf]; omega
            · have b1 : (x == 32) = false := by simpa using h32
              rw [if_neg h32] at HCT
              have H32 := Lib.hid h32
              clear h32
              go_wp2
              go_roundw
              case rel => exact ⟨k + 1, by omega, by go_num, by rw [HCT.out]; rfl, below_drewN' HW4.out _⟩
              case measure => simp [intOf]; omega
          · obtain rfl : k = l.length := by omega
            rw [List.take_length]
            have hNe : (N : Int) - (l.count 32 : Nat) = (ws m p l : Nat) := by
              have := HFE.out.2
              omega
            rw [hNe]
            have hrl := (row_len l).2
            have hsum : (row l).length + ws m p l = C.length := by have := HFE.out.1; omega
            generalize ws m p l = u at *
            have e3 : (((row l).length : Int) + (u : Int) == (C.length : Int)) = true := by simp; omega
            have hub : u ≤ 100000 := by omega
            clear hc hNe
            go_wp2_with fail
            refine (flows_any _ (S.below hww) (T.below hww)).mono ?_
            rintro e w4 ⟨rfl, hb4⟩
            have hw4 := hww.trans (hb4.mono hww.size)
            go_wp2_with fail
            refine (row_any _ l _ (hv.below hw4) (by omega) (S.below hw4)).mono ?_
            rintro e w5 ⟨g5, cap5, rfl, hcap5, hown5, hb5⟩
            have hw5 := hw4.trans (hb5.mono hw4.size)
            go_wp2
            go_ret
            exact ⟨by simp, hw5⟩
  · have HK := Lib.hid h0
    clear h0
    generalize hx : lk a b l.length = x at *
    have HX := Lib.hid hx
    have d2 : (x != 0) = true := by simpa using HK.out
    have d3 : (x == x) = true := by simp
    have d4 : (x != x) = false := by simp
    clear hx
    go_enter Tryd.func8, Tryd.ntmps8
    go_wp2_with fail
    refine HL.out.mono ?_
    intro e w1 h1
    obtain ⟨hb1, rfl⟩ := h1.no (by rw [HX.out]; exact HK.out)
    rw [HX.out]
    clear h1
    go_wp2_with fail
    refine (HR.out _ hb1).mono ?_
    intro e w2 h2
    obtain ⟨hb2, rfl⟩ := h2.no (by rw [HX.out]; exact HK.out)
    rw [HX.out]
    have hb2 := hb1.trans (hb2.mono hb1.size)
    clear h2 hb1
    go_wp2_with fail
    refine (flows_any _ (S.below hb2) (T.below hb2)).mono ?_
    rintro e w3 ⟨rfl, hb3⟩
    have hb3 := hb2.trans (hb3.mono hb2.size)
    clear hb2
    go_wp2
    go_ret
    exact ⟨by simp, hb3⟩
end Go.Proofs.YtjojbhlhfjaacaaDoor
