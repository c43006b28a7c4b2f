/- The walk of FlowWhole: it returns true, and turns nothing that was there. -/
import Derived.Test.YtjojbhlhfjaacaaDoorFlH
set_option linter.unusedVariables false
namespace Go.Proofs.YtjojbhlhfjaacaaDoor
open Go.RowKit Gl L Wd Fl
set_option maxRecDepth 100000 in
set_option maxHeartbeats 2000000 in
theorem whole_law (a b : Int) (v : Value) (l : List Int) (w : World) (hv : IsRow w v .i32 l) (hl : l.length ≤ maxLen) (S : Spans w 1) (T : Blk w 0) : Calls Tryd.prog 6 #[.int .i64 a, .int .i64 b, v] w fun e w' => e = .returned (.bool true) ∧ Below w.heap.size w w' := by
  have hxm := hl
  unfold maxLen at hxm
  have hv' := hv
  obtain ⟨A, cap, rfl, hc⟩ := hv'
  by_cases hk : 1000 < l.length
  · have d1 : decide ((1000 : Int) < (l.length : Int)) = true := by simp; omega
    go_enter Tryd.func6, Tryd.ntmps6
    go_wp2
    go_ret
    exact ⟨rfl, Below.refl _ _⟩
  have d1 : decide ((1000 : Int) < (l.length : Int)) = false := by simp; omega
  have HL := Lib.hid (lay_any a b _ l w hv hl S)
  by_cases h0 : lk a b l.length = 0
  · have hq := lk_ok h0
    have HK := Lib.hid h0
    obtain ⟨m, p, rfl, rfl, g1, g2, g3⟩ := ck_ok hq.1
    clear h0
    go_enter Tryd.func6, Tryd.ntmps6
    go_wp2_with fail
    refine HL.out.mono ?_
    intro e w1 h1
    obtain ⟨hb1, gp, capp, rfl, hcapp, hop, _⟩ := h1.yes HK.out
    simp only [Int.toNat_natCast] at hop ⊢
    obtain ⟨gp', capp', he, _, hg1, hg2, hcp⟩ := place_at hop (by simp)
    simp only [Value.slice.injEq, Option.some.injEq, Addr.mk.injEq, and_true, true_and] at he
    obtain ⟨rfl, rfl⟩ := he
    have HCP := Lib.hid hcp
    clear hcp hop h1
    generalize hz : fin m p l = z at *
    have HZ := Lib.hid hz
    clear hz
    go_wp2_with fail
    go_loopw [10, 11] (fun c i wr => ∃ k : Nat, k ≤ l.length ∧ i = .int .i64 k ∧ c = .int .i64 (fin m p (l.take k) : Nat) ∧ Below w1.heap.size w1 wr) (fun _ i _ => l.length - (intOf i).toNat)
    case atStart => exact ⟨0, Nat.zero_le _, rfl, rfl, Below.refl _ _⟩
    case round =>
      obtain ⟨k, hk, rfl, rfl, hw⟩ := hrel
      have hww := hb1.trans (hw.mono hb1.size)
      by_cases hlt : k < l.length
      · rcases hc with rfl | ⟨b, off, rfl, hc⟩
        · simp at hlt
        have hcell : wr.cell? ⟨b, off + k, none⟩ = some (.int .i32 (l.getD k 0)) := by
          rw [hww.cell (World.block_lt_of_cell? w _ (hc k hlt))]; exact hc k hlt
        have HT := Lib.hid (fin_take (w := m) (a := p) hlt)
        have hor := nx_or m (fin m p (l.take k)) (l.getD k 0) g1
        have hrw := nx_row m (fin m p (l.take k)) (l.getD k 0) g1
        have hcl := cl_len (l.getD k 0)
        have hfl2 := fin_le m p (l.take k) g1
        rw [List.length_take] at hfl2
        have hP := HCP.out k hlt
        have hwd : wd (l.getD k 0) = (cl (l.getD k 0)).length := rfl
        generalize hx : l.getD k 0 = x at *
        generalize hf : fin m p (l.take k) = f at *
        generalize hy : nx m f x = y at *
        generalize hn : (cl x).length = n at *
        have HWD := Lib.hid hwd
        clear hx hf hc hy hn hwd
        have hyf : f ≤ y := by omega
        have hyu : y ≤ 20000 := by omega
        have hnu : n ≤ 2 := by omega
        have d2 : decide ((y : Int) < (f : Int)) = false := by simp; omega
        have d3 : decide (y < f) = false := by simp; omega
        have d4 : decide (f ≤ y) = true := by simp; omega
        have hdv : ((y / m : Nat) : Int) = (y : Int) / (m : Int) := rfl
        have hd0 : (0 : Int) ≤ (y : Int) / (m : Int) := by rw [← hdv]; exact Int.natCast_nonneg _
        have hd1 : (y : Int) / (m : Int) ≤ (y : Int) := by have := Nat.div_le_self y m; rw [← hdv]; omega
        clear hdv
        have q1 : ((y : Int) / (m : Int) == ((y : Int) + (n : Int) - 1) / (m : Int)) = true := by
          have : (((y + n - 1 : Nat) : Int) / (m : Int)) = ((y : Int) / (m : Int)) := by exact_mod_cast congrArg (Nat.cast : Nat → Int) hrw
          rw [show (y : Int) + (n : Int) - 1 = ((y + n - 1 : Nat) : Int) by omega, this]
          simp
        have q2 : ((y : Int) / (m : Int) != ((y : Int) + (n : Int) - 1) / (m : Int)) = false := by
          rw [bne, q1]; rfl
        go_wp2_with fail
        refine (width_any x _ (S.below hww)).mono ?_
        rintro e w2 ⟨rfl, hb2⟩
        rw [HWD.out]
        have hP2 : w2.cell? ⟨gp, k, none⟩ = some (.int .i64 (y : Int)) := by
          rw [old_cell (hw.trans (hb2.mono hw.size)) _ _ hg2]; exact hP
        have HW2 := Lib.hid (hw.trans (hb2.mono hw.size))
        clear hw hb2 hcell hP
        go_wp2
        go_quiet (fail)
        rcases hor with ⟨he, _⟩ | ⟨he, hn2, hmod, _⟩
        · have b1 : ((y : Int) == (f : Int)) = true := by simp; omega
          have c1 : ((y : Int) != (f : Int)) = false := by rw [bne, b1]; rfl
          have HQ := Lib.hid he
          clear he
          go_wp2
          go_roundw
          case rel => exact ⟨k + 1, by omega, by go_num, by rw [HT.out]; go_num, below_drewN' HW2.out _⟩
          case measure => simp [intOf]; omega
        · have b1 : ((y : Int) == (f : Int)) = false := by simp; omega
          have b2 : ((y : Int) == (f : Int) + 1) = true := by simp; omega
          have b3 : ((n : Int) == 2) = true := by simp; omega
          have b4 : ((y : Int) % (m : Int) == 0) = true := by
            have : ((y % m : Nat) : Int) = 0 := by rw [he, hmod]; rfl
            rw [Int.natCast_emod] at this
            simp [this]
          have c1 : ((y : Int) != (f : Int)) = true := by rw [bne, b1]; rfl
          have c2 : ((y : Int) != (f : Int) + 1) = false := by rw [bne, b2]; rfl
          have c3 : ((n : Int) != 2) = false := by rw [bne, b3]; rfl
          have c4 : ((y : Int) % (m : Int) != 0) = false := by rw [bne, b4]; rfl
          have HQ := Lib.hid he
          clear he hmod hn2
          go_wp2
          go_roundw
          case rel => exact ⟨k + 1, by omega, by go_num, by rw [HT.out]; go_num, below_drewN' HW2.out _⟩
          case measure => simp [intOf]; omega
      · obtain rfl : k = l.length := by omega
        rw [List.take_length, HZ.out]
        clear hc
        go_wp2_with fail
        refine (flows_any _ (S.below hww) (T.below hww)).mono ?_
        rintro e w3 ⟨rfl, hb3⟩
        have hb3 := hww.trans (hb3.mono hww.size)
        go_wp2
        go_ret
        exact ⟨by simp, hb3⟩
  · have HK := Lib.hid h0
    clear h0
    generalize hx : lk a b l.length = x at *
    have HX := Lib.hid hx
    have d2 : (x != 0) = true := by simpa using HK.out
    clear hx
    go_enter Tryd.func6, Tryd.ntmps6
    go_wp2_with fail
    refine HL.out.mono ?_
    intro e w1 h1
    obtain ⟨hb1, rfl⟩ := h1.no (by rw [HX.out]; exact HK.out)
    rw [HX.out]
    clear h1
    go_wp2_with fail
    refine (flows_any _ (S.below hb1) (T.below hb1)).mono ?_
    rintro e w3 ⟨rfl, hb3⟩
    have hb3 := hb1.trans (hb3.mono hb1.size)
    clear hb1
    go_wp2
    go_ret
    exact ⟨rfl, hb3⟩
end Go.Proofs.YtjojbhlhfjaacaaDoor
