/- The walk of WideHalves: it returns true, and turns nothing that was there. -/
import Derived.Test.YtapgogfibonglaaDoorWdF
import Derived.Test.YtapgogfibonglaaDoorWdQ
import Derived.BigQuiet
set_option linter.unusedVariables false
namespace Go.Proofs.YtapgogfibonglaaDoor
open Go.RowKit Gl L Wd
set_option maxRecDepth 100000 in
set_option maxHeartbeats 4000000 in
theorem halves_law (v : Value) (xs : List Int) (w : World) (hv : IsRow w v .i32 xs) (hx : xs.length ≤ maxLen) (S : Spans w 0) : Calls Tryd.prog 7 #[v] w fun e w' => e = .returned (.bool true) ∧ Below w.heap.size w w' := by
  have hxm := hx
  unfold maxLen at hxm
  have hv' := hv
  obtain ⟨A, cap, rfl, _⟩ := hv'
  by_cases hl : 1000 < xs.length
  · have d1 : decide ((1000 : Int) < (xs.length : Int)) = true := by simp; omega
    go_enter Tryd.func7, Tryd.ntmps7
    go_wp2
    go_ret
    exact ⟨rfl, Below.refl _ _⟩
  have d1 : decide ((1000 : Int) < (xs.length : Int)) = false := by simp; omega
  have hrl1 := (row_len xs).1
  have hrl2 := (row_len xs).2
  have HG := Lib.hid (row_good xs)
  go_enter Tryd.func7, Tryd.ntmps7
  go_wp2_with fail
  refine (row_any _ xs _ hv (by omega) S).mono ?_
  rintro e w1 ⟨g, cap1, rfl, hcap1, hown, hw1⟩
  obtain ⟨_, A1, cap1', he, hr⟩ := Rw.of_owns hown
  injection he with h1 _ h3
  subst h1 h3
  clear hown
  go_wp2_with fail
  go_loopw [4] (fun i wr => ∃ k : Nat, k ≤ (row xs).length ∧ i = .int .i64 k ∧ Below w1.heap.size w1 wr) (fun i _ => (row xs).length - (intOf i).toNat)
  case atStart => exact ⟨0, by omega, rfl, Below.refl _ _⟩
  case round =>
    obtain ⟨k, hk, rfl, hwr⟩ := hrel
    have hww := hw1.trans (hwr.mono hw1.size)
    by_cases hlt : k < (row xs).length
    · rcases hr with ⟨hr, _⟩ | ⟨b, off, he, hc⟩
      · omega
      cases he
      simp only [Nat.zero_add] at hc
      have hcell : ∀ j, j < (row xs).length → ∀ w', Below w1.heap.size w1 w' → w'.cell? ⟨g, j * 2, none⟩ = some (.int .i32 ((row xs).getD j (0, 0)).1) ∧ w'.cell? ⟨g, j * 2 + 1, none⟩ = some (.int .i64 ((row xs).getD j (0, 0)).2) := fun j hj w' hb => by
        obtain ⟨f1, f2⟩ := flat_at (row xs) j hj
        rw [old_cell hb _ _ (World.block_lt_of_cell? w1 _ (hc _ _ f1)), old_cell hb _ _ (World.block_lt_of_cell? w1 _ (hc _ _ f2))]
        exact ⟨hc _ _ f1, hc _ _ f2⟩
      have HC := Lib.hid hcell
      clear hc hcell
      obtain ⟨g1, g2, g3, g4⟩ := HG.out k hlt
      obtain ⟨c1, c2⟩ := HC.out k hlt wr hwr
      generalize hxy : (row xs).getD k (0, 0) = xy at *
      obtain ⟨x, y⟩ := xy
      simp only at g1 g2 g3 g4 c1 c2
      have HOK := Lib.hid (And.intro g1 g2)
      have HXY := Lib.hid hxy
      clear g1 g2 hxy
      go_wp2_with fail
      refine (wis_any _ _ _ (S.below hww)).mono ?_
      rintro e w2 ⟨rfl, hb2⟩
      rw [HOK.out.1]
      have hw2 := hwr.trans (hb2.mono hwr.size)
      obtain ⟨e1, e2⟩ := HC.out k hlt w2 hw2
      rw [HXY.out] at e1 e2
      simp only at e1 e2
      clear c1 c2
      go_wp2_with fail
      refine (shown_any _ _).mono ?_
      rintro e w3 ⟨rfl, rfl⟩
      rw [HOK.out.2]
      by_cases hy1 : y = 1
      · obtain ⟨n1, n2⟩ := g3 hy1
        obtain ⟨f1, f2⟩ := HC.out (k + 1) n1 w2 hw2
        rw [n2] at f1 f2
        simp only at f1 f2
        have HY := Lib.hid hy1
        subst hy1
        clear g3 g4 n2
        have d3 : ((k : Int) + 1 == ((row xs).length : Int)) = false := by simp; omega
        go_wp2
        go_quiet (fail)
        go_wp2
        go_quiet (fail)
        go_wp2
        go_roundw
        case rel => exact ⟨k + 1, by omega, by go_num, below_drewN' hw2 _⟩
        case measure => simp [intOf]; omega
      have b1 : (y == 1) = false := by simpa using hy1
      by_cases hy2 : y = 2
      · obtain ⟨n1, n2⟩ := g4 hy2
        obtain ⟨p, rfl⟩ : ∃ p, k = p + 1 := ⟨k - 1, by omega⟩
        rw [Nat.add_sub_cancel] at n2
        obtain ⟨f1, f2⟩ := HC.out p (by omega) w2 hw2
        rw [n2] at f1 f2
        simp only at f1 f2
        have HY := Lib.hid hy2
        have HY1 := Lib.hid hy1
        subst hy2
        clear g3 g4 n2 hy1
        have d3 : ((p : Int) + 1 == 0) = false := by simp; omega
        go_wp2
        go_quiet (fail)
        go_wp2
        go_quiet (fail)
        go_wp2
        go_roundw
        case rel => exact ⟨p + 1 + 1, by omega, by go_num, below_drewN' hw2 _⟩
        case measure => simp [intOf]; omega
      · have b2 : (y == 2) = false := by simpa using hy2
        have HY2 := Lib.hid hy2
        have HY1 := Lib.hid hy1
        clear hy1 hy2 g3 g4
        go_wp2
        go_quiet (fail)
        go_wp2
        go_quiet (fail)
        go_wp2
        go_roundw
        case rel => exact ⟨k + 1, by omega, by go_num, below_drewN' hw2 _⟩
        case measure => simp [intOf]; omega
    · clear hr
      have d4 : decide ((xs.length : Int) ≤ ((row xs).length : Int)) = true := by simp; omega
      have d5 : decide (((row xs).length : Int) ≤ 2 * (xs.length : Int)) = true := by simp; omega
      go_wp2_with fail
      refine (widths_any _ (S.below hww)).mono ?_
      rintro e w2 ⟨rfl, hb2⟩
      have hw2 := hww.trans (hb2.mono hww.size)
      go_wp2
      go_ret
      exact ⟨rfl, hw2⟩
end Go.Proofs.YtapgogfibonglaaDoor
