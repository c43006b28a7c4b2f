/- The contract of the reference Lay: any width and place, rows of whatever length. -/
import Derived.Test.YtjojbhlhfjaacaaDoorFlD
set_option linter.unusedVariables false
namespace Go.Proofs.YtjojbhlhfjaacaaDoor
open Go.RowKit Gl L Wd Fl
set_option maxHeartbeats 2000000 in
theorem rlay_any (a b : Int) (v : Value) (l : List Int) (w : World) (hv : IsRow w v .i32 l) (hl : l.length ≤ maxLen) : Calls Tryd.prog 13 #[.int .i64 a, .int .i64 b, v] w fun e w' => Lays w w' e a b l := by
  have hlm := hl
  unfold maxLen at hlm
  have HC := Lib.hid (rnext_any a b 32)
  unfold Lays
  have hv' := hv
  obtain ⟨A, cap, rfl, hc⟩ := hv'
  rcases lk_or a b l.length with ⟨h, h5, h0⟩ | h0 | ⟨h0, h⟩
  · rw [h0]
    have HK := Lib.hid h
    have d1 : decide ((500 : Int) < (l.length : Int)) = true := by simp; omega
    clear h h0
    go_enter Tryd.func13, Tryd.ntmps13
    go_wp2_with fail
    refine (HC.out _).mono ?_
    rintro e w1 ⟨rfl, hb1⟩
    rw [HK.out]
    go_wp2
    go_ret3
    exact ⟨hb1, .inl ⟨by decide, rfl⟩⟩
  · obtain ⟨h, h5⟩ := lk_ok h0
    rw [h0]
    have HK := Lib.hid h
    obtain ⟨m, p, rfl, rfl, h1, h2, h3⟩ := ck_ok h
    simp only [Int.toNat_natCast]
    have d1 : decide ((500 : Int) < (l.length : Int)) = false := by simp; omega
    clear h h0
    obtain ⟨i0, hi, hz0, hz1, hz2⟩ := info_parts Tryd.info3
    go_enter Tryd.func13, Tryd.ntmps13
    go_wp2_with fail
    refine (HC.out _).mono ?_
    rintro e w1 ⟨rfl, hb1⟩
    rw [HK.out]
    have hown0 := ownsRow_mono (World.ownsRow_made (e := 3) (size := 1) w1 #[] 0 (Nat.le_refl _) (by decide) (by simp)) hb1.size
    have hb2 := hb1.alloc hb1.size (.cells #[] 3)
    go_wp2
    go_loopw [1, 12, 13] (fun c o i wr => ∃ k : Nat, k ≤ l.length ∧ i = .int .i64 k ∧ c = .int .i64 (fin m p (l.take k) : Nat) ∧ wr.ownsRow w.heap.size 3 1 o k (ints .i64 (lay m p (l.take k))) ∧ o ≠ .slice none 0 0 ∧ Below w.heap.size w wr) (fun _ _ i _ => l.length - (intOf i).toNat)
    case atStart => exact ⟨0, Nat.zero_le _, rfl, rfl, hown0, by simp, hb2⟩
    case round =>
      obtain ⟨k, hk, rfl, rfl, hown, hne, hw⟩ := hrel
      have HNE := Lib.hid hne
      clear hne
      by_cases hlt : k < l.length
      · rcases hc with rfl | ⟨b, off, rfl, hc⟩
        · simp at hlt
        have hcell : wr.cell? ⟨b, off + k, none⟩ = some (.int .i32 (l.getD k 0)) := by
          rw [hw.cell (World.block_lt_of_cell? w _ (hc k hlt))]; exact hc k hlt
        have hfl := fin_le m p (l.take k) h1
        rw [List.length_take] at hfl
        have HT := Lib.hid (And.intro (fin_take (w := m) (a := p) hlt) (lay_take (w := m) (a := p) hlt))
        generalize hx : l.getD k 0 = x at hcell HT
        generalize hf : fin m p (l.take k) = f at *
        have HX := Lib.hid (step_any m f x wr h1 h2 (by omega))
        have HOWN := Lib.hid hown
        clear hx hf hc hown
        go_wp2_with fail
        refine HX.out.mono ?_
        rintro e w2 ⟨rfl, hh⟩
        have hw2 := hw.trans (hh.mono hw.size)
        have hown2 := (ownsRow_below HOWN.out hh).alloc (.cells #[.int .i64 (nx m f x : Nat)] 3)
        have hw3 := hw2.alloc hw2.size (.cells #[.int .i64 (nx m f x : Nat)] 3)
        have hRw := Rw.lit w2 #[.int .i64 (nx m f x : Nat)] 3 1 1 1 (by simp)
        have hgz : (w2.alloc (.cells #[.int .i64 (nx m f x : Nat)] 3)).heap.size = w2.heap.size + 1 := by simp
        go_wp2_with (at_builtin; refine wpList_append_rw rfl (.tmp 46) (.tmp 48) 28 rfl w.heap.size 3 i0 _ 1 8 Tryd.underlying28 hi hz0 hz1 hz2 rfl (by decide) _ _ _ rfl hown2 _ _ _ rfl hRw ?c1 ?c2 ?c3 ?c4 ?_)
        case c1 => intro u hu; simp at hu; subst hu; rfl
        case c2 => unfold maxLen; omega
        case c3 => omega
        case c4 => exact hw3.size
        intro v' w4 hown4 hgr hne'
        have hb4 := Below.of_grown hw3 hown2 hgr hw3.size (Nat.le_refl _)
        have HNE' := Lib.hid (hne' HNE.out)
        have hown5 : w4.ownsRow w.heap.size 3 1 v' (k + 1) (ints .i64 (lay m p (l.take (k + 1)))) := by
          rw [HT.out.2, ← ints_append]; exact hown4
        clear hown2 hown4 hgr hne' hRw hw3 hgz
        go_wp2
        go_roundw
        case rel => exact ⟨k + 1, by omega, by go_num, by rw [HT.out.1]; go_num, hown5, HNE'.out, hb4⟩
        case measure => simp [intOf]; omega
      · obtain rfl : k = l.length := by omega
        rw [List.take_length] at *
        clear hc
        have HOWN := Lib.hid hown
        clear hown
        go_wp2
        go_ret3
        exact ⟨hw, .inr ⟨trivial, _, rfl, HNE.out, HOWN.out⟩⟩
  · rw [h0]
    have HK := Lib.hid (show ck a b ≠ 0 ∧ (ck a b != 0) = true from by rcases h with h | h <;> rw [h] <;> decide)
    have d1 := HK.out.2
    clear h h0
    go_enter Tryd.func13, Tryd.ntmps13
    go_wp2_with fail
    refine (HC.out _).mono ?_
    rintro e w1 ⟨rfl, hb1⟩
    go_wp2
    go_ret3
    exact ⟨hb1, .inl ⟨HK.out.1, rfl⟩⟩
end Go.Proofs.YtjojbhlhfjaacaaDoor
