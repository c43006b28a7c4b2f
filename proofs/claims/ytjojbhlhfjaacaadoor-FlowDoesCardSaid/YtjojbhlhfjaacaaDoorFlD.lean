/- The contract of flow Lay: any width and place, rows of whatever length. -/
import Derived.Test.YtjojbhlhfjaacaaDoorFlC
set_option linter.unusedVariables false
namespace Go.Proofs.YtjojbhlhfjaacaaDoor
open Go.RowKit Gl L Wd Fl
namespace Fl
/-- What is wrong with a width, a place, or how many signs there are. -/
def lk (a b : Int) (n : Nat) : Int := if ck a b = 0 then (if 500 < n then 5 else 0) else ck a b
theorem lk_ok {a b : Int} {n : Nat} (h : lk a b n = 0) : ck a b = 0 ∧ n ≤ 500 := by
  unfold lk at h
  split at h
  · split at h
    · cases h
    · exact ⟨by assumption, by omega⟩
  · contradiction
theorem lk_or (a b : Int) (n : Nat) : ck a b = 0 ∧ 500 < n ∧ lk a b n = 5 ∨ lk a b n = 0 ∨ lk a b n = ck a b ∧ (ck a b = 1 ∨ ck a b = 4) := by
  unfold lk
  have := ck_or a b
  split
  · split
    · exact .inl ⟨by assumption, by assumption, rfl⟩
    · exact .inr (.inl rfl)
  · exact .inr (.inr ⟨rfl, by omega⟩)
theorem rep_ints (n : Nat) : (madeCells (Value.int .i64 0).cells (n * 1)).toList = ints .i64 (List.replicate n 0) := by
  apply List.ext_getElem?
  intro j
  by_cases hj : j < n
  · simp [madeCells, ints, hj, Value.cells, Nat.mod_one]
  · rw [List.getElem?_eq_none (by simp [madeCells]; omega), List.getElem?_eq_none (by simp [ints]; omega)]
theorem ints_set (k : IntKind) (l : List Int) (i : Nat) (x : Int) : (ints k l).set i (.int k x) = ints k (l.set i x) := by simp [ints, List.map_set]
theorem rep_set (l : List Int) (n : Nat) (x : Int) (h : 0 < n) : (l ++ List.replicate n 0).set l.length x = (l ++ [x]) ++ List.replicate (n - 1) 0 := by
  obtain ⟨m, rfl⟩ : ∃ m, n = m + 1 := ⟨n - 1, by omega⟩
  rw [List.set_append_right _ _ (Nat.le_refl _), Nat.sub_self, List.replicate_succ]
  simp
end Fl
/-- What Lay tells: an error, or where each sign begins, and the place behind the last one. -/
def Lays (W w' : World) (e : Ending) (a b : Int) (l : List Int) : Prop :=
  Below W.heap.size W w' ∧ (lk a b l.length ≠ 0 ∧ e = .returned (.tuple #[.slice none 0 0, .int .i64 0, .int .i64 (lk a b l.length)]) ∨
    lk a b l.length = 0 ∧ ∃ v, e = .returned (.tuple #[v, .int .i64 (fin a.toNat b.toNat l : Nat), .int .i64 0]) ∧ v ≠ .slice none 0 0 ∧ w'.ownsRow W.heap.size 3 1 v l.length (ints .i64 (lay a.toNat b.toNat l)))
theorem Tryd.info3 : (Tryd.prog.info? 3).map (fun i => (i.zero, i.size, i.bytes)) = some (some (.int .i64 0), 1, 8) := by kernel_rfl
theorem own_other {w w' : World} {base : Nat} {e : TypeId} {g n cap size : Nat} {xs : List Value} (h : w.ownsRow base e size (.slice (some ⟨g, 0, none⟩) n cap) n xs) (hg : w'.heap[g]? = w.heap[g]?) : w'.ownsRow base e size (.slice (some ⟨g, 0, none⟩) n cap) n xs := by
  obtain ⟨h1, h2⟩ := h
  refine ⟨h1, ?_⟩
  rcases h2 with ⟨h2, _⟩ | ⟨g', cap', cur, hv, hb, hh, r⟩
  · simp at h2
  · have : g' = g := by simp at hv; exact hv.1.symm
    subst this
    exact .inr ⟨g', cap', cur, hv, hb, by rw [hg]; exact hh, r⟩
set_option maxHeartbeats 2000000 in
theorem lay_any (a b : Int) (v : Value) (l : List Int) (w : World) (hv : IsRow w v .i32 l) (hl : l.length ≤ maxLen) (S : Spans w 1) : Calls Tryd.prog 12 #[.int .i64 a, .int .i64 b, v] w fun e w' => Lays w w' e a b l := by
  have hlm := hl
  unfold maxLen at hlm
  have HC := Lib.hid (check_any a b)
  unfold Lays
  have hv' := hv
  obtain ⟨A, cap, rfl, hc⟩ := hv'
  rcases lk_or a b l.length with ⟨h, h5, h0⟩ | h0 | ⟨h0, h⟩
  · rw [h0]
    have HK := Lib.hid h
    have d1 : decide ((500 : Int) < (l.length : Int)) = true := by simp; omega
    clear h h0
    go_enter Tryd.func12, Tryd.ntmps12
    go_wp2_with fail
    refine (HC.out _).mono ?_
    rintro e w1 ⟨rfl, rfl⟩
    rw [HK.out]
    go_wp2
    go_ret3
    exact ⟨Below.refl _ _, .inl ⟨by decide, rfl⟩⟩
  · obtain ⟨h, h5⟩ := lk_ok h0
    rw [h0]
    have HK := Lib.hid h
    obtain ⟨m, p, rfl, rfl, h1, h2, h3⟩ := ck_ok h
    simp only [Int.toNat_natCast]
    have d1 : decide ((500 : Int) < (l.length : Int)) = false := by simp; omega
    clear h h0
    obtain ⟨i0, hi, hz0, hz1, hz2⟩ := info_parts Tryd.info3
    obtain ⟨wm, hmk, hown0, hgr0⟩ := run_make_full (P := Tryd.prog) w w.heap.size 28 3 i0 _ 1 Tryd.underlying28 hi hz0 hz1 .i64 .i64 l.length (by rw [hz2]; omega) (by unfold maxLen; omega) (Nat.le_refl _)
    have hb0 : Below w.heap.size w wm := (Below.refl _ _).grown hgr0 (Nat.le_refl _) (by simp)
    rw [rep_ints] at hown0
    have hgl := (hown0.lt _ rfl).2
    go_enter Tryd.func12, Tryd.ntmps12
    go_wp2_with fail
    refine (HC.out _).mono ?_
    rintro e w1 ⟨rfl, rfl⟩
    rw [HK.out]
    go_wp2_with fail
    refine (laying_any _ _ _).mono ?_
    rintro e w1 ⟨rfl, rfl⟩
    have b1 : Below w.heap.size w (wm.alloc (.cells #[.int .i64 m] 3)) := hb0.alloc hb0.size _
    have b2 := b1.alloc (by have := hb0.size; simp; omega) (.cells #[.int .i64 p] 3)
    have ca1 := alloc_keep (heap_alloc_new wm (.cells #[.int .i64 m] 3)) (.cells #[.int .i64 p] 3)
    have ca2 := alloc_next wm (.cells #[.int .i64 m] 3) (.cells #[.int .i64 p] 3)
    have ow1 := (hown0.alloc (.cells #[.int .i64 m] 3)).alloc (.cells #[.int .i64 p] 3)
    have hme := hb0.size
    generalize hw1 : (wm.alloc (.cells #[.int .i64 m] 3)).alloc (.cells #[.int .i64 p] 3) = w1 at *
    generalize hB : wm.heap.size = B at *
    clear hw1 hmk hown0 hgr0 b1 hb0
    go_wp2
    go_loopw [11, 33] (fun c i wr => ∃ k : Nat, k ≤ l.length ∧ i = .int .i64 k ∧ c = .int .i64 (fin m p (l.take k) : Nat) ∧ wr.ownsRow w.heap.size 3 1 (.slice (some ⟨w.heap.size, 0, none⟩) l.length l.length) l.length (ints .i64 (lay m p (l.take k) ++ List.replicate (l.length - k) 0)) ∧
      wr.heap[B]? = some (.cells #[.int .i64 m] 3 (0, 0)) ∧ wr.heap[B + 1]? = some (.cells #[.int .i64 (fin m p (l.take k) : Nat)] 3 (0, 0)) ∧ Below w.heap.size w wr) (fun _ i _ => l.length - (intOf i).toNat)
    case atStart => exact ⟨0, Nat.zero_le _, rfl, rfl, by simpa [lay] using ow1, ca1, ca2, b2⟩
    case round =>
      obtain ⟨k, hk, rfl, rfl, hown, c1, c2, hw⟩ := hrel
      by_cases hlt : k < l.length
      · rcases hc with rfl | ⟨b, off, rfl, hc⟩
        · simp at hlt
        have hcell : wr.cell? ⟨b, off + k, none⟩ = some (.int .i32 (l.getD k 0)) := by
          rw [hw.cell (World.block_lt_of_cell? w _ (hc k hlt))]; exact hc k hlt
        have HC1 := Lib.hid c1
        have HB := Lib.hid (lt_of_block c2)
        have HOWN := Lib.hid hown
        have hfl := fin_le m p (l.take k) h1
        rw [List.length_take] at hfl
        have HT := Lib.hid (And.intro (fin_take (w := m) (a := p) hlt) (lay_take (w := m) (a := p) hlt))
        generalize hx : l.getD k 0 = x at hcell HT
        generalize hf : fin m p (l.take k) = f at *
        have HXX := Lib.hid hx
        have HFF := Lib.hid hf
        have HX := Lib.hid (lays_any x B (B + 1) m f wr (S.below hw) h1 h2 (by omega) c1 c2)
        clear c1 c2 hown ow1 ca1 ca2 hx hf hc
        go_wp2_with fail
        refine HX.out.mono ?_
        rintro e w2 ⟨rfl, hh⟩
        have hwB : B + 1 < wr.heap.size := by have := hh.2.size; have := lt_of_block hh.1; have := HB.out; omega
        have hown2 := own_other HOWN.out (hh.2.block _ (by omega) (by simp; omega))
        have hcB : w2.heap[B]? = some (.cells #[.int .i64 m] 3 (0, 0)) := (hh.2.block _ (by omega) (by simp)).trans HC1.out
        have hb2 := hw.trans (hh.below (B := w.heap.size) (by omega) hw.size)
        have hfz := hown2.frozenAt k
        have hkl : k < (ints .i64 (lay m p (l.take k) ++ List.replicate (l.length - k) 0)).length := by rw [hown2.1]; omega
        have hce := hown2.cellAt k (by omega)
        rw [List.getElem?_eq_getElem hkl] at hce
        have HO2 := Lib.hid hown2
        have HHH := Lib.hid hh.1
        have HCB := Lib.hid hcB
        clear hown2 hh hcB
        generalize (ints .i64 (lay m p (l.take k) ++ List.replicate (l.length - k) 0))[k] = old at hce
        go_wp2
        go_roundw
        case rel =>
          obtain ⟨hs1, hs2⟩ := HO2.out.stored k (.int .i64 (nx m f x : Nat))
          refine ⟨k + 1, by omega, by go_num, by rw [HT.out.1]; go_num, ?_, ?_, ?_, below_own hb2 hs2 HO2.out (Nat.le_refl _) hb2.size⟩
          · have hll : k = (lay m p (l.take k)).length := by rw [lay_len, List.length_take]; omega
            have e := rep_set (lay m p (l.take k)) (l.length - k) (nx m f x : Nat) (by omega)
            rw [← hll] at e
            rw [ints_set, e, ← HT.out.2] at hs1
            rw [show l.length - (k + 1) = l.length - k - 1 by omega]
            exact hs1
          · exact (hs2.block _ (by have := HO2.out.lt _ rfl; have := lt_of_block HCB.out; omega) (by simp; omega)).trans HCB.out
          · rw [HT.out.1]
            exact (hs2.block _ (by have := lt_of_block HHH.out; omega) (by simp; omega)).trans HHH.out
        case measure => simp [intOf]; omega
      · obtain rfl : k = l.length := by omega
        rw [List.take_length] at *
        clear hc
        rw [Nat.sub_self, List.replicate_zero, List.append_nil] at hown
        have HOWN := Lib.hid hown
        clear hown
        go_wp2
        go_ret3
        exact ⟨hw, .inr ⟨trivial, _, rfl, by simp, HOWN.out⟩⟩
  · rw [h0]
    have HK := Lib.hid (show ck a b ≠ 0 ∧ (ck a b != 0) = true from by rcases h with h | h <;> rw [h] <;> decide)
    have d1 := HK.out.2
    clear h h0
    go_enter Tryd.func12, Tryd.ntmps12
    go_wp2_with fail
    refine (HC.out _).mono ?_
    rintro e w1 ⟨rfl, rfl⟩
    go_wp2
    go_ret3
    exact ⟨Below.refl _ _, .inl ⟨HK.out.1, rfl⟩⟩
end Go.Proofs.YtjojbhlhfjaacaaDoor
