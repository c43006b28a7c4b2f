/- The contract of the reference's mend. -/
import Derived.Test.YtakokmacfdfjhaaDoorGdI
import Derived.Test.YtakokmacfdfjhaaDoorGdH
set_option linter.unusedVariables false
namespace Go.Proofs.YtakokmacfdfjhaaDoor
open Go.RowKit Gl L Wd Gd
namespace Gd
def mendK (W : Nat) (M : List (Int × Int)) (k : Nat) : List (Int × Int) := (List.range M.length).map fun i => if i < k ∧ lost W M i then bl else M.getD i (0, 0)
theorem mendK_len (W : Nat) (M : List (Int × Int)) (k : Nat) : (mendK W M k).length = M.length := by simp [mendK]
theorem mendK_at (W : Nat) (M : List (Int × Int)) (k i : Nat) (h : i < M.length) : (mendK W M k).getD i (0, 0) = if i < k ∧ lost W M i then bl else M.getD i (0, 0) := by
  unfold mendK; rw [map_getD, if_pos h]
theorem mendK_0 (W : Nat) (M : List (Int × Int)) : mendK W M 0 = M := by
  apply ext_getD (mendK_len ..)
  intro i hi
  rw [mendK_len] at hi
  rw [mendK_at _ _ _ _ hi, if_neg (by omega)]
theorem mendK_all (W : Nat) (M : List (Int × Int)) : mendK W M M.length = mend W M := by
  apply ext_getD (by rw [mendK_len, mend_len])
  intro i hi
  rw [mendK_len] at hi
  rw [mendK_at _ _ _ _ hi, mend_at _ _ _ hi]
  simp [hi]
theorem mendK_yes {W : Nat} {M : List (Int × Int)} {k : Nat} (hk : k < M.length) (h : lost W M k) : mendK W M (k + 1) = (mendK W M k).set k bl := by
  apply ext_getD (by rw [List.length_set, mendK_len, mendK_len])
  intro i hi
  rw [mendK_len] at hi
  rw [set_getD _ _ _ _ (by rw [mendK_len]; exact hk), mendK_at _ _ _ _ hi, mendK_at _ _ _ _ hi]
  by_cases e : i = k
  · subst e; rw [if_pos rfl, if_pos ⟨by omega, h⟩]
  · rw [if_neg e]
    by_cases h2 : i < k ∧ lost W M i
    · rw [if_pos h2, if_pos ⟨by omega, h2.2⟩]
    · rw [if_neg h2, if_neg (fun h3 => h2 ⟨by omega, h3.2⟩)]
theorem mendK_no {W : Nat} {M : List (Int × Int)} {k : Nat} (h : ¬ lost W M k) : mendK W M (k + 1) = mendK W M k := by
  apply ext_getD (by rw [mendK_len, mendK_len])
  intro i hi
  rw [mendK_len] at hi
  rw [mendK_at _ _ _ _ hi, mendK_at _ _ _ _ hi]
  by_cases h2 : i < k ∧ lost W M i
  · rw [if_pos h2, if_pos ⟨by omega, h2.2⟩]
  · rw [if_neg h2, if_neg]
    rintro ⟨h3, h4⟩
    have : i ≠ k := fun e => h (e ▸ h4)
    exact h2 ⟨by omega, h4⟩
end Gd
set_option maxHeartbeats 4000000 in
theorem mend_any (W H : Nat) (v : Value) (L : List (Int × Int)) (w : World) (hv : Rw w v 2 L.length (flat L)) (w2 : 2 ≤ W) (w80 : W ≤ 80) (h1 : 1 ≤ H) (h24 : H ≤ 24) (hlen : L.length = W * H) :
    Calls Tryd.prog 44 #[.agg #[.int .i64 W, .int .i64 H, v]] w fun e w' => (∃ v', e = .returned (.agg #[.int .i64 W, .int .i64 H, v']) ∧ Own w.heap.size w' v' (mend W L)) ∧ Below w.heap.size w w' := by
  have hm : L.length ≤ 1920 := by rw [hlen]; exact Nat.mul_le_mul w80 h24
  have h0 : 0 < L.length := by rw [hlen]; exact Nat.mul_pos (by omega) (by omega)
  have hb0 : Below w.heap.size w ((w.alloc (.cells #[.int .i64 W, .int .i64 H, v] 24)).alloc (.cells #[.int .i64 0, .int .i64 0, .slice none 0 0] 24)) := ((Below.refl _ _).alloc (Nat.le_refl _) _).alloc (by simp) _
  obtain ⟨A, cap, rfl⟩ : ∃ A cap, v = .slice A L.length cap := ⟨_, _, hv.2.choose_spec.choose_spec.1⟩
  have HLEN := Lib.hid hlen
  clear hlen
  go_enter Tryd.func44, Tryd.ntmps44
  go_wp2_with fail
  refine (own_any W H _ L _ (hv.below hb0) (by omega) h0).mono ?_
  rintro e w1 ⟨⟨v', rfl, hown⟩, hb1⟩
  obtain ⟨g, cap', rfl, hcap, hrow⟩ := hown
  have hgl := hrow.lt g rfl
  have hg0 : w.heap.size + 1 + 1 ≤ g := by simpa using hgl.1
  have hrow0 : w1.ownsRow (w.heap.size + 1 + 1) 30 2 (.slice (some ⟨g, 0, none⟩) L.length cap') L.length (flat (mendK W L 0)) := by
    rw [mendK_0]; simpa using hrow
  have hb2 : Below (w.heap.size + 1 + 1) ((w.alloc (.cells #[.int .i64 W, .int .i64 H, .slice A L.length cap] 24)).alloc (.cells #[.int .i64 0, .int .i64 0, .slice none 0 0] 24)) w1 := hb1.mono (by simp)
  have HB1 := Lib.hid hb1
  clear hb1 hrow
  go_wp2
  go_loopw [4] (fun i wr => ∃ k : Nat, k ≤ L.length ∧ i = .int .i64 k ∧ wr.ownsRow (w.heap.size + 1 + 1) 30 2 (.slice (some ⟨g, 0, none⟩) L.length cap') L.length (flat (mendK W L k)) ∧ wr.heap[w1.heap.size]? = some (.cells #[.int .i64 W, .int .i64 H, .slice (some ⟨g, 0, none⟩) L.length cap'] 24 (0, 0)) ∧ Below (w.heap.size + 1 + 1) ((w.alloc (.cells #[.int .i64 W, .int .i64 H, .slice A L.length cap] 24)).alloc (.cells #[.int .i64 0, .int .i64 0, .slice none 0 0] 24)) wr) (fun i _ => L.length - (intOf i).toNat)
  case atStart => exact ⟨0, Nat.zero_le _, rfl, hrow0.alloc _, heap_alloc_new w1 _, hb2.alloc (by omega) _⟩
  case round =>
    obtain ⟨k, hk, rfl, hown, hg, hw⟩ := hrel
    obtain ⟨b1, b2, b3, f1, f2, f3, hsz⟩ := blk3 hg
    have hww : Below w.heap.size w wr := hb0.trans (hw.mono (by omega))
    have hc1 := old_cell (hw.mono (by simp))
    have hf1 := old_frozen (hw.mono (by simp))
    by_cases hlt : k < L.length
    · have HO := Lib.hid hown
      have HG := Lib.hid hg
      clear hown hg
      go_wp2_with fail
      refine (lost_any W H _ L k _ (hv.below hww) w2 w80 h24 HLEN.out hlt).mono ?_
      rintro e w2 ⟨rfl, hb3⟩
      have hg2 := (hb3.block _ hsz).trans HG.out
      have hn2 := ownsRow_below HO.out hb3
      have hw2 := hw.trans (hb3.mono (by have := hw.size; simp at this; omega))
      have hz3 := hb3.size
      by_cases hlo : lost W L k
      · have HS := Lib.hid (ownsRow_set2 hn2 (k * 2) (.int .i32 32) (.int .i64 0))
        obtain ⟨x, y, hxy, c1, c2, e1, e2⟩ := own_cells hn2 k hlt
        obtain ⟨b1', b2', b3', f1', f2', f3', hsz'⟩ := blk3 hg2
        have HM := Lib.hid (mendK_yes hlt hlo)
        rw [decide_eq_true hlo]
        have H1 := Lib.hid hg2
        have H2 := Lib.hid hw2
        have H3 := Lib.hid hn2
        clear hg2 hw2 hn2 hxy hlo b1 b2 b3 f1 f2 f3 hw hc1 hf1 hrow0 hb2
        go_wp2
        go_roundw
        case rel =>
          obtain ⟨o1, g1⟩ := HS.out
          refine ⟨k + 1, by omega, by go_num, ?_, (g1.block _ hsz' (by simp; omega)).trans H1.out, below_own H2.out g1 H3.out (Nat.le_refl _) (by have := H2.out.size; simp at this; omega)⟩
          rw [HM.out, show bl = (32, 0) from rfl, flat_set]
          exact o1
        case measure => simp [intOf]; omega
      · have HM := Lib.hid (mendK_no hlo)
        rw [decide_eq_false hlo]
        have H1 := Lib.hid hg2
        have H2 := Lib.hid hw2
        have H3 := Lib.hid hn2
        clear hg2 hw2 hn2 hlo b1 b2 b3 f1 f2 f3 hw hc1 hf1 hrow0 hb2
        go_wp2
        go_roundw
        case rel => exact ⟨k + 1, by omega, by go_num, by rw [HM.out]; exact H3.out, H1.out, H2.out⟩
        case measure => simp [intOf]; omega
    · obtain rfl : k = L.length := by omega
      rw [mendK_all] at hown
      have HO := Lib.hid hown
      clear hown hg hrow0 hb2
      go_wp2
      refine bodyPost_ret (v := .agg #[.int .i64 W, .int .i64 H, .slice (some ⟨g, 0, none⟩) L.length cap']) (by simp [results, Tryd.results44, go_sem, hc1]) rfl ⟨⟨_, rfl, ?_⟩, ?_⟩
      · exact ((((Own.sh (mend_len ..) hcap HO.out).set1 _ _ _ (by simp)).set1 _ _ _ (by simp)).set1 _ _ _ (by simp)).mono (by omega)
      · exact (((hww.setCell (by simp) _).setCell (by simp) _).setCell (by simp) _)
end Go.Proofs.YtakokmacfdfjhaaDoor
