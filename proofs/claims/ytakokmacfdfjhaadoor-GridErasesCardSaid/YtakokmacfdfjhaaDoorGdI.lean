/- The contract of the reference's own: a grid's cells as a list of its own. -/
import Derived.Test.YtakokmacfdfjhaaDoorGdG
set_option linter.unusedVariables false
namespace Go.Proofs.YtakokmacfdfjhaaDoor
open Go.RowKit Gl L Wd Gd
set_option maxHeartbeats 2000000 in
theorem own_any (gw gh : Int) (v : Value) (L : List (Int × Int)) (w : World) (hv : Rw w v 2 L.length (flat L)) (hm : L.length ≤ 100000) (h0 : 0 < L.length) :
    Calls Tryd.prog 43 #[.agg #[.int .i64 gw, .int .i64 gh, v]] w fun e w' => (∃ v', e = .returned (.agg #[.int .i64 gw, .int .i64 gh, v']) ∧ Own w.heap.size w' v' L) ∧ Below w.heap.size w w' := by
  have hb0 : Below w.heap.size w ((w.alloc (.cells #[.int .i64 gw, .int .i64 gh, v] 24)).alloc (.cells #[.int .i64 0, .int .i64 0, .slice none 0 0] 24)) := ((Below.refl _ _).alloc (Nat.le_refl _) _).alloc (by simp) _
  obtain ⟨A, cap, rfl⟩ : ∃ A cap, v = .slice A L.length cap := ⟨_, _, hv.2.choose_spec.choose_spec.1⟩
  obtain ⟨i0, hi, hz0, hz1, hz2⟩ := info_parts Tryd.info30
  have hown0 : (((w.alloc (.cells #[.int .i64 gw, .int .i64 gh, .slice A L.length cap] 24)).alloc (.cells #[.int .i64 0, .int .i64 0, .slice none 0 0] 24)).alloc (.cells #[] 30)).ownsRow (w.heap.size + 1 + 1) 30 2 (.slice (some ⟨w.heap.size + 1 + 1, 0, none⟩) 0 0) 0 [] := by
    have := World.ownsRow_made (base := w.heap.size + 1 + 1) (e := 30) (size := 2) ((w.alloc (.cells #[.int .i64 gw, .int .i64 gh, .slice A L.length cap] 24)).alloc (.cells #[.int .i64 0, .int .i64 0, .slice none 0 0] 24)) #[] 0 (by simp) (by decide) (by simp)
    simpa using this
  have hb1 := hb0.alloc hb0.size (.cells #[] 30)
  have hrw1 := hv.below hb1
  go_enter Tryd.func43, Tryd.ntmps43
  go_wp2_with (at_builtin; refine wpList_append_rw rfl (.tmp 5) (.tmp 7) 22 rfl _ 30 i0 _ 2 16 Tryd.underlying22 hi hz0 hz1 hz2 rfl (by decide) _ _ _ rfl hown0 _ _ _ rfl hrw1 (flat_one _) ?c2 ?c3 ?c4 ?_)
  case c2 => unfold maxLen; omega
  case c3 => omega
  case c4 => simp
  intro v' w2 hown' hgr hne'

  have hbW : Below (w.heap.size + 1 + 1) ((w.alloc (.cells #[.int .i64 gw, .int .i64 gh, .slice A L.length cap] 24)).alloc (.cells #[.int .i64 0, .int .i64 0, .slice none 0 0] 24)) w2 := Below.of_grown ((Below.refl _ _).alloc (by simp) (.cells #[] 30)) hown0 hgr (by simp) (Nat.le_refl _)
  have HB := Lib.hid (hb0.trans (hbW.mono (by omega)))
  have hc1 := old_cell (hbW.mono (by simp))
  have hf1 := old_frozen (hbW.mono (by simp))
  have hz1 := hbW.size
  obtain ⟨g, cap', rfl, hcap⟩ := Rw.form_ne hown' hne'
  have HO := Lib.hid hown'
  clear hown' hown0 hgr hne' hrw1 hbW hb0 hb1
  go_wp2
  refine bodyPost_ret (v := .agg #[.int .i64 gw, .int .i64 gh, .slice (some ⟨g, 0, none⟩) L.length cap']) (by simp [results, Tryd.results43, go_sem, hc1]) rfl ⟨⟨_, rfl, ?_⟩, ?_⟩
  · exact ((((Own.sh rfl hcap HO.out).set1 _ _ _ (by simp)).set1 _ _ _ (by simp)).set1 _ _ _ (by simp)).mono (by omega)
  · exact (((HB.out).setCell (by simp) _).setCell (by simp) _).setCell (by simp) _
end Go.Proofs.YtakokmacfdfjhaaDoor
