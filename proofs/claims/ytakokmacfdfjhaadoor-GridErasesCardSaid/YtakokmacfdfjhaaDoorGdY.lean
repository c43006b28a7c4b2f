/- The statements' example holds. -/
import Derived.Test.YtakokmacfdfjhaaDoorGdX
import Derived.Test.YtakokmacfdfjhaaDoorGdM
import Derived.Test.YtakokmacfdfjhaaDoorGdN
import Derived.Test.YtakokmacfdfjhaaDoorGdH
set_option linter.unusedVariables false
namespace Go.Proofs.YtakokmacfdfjhaaDoor
open Go.RowKit Gl L Wd Gd
namespace Gd
def l0 : List (Int × Int) := [(32, 0), (32, 0), (32, 0), (32, 0), (32, 0), (32, 0)]
def la : List (Int × Int) := [(32, 0), (20013, 1), (20013, 2), (32, 0), (32, 0), (32, 0)]
def lb : List (Int × Int) := [(32, 0), (32, 0), (97, 0), (32, 0), (32, 0), (32, 0)]
def lt : List (Int × Int) := [(32, 0), (32, 0)]
theorem ex_lists : newL 3 2 = l0 ∧ putL 3 l0 1 0 20013 = la ∧ putL 3 la 2 0 97 = lb ∧ blankL 3 la 0 2 = l0 ∧ scrollL 3 lb = l0 ∧ fitV 3 2 la 2 1 = lt := by decide +kernel
theorem ex_conds : sidesB 3 2 = true ∧ putB 3 2 l0 1 0 20013 = true ∧ putB 3 2 la 2 0 97 = true ∧ putB 3 2 l0 2 0 20013 = false ∧ atV 3 2 la 2 0 = (20013, 2) ∧ atE 3 2 la 2 0 = 0 ∧ blankB 3 2 la 0 2 = true ∧ fitB 3 2 la 2 1 = true ∧ sidesB 1 1 = false := by decide +kernel
theorem ex_right : right 3 2 lb ∧ right 3 2 la ∧ ¬ right 0 0 [] := by decide +kernel
end Gd
theorem carry {w w' : World} (h : Below w.heap.size w w') {b : Nat} {x : Obj} (hg : w.heap[b]? = some x) : w'.heap[b]? = some x := (h.block b (Array.getElem?_eq_some_iff.1 hg).1).trans hg
theorem carryA {w : World} (o : Obj) {b : Nat} {x : Obj} (hg : w.heap[b]? = some x) : (w.alloc o).heap[b]? = some x := carry ((Below.refl _ _).alloc (Nat.le_refl _) o) hg
theorem GridOK.op {B : Nat} {w' : World} {e : Ending} {gw gh : Int} {l : List (Int × Int)} (h : GridOK B w' e gw gh l) {n : Nat} (hn : l.length = n) : ∃ g cap, e = .returned (.tuple #[.agg #[.int .i64 gw, .int .i64 gh, .slice (some ⟨g, 0, none⟩) n cap], .int .i64 0]) ∧ n ≤ cap ∧ Rw w' (.slice (some ⟨g, 0, none⟩) n cap) 2 l.length (flat l) := by
  obtain ⟨v, rfl, ho⟩ := h
  obtain ⟨g, cap, rfl, hc, hr⟩ := ho.op hn
  exact ⟨g, cap, rfl, hc, by rw [hn]; exact Rw.of_owns hr⟩
theorem capped_slice {A : Option Addr} {n cap : Nat} (h : n ≤ cap) : Capped (.slice A n cap) := fun A' n' c' he => by
  injection he with h1 h2 h3
  omega
theorem lit_lb (w : World) : Rw (w.alloc (.cells #[.int .i32 32, .int .i64 0, .int .i32 32, .int .i64 0, .int .i32 97, .int .i64 0, .int .i32 32, .int .i64 0, .int .i32 32, .int .i64 0, .int .i32 32, .int .i64 0] 30)) (.slice (some ⟨w.heap.size, 0, none⟩) 6 6) 2 lb.length (flat lb) :=
  Rw.lit w #[.int .i32 32, .int .i64 0, .int .i32 32, .int .i64 0, .int .i32 97, .int .i64 0, .int .i32 32, .int .i64 0, .int .i32 32, .int .i64 0, .int .i32 32, .int .i64 0] 30 2 6 6 (by simp)
theorem lit_lt (w : World) : Rw (w.alloc (.cells #[.int .i32 32, .int .i64 0, .int .i32 32, .int .i64 0] 30)) (.slice (some ⟨w.heap.size, 0, none⟩) 2 2) 2 lt.length (flat lt) :=
  Rw.lit w #[.int .i32 32, .int .i64 0, .int .i32 32, .int .i64 0] 30 2 2 2 (by simp)
theorem one_size (w : World) (a : Obj) : (w.alloc a).heap.size = w.heap.size + 1 := by simp
theorem two_size (w : World) (a b : Obj) : ((w.alloc a).alloc b).heap.size = w.heap.size + 1 + 1 := by simp
set_option maxRecDepth 100000 in
set_option maxHeartbeats 16000000 in
theorem gridded_any (w : World) (S : Spans w 1) (T : Blk w 0) : Calls Tryd.prog 15 #[] w fun e w' => e = .returned (.bool true) ∧ Below w.heap.size w w' := by
  have HL := Lib.hid ex_lists
  have HC := Lib.hid ex_conds
  have HR := Lib.hid ex_right
  have HW := Lib.hid (Below.refl w.heap.size w)
  go_enter Tryd.func15, Tryd.ntmps15
  simp only [List.append]
  go_wp2_with fail
  refine (new_any 3 2 _ (T.below HW.out)).mono ?_
  rintro e w1 ⟨h1, hb1⟩
  obtain ⟨g1, cap1, rfl, hcap1, hr1⟩ := (h1.is HC.out.1).op (n := 6) (by rw [HL.out.1]; rfl)
  rw [HL.out.1] at hr1
  have HW := Lib.hid (HW.out.trans (hb1.mono HW.out.size))
  have Rg := Lib.hid hr1
  clear hr1 hb1
  have Rg := Lib.hid (Rg.out.alloc (.cells #[.int .i64 3, .int .i64 2, .slice (some ⟨g1, 0, none⟩) 6 cap1] 24))
  have HW := Lib.hid (HW.out.alloc HW.out.size (.cells #[.int .i64 3, .int .i64 2, .slice (some ⟨g1, 0, none⟩) 6 cap1] 24))
  have Gg := Lib.hid (heap_alloc_new w1 (.cells #[.int .i64 3, .int .i64 2, .slice (some ⟨g1, 0, none⟩) 6 cap1] 24))
  go_wp2_with fail
  refine (put_any 3 2 1 0 20013 _ l0 _ Rg.out (by decide) (S.below HW.out) (T.below HW.out)).mono ?_
  rintro e w2 ⟨h2, hb2⟩
  obtain ⟨g2, cap2, rfl, hcap2, hr2⟩ := (h2.is HC.out.2.1).op (n := 6) (by rw [HL.out.2.1]; rfl)
  rw [HL.out.2.1] at hr2
  have Rg := Lib.hid (Rg.out.below hb2)
  have Gg := Lib.hid (carry hb2 Gg.out)
  have HW := Lib.hid (HW.out.trans (hb2.mono HW.out.size))
  have Ra := Lib.hid hr2
  clear hr2 hb2
  have Rg := Lib.hid (Rg.out.alloc (.cells #[.int .i64 3, .int .i64 2, .slice (some ⟨g2, 0, none⟩) 6 cap2] 24))
  have Gg := Lib.hid (carryA (.cells #[.int .i64 3, .int .i64 2, .slice (some ⟨g2, 0, none⟩) 6 cap2] 24) Gg.out)
  have Ra := Lib.hid (Ra.out.alloc (.cells #[.int .i64 3, .int .i64 2, .slice (some ⟨g2, 0, none⟩) 6 cap2] 24))
  have HW := Lib.hid (HW.out.alloc HW.out.size (.cells #[.int .i64 3, .int .i64 2, .slice (some ⟨g2, 0, none⟩) 6 cap2] 24))
  have Ga := Lib.hid (heap_alloc_new w2 (.cells #[.int .i64 3, .int .i64 2, .slice (some ⟨g2, 0, none⟩) 6 cap2] 24))
  go_wp2_with fail
  refine (put_any 3 2 2 0 97 _ la _ Ra.out (by decide) (S.below HW.out) (T.below HW.out)).mono ?_
  rintro e w3 ⟨h3, hb3⟩
  obtain ⟨g3, cap3, rfl, hcap3, hr3⟩ := (h3.is HC.out.2.2.1).op (n := 6) (by rw [HL.out.2.2.1]; rfl)
  rw [HL.out.2.2.1] at hr3
  have Rg := Lib.hid (Rg.out.below hb3)
  have Gg := Lib.hid (carry hb3 Gg.out)
  have Ra := Lib.hid (Ra.out.below hb3)
  have Ga := Lib.hid (carry hb3 Ga.out)
  have HW := Lib.hid (HW.out.trans (hb3.mono HW.out.size))
  obtain ⟨Gga, Ggb, Ggc, Ggd, Gge, Ggf, Ggl⟩ := blk3 Gg.out
  have Rb := Lib.hid hr3
  clear hr3 hb3
  have Rg := Lib.hid (Rg.out.alloc (.cells #[.int .i64 3, .int .i64 2, .slice (some ⟨g3, 0, none⟩) 6 cap3] 24))
  have Gg := Lib.hid (carryA (.cells #[.int .i64 3, .int .i64 2, .slice (some ⟨g3, 0, none⟩) 6 cap3] 24) Gg.out)
  have Ra := Lib.hid (Ra.out.alloc (.cells #[.int .i64 3, .int .i64 2, .slice (some ⟨g3, 0, none⟩) 6 cap3] 24))
  have Ga := Lib.hid (carryA (.cells #[.int .i64 3, .int .i64 2, .slice (some ⟨g3, 0, none⟩) 6 cap3] 24) Ga.out)
  have Rb := Lib.hid (Rb.out.alloc (.cells #[.int .i64 3, .int .i64 2, .slice (some ⟨g3, 0, none⟩) 6 cap3] 24))
  have HW := Lib.hid (HW.out.alloc HW.out.size (.cells #[.int .i64 3, .int .i64 2, .slice (some ⟨g3, 0, none⟩) 6 cap3] 24))
  have Gb := Lib.hid (heap_alloc_new w3 (.cells #[.int .i64 3, .int .i64 2, .slice (some ⟨g3, 0, none⟩) 6 cap3] 24))
  go_wp2_with fail
  clear Gga Ggb Ggc Ggd Gge Ggf Ggl
  refine (put_any 3 2 2 0 20013 _ l0 _ Rg.out (by decide) (S.below HW.out) (T.below HW.out)).mono ?_
  rintro e w4 ⟨h4, hb4⟩
  obtain rfl := h4.isnt HC.out.2.2.2.1
  have Rg := Lib.hid (Rg.out.below hb4)
  have Gg := Lib.hid (carry hb4 Gg.out)
  have Ra := Lib.hid (Ra.out.below hb4)
  have Ga := Lib.hid (carry hb4 Ga.out)
  have Rb := Lib.hid (Rb.out.below hb4)
  have Gb := Lib.hid (carry hb4 Gb.out)
  have HW := Lib.hid (HW.out.trans (hb4.mono HW.out.size))
  obtain ⟨Gaa, Gab, Gac, Gad, Gae, Gaf, Gal⟩ := blk3 Ga.out
  clear hb4
  have Rg := Lib.hid (Rg.out.alloc (.cells #[.int .i64 0, .int .i64 0, .slice none 0 0] 24))
  have Gg := Lib.hid (carryA (.cells #[.int .i64 0, .int .i64 0, .slice none 0 0] 24) Gg.out)
  have Ra := Lib.hid (Ra.out.alloc (.cells #[.int .i64 0, .int .i64 0, .slice none 0 0] 24))
  have Ga := Lib.hid (carryA (.cells #[.int .i64 0, .int .i64 0, .slice none 0 0] 24) Ga.out)
  have Rb := Lib.hid (Rb.out.alloc (.cells #[.int .i64 0, .int .i64 0, .slice none 0 0] 24))
  have Gb := Lib.hid (carryA (.cells #[.int .i64 0, .int .i64 0, .slice none 0 0] 24) Gb.out)
  have HW := Lib.hid (HW.out.alloc HW.out.size (.cells #[.int .i64 0, .int .i64 0, .slice none 0 0] 24))
  go_wp2_with fail
  clear Gaa Gab Gac Gad Gae Gaf Gal
  refine (at_any 3 2 2 0 _ la _ Ra.out (by decide) (S.below HW.out)).mono ?_
  rintro e w5 ⟨⟨r5, k5, h5, rfl⟩, hb5⟩
  rw [HC.out.2.2.2.2.1] at h5
  obtain ⟨rfl, rfl⟩ := Prod.mk.inj h5
  rw [HC.out.2.2.2.2.2.1]
  have Rg := Lib.hid (Rg.out.below hb5)
  have Gg := Lib.hid (carry hb5 Gg.out)
  have Ra := Lib.hid (Ra.out.below hb5)
  have Ga := Lib.hid (carry hb5 Ga.out)
  have Rb := Lib.hid (Rb.out.below hb5)
  have Gb := Lib.hid (carry hb5 Gb.out)
  have HW := Lib.hid (HW.out.trans (hb5.mono HW.out.size))
  obtain ⟨Gaa, Gab, Gac, Gad, Gae, Gaf, Gal⟩ := blk3 Ga.out
  clear hb5 h5
  have Rg := Lib.hid (Rg.out.alloc (.cells #[.int .i32 20013, .int .i64 2] 30))
  have Gg := Lib.hid (carryA (.cells #[.int .i32 20013, .int .i64 2] 30) Gg.out)
  have Ra := Lib.hid (Ra.out.alloc (.cells #[.int .i32 20013, .int .i64 2] 30))
  have Ga := Lib.hid (carryA (.cells #[.int .i32 20013, .int .i64 2] 30) Ga.out)
  have Rb := Lib.hid (Rb.out.alloc (.cells #[.int .i32 20013, .int .i64 2] 30))
  have Gb := Lib.hid (carryA (.cells #[.int .i32 20013, .int .i64 2] 30) Gb.out)
  have HW := Lib.hid (HW.out.alloc HW.out.size (.cells #[.int .i32 20013, .int .i64 2] 30))
  have Gc := Lib.hid (heap_alloc_new w5 (.cells #[.int .i32 20013, .int .i64 2] 30))
  go_wp2_with fail
  clear Gaa Gab Gac Gad Gae Gaf Gal
  refine (blank_any 3 2 0 2 _ la _ Ra.out (by decide) (S.below HW.out) (T.below HW.out)).mono ?_
  rintro e w6 ⟨h6, hb6⟩
  obtain ⟨g6, cap6, rfl, hcap6, hr6⟩ := (h6.is HC.out.2.2.2.2.2.2.1).op (n := 6) (by rw [HL.out.2.2.2.1]; rfl)
  rw [HL.out.2.2.2.1] at hr6
  have Rg := Lib.hid (Rg.out.below hb6)
  have Gg := Lib.hid (carry hb6 Gg.out)
  have Ra := Lib.hid (Ra.out.below hb6)
  have Ga := Lib.hid (carry hb6 Ga.out)
  have Rb := Lib.hid (Rb.out.below hb6)
  have Gb := Lib.hid (carry hb6 Gb.out)
  have Gc := Lib.hid (carry hb6 Gc.out)
  have HW := Lib.hid (HW.out.trans (hb6.mono HW.out.size))
  obtain ⟨Gba, Gbb, Gbc, Gbd, Gbe, Gbf, Gbl⟩ := blk3 Gb.out
  have Rd := Lib.hid hr6
  clear hr6 hb6
  have Rg := Lib.hid (Rg.out.alloc (.cells #[.int .i64 3, .int .i64 2, .slice (some ⟨g6, 0, none⟩) 6 cap6] 24))
  have Gg := Lib.hid (carryA (.cells #[.int .i64 3, .int .i64 2, .slice (some ⟨g6, 0, none⟩) 6 cap6] 24) Gg.out)
  have Ra := Lib.hid (Ra.out.alloc (.cells #[.int .i64 3, .int .i64 2, .slice (some ⟨g6, 0, none⟩) 6 cap6] 24))
  have Ga := Lib.hid (carryA (.cells #[.int .i64 3, .int .i64 2, .slice (some ⟨g6, 0, none⟩) 6 cap6] 24) Ga.out)
  have Rb := Lib.hid (Rb.out.alloc (.cells #[.int .i64 3, .int .i64 2, .slice (some ⟨g6, 0, none⟩) 6 cap6] 24))
  have Gb := Lib.hid (carryA (.cells #[.int .i64 3, .int .i64 2, .slice (some ⟨g6, 0, none⟩) 6 cap6] 24) Gb.out)
  have Gc := Lib.hid (carryA (.cells #[.int .i64 3, .int .i64 2, .slice (some ⟨g6, 0, none⟩) 6 cap6] 24) Gc.out)
  have Rd := Lib.hid (Rd.out.alloc (.cells #[.int .i64 3, .int .i64 2, .slice (some ⟨g6, 0, none⟩) 6 cap6] 24))
  have HW := Lib.hid (HW.out.alloc HW.out.size (.cells #[.int .i64 3, .int .i64 2, .slice (some ⟨g6, 0, none⟩) 6 cap6] 24))
  have Gd := Lib.hid (heap_alloc_new w6 (.cells #[.int .i64 3, .int .i64 2, .slice (some ⟨g6, 0, none⟩) 6 cap6] 24))
  go_wp2_with fail
  clear Gba Gbb Gbc Gbd Gbe Gbf Gbl
  refine (scroll_any 3 2 _ lb _ Rb.out (capped_slice hcap3) (by decide) (S.below HW.out) (T.below HW.out)).mono ?_
  rintro e w7 ⟨h7, hb7⟩
  unfold ScrollTold at h7
  rw [if_pos HR.out.1] at h7
  obtain ⟨v7, rfl, ho7⟩ := h7
  obtain ⟨g7, cap7, rfl, hcap7, hr7⟩ := ho7.op (n := 6) (by show (scrollL 3 lb).length = 6; rw [HL.out.2.2.2.2.1]; rfl)
  have Rs := Lib.hid (show Rw w7 (.slice (some ⟨g7, 0, none⟩) 6 cap7) 2 l0.length (flat l0) by
    have h : Rw w7 (.slice (some ⟨g7, 0, none⟩) 6 cap7) 2 6 (flat (scrollL 3 lb)) := Rw.of_owns hr7
    rw [HL.out.2.2.2.2.1] at h; exact h)
  have Rg := Lib.hid (Rg.out.below hb7)
  have Gg := Lib.hid (carry hb7 Gg.out)
  have Ra := Lib.hid (Ra.out.below hb7)
  have Ga := Lib.hid (carry hb7 Ga.out)
  have Rb := Lib.hid (Rb.out.below hb7)
  have Gb := Lib.hid (carry hb7 Gb.out)
  have Gc := Lib.hid (carry hb7 Gc.out)
  have Rd := Lib.hid (Rd.out.below hb7)
  have Gd := Lib.hid (carry hb7 Gd.out)
  have HW := Lib.hid (HW.out.trans (hb7.mono HW.out.size))
  obtain ⟨Gaa, Gab, Gac, Gad, Gae, Gaf, Gal⟩ := blk3 Ga.out
  clear hb7 hr7 ho7
  have Rg := Lib.hid (Rg.out.alloc (.cells #[.int .i64 3, .int .i64 2, .slice (some ⟨g7, 0, none⟩) 6 cap7] 24))
  have Gg := Lib.hid (carryA (.cells #[.int .i64 3, .int .i64 2, .slice (some ⟨g7, 0, none⟩) 6 cap7] 24) Gg.out)
  have Ra := Lib.hid (Ra.out.alloc (.cells #[.int .i64 3, .int .i64 2, .slice (some ⟨g7, 0, none⟩) 6 cap7] 24))
  have Ga := Lib.hid (carryA (.cells #[.int .i64 3, .int .i64 2, .slice (some ⟨g7, 0, none⟩) 6 cap7] 24) Ga.out)
  have Rb := Lib.hid (Rb.out.alloc (.cells #[.int .i64 3, .int .i64 2, .slice (some ⟨g7, 0, none⟩) 6 cap7] 24))
  have Gb := Lib.hid (carryA (.cells #[.int .i64 3, .int .i64 2, .slice (some ⟨g7, 0, none⟩) 6 cap7] 24) Gb.out)
  have Gc := Lib.hid (carryA (.cells #[.int .i64 3, .int .i64 2, .slice (some ⟨g7, 0, none⟩) 6 cap7] 24) Gc.out)
  have Rd := Lib.hid (Rd.out.alloc (.cells #[.int .i64 3, .int .i64 2, .slice (some ⟨g7, 0, none⟩) 6 cap7] 24))
  have Gd := Lib.hid (carryA (.cells #[.int .i64 3, .int .i64 2, .slice (some ⟨g7, 0, none⟩) 6 cap7] 24) Gd.out)
  have Rs := Lib.hid (Rs.out.alloc (.cells #[.int .i64 3, .int .i64 2, .slice (some ⟨g7, 0, none⟩) 6 cap7] 24))
  have HW := Lib.hid (HW.out.alloc HW.out.size (.cells #[.int .i64 3, .int .i64 2, .slice (some ⟨g7, 0, none⟩) 6 cap7] 24))
  have Gs := Lib.hid (heap_alloc_new w7 (.cells #[.int .i64 3, .int .i64 2, .slice (some ⟨g7, 0, none⟩) 6 cap7] 24))
  go_wp2_with fail
  clear Gaa Gab Gac Gad Gae Gaf Gal
  refine (fit_any 3 2 2 1 _ la _ Ra.out (capped_slice hcap2) (by decide) (S.below HW.out) (T.below HW.out)).mono ?_
  rintro e w8 ⟨h8, hb8⟩
  obtain ⟨g8, cap8, rfl, hcap8, hr8⟩ := (h8.is HC.out.2.2.2.2.2.2.2.1).op (n := 2) (by rw [HL.out.2.2.2.2.2]; rfl)
  rw [HL.out.2.2.2.2.2] at hr8
  have Rg := Lib.hid (Rg.out.below hb8)
  have Gg := Lib.hid (carry hb8 Gg.out)
  have Ra := Lib.hid (Ra.out.below hb8)
  have Ga := Lib.hid (carry hb8 Ga.out)
  have Rb := Lib.hid (Rb.out.below hb8)
  have Gb := Lib.hid (carry hb8 Gb.out)
  have Gc := Lib.hid (carry hb8 Gc.out)
  have Rd := Lib.hid (Rd.out.below hb8)
  have Gd := Lib.hid (carry hb8 Gd.out)
  have Rs := Lib.hid (Rs.out.below hb8)
  have Gs := Lib.hid (carry hb8 Gs.out)
  have HW := Lib.hid (HW.out.trans (hb8.mono HW.out.size))
  have Rt := Lib.hid hr8
  clear hr8 hb8
  have Rg := Lib.hid (Rg.out.alloc (.cells #[.int .i64 2, .int .i64 1, .slice (some ⟨g8, 0, none⟩) 2 cap8] 24))
  have Gg := Lib.hid (carryA (.cells #[.int .i64 2, .int .i64 1, .slice (some ⟨g8, 0, none⟩) 2 cap8] 24) Gg.out)
  have Ra := Lib.hid (Ra.out.alloc (.cells #[.int .i64 2, .int .i64 1, .slice (some ⟨g8, 0, none⟩) 2 cap8] 24))
  have Ga := Lib.hid (carryA (.cells #[.int .i64 2, .int .i64 1, .slice (some ⟨g8, 0, none⟩) 2 cap8] 24) Ga.out)
  have Rb := Lib.hid (Rb.out.alloc (.cells #[.int .i64 2, .int .i64 1, .slice (some ⟨g8, 0, none⟩) 2 cap8] 24))
  have Gb := Lib.hid (carryA (.cells #[.int .i64 2, .int .i64 1, .slice (some ⟨g8, 0, none⟩) 2 cap8] 24) Gb.out)
  have Gc := Lib.hid (carryA (.cells #[.int .i64 2, .int .i64 1, .slice (some ⟨g8, 0, none⟩) 2 cap8] 24) Gc.out)
  have Rd := Lib.hid (Rd.out.alloc (.cells #[.int .i64 2, .int .i64 1, .slice (some ⟨g8, 0, none⟩) 2 cap8] 24))
  have Gd := Lib.hid (carryA (.cells #[.int .i64 2, .int .i64 1, .slice (some ⟨g8, 0, none⟩) 2 cap8] 24) Gd.out)
  have Rs := Lib.hid (Rs.out.alloc (.cells #[.int .i64 2, .int .i64 1, .slice (some ⟨g8, 0, none⟩) 2 cap8] 24))
  have Gs := Lib.hid (carryA (.cells #[.int .i64 2, .int .i64 1, .slice (some ⟨g8, 0, none⟩) 2 cap8] 24) Gs.out)
  have Rt := Lib.hid (Rt.out.alloc (.cells #[.int .i64 2, .int .i64 1, .slice (some ⟨g8, 0, none⟩) 2 cap8] 24))
  have HW := Lib.hid (HW.out.alloc HW.out.size (.cells #[.int .i64 2, .int .i64 1, .slice (some ⟨g8, 0, none⟩) 2 cap8] 24))
  have Gt := Lib.hid (heap_alloc_new w8 (.cells #[.int .i64 2, .int .i64 1, .slice (some ⟨g8, 0, none⟩) 2 cap8] 24))
  go_wp2_with fail
  refine (new_any 1 1 _ (T.below HW.out)).mono ?_
  rintro e w9 ⟨h9, hb9⟩
  obtain rfl := h9.isnt HC.out.2.2.2.2.2.2.2.2
  have Rg := Lib.hid (Rg.out.below hb9)
  have Gg := Lib.hid (carry hb9 Gg.out)
  have Ra := Lib.hid (Ra.out.below hb9)
  have Ga := Lib.hid (carry hb9 Ga.out)
  have Rb := Lib.hid (Rb.out.below hb9)
  have Gb := Lib.hid (carry hb9 Gb.out)
  have Gc := Lib.hid (carry hb9 Gc.out)
  have Rd := Lib.hid (Rd.out.below hb9)
  have Gd := Lib.hid (carry hb9 Gd.out)
  have Rs := Lib.hid (Rs.out.below hb9)
  have Gs := Lib.hid (carry hb9 Gs.out)
  have Rt := Lib.hid (Rt.out.below hb9)
  have Gt := Lib.hid (carry hb9 Gt.out)
  have HW := Lib.hid (HW.out.trans (hb9.mono HW.out.size))
  clear hb9
  obtain ⟨Gba, Gbb, Gbc, Gbd, Gbe, Gbf, Gbl⟩ := blk3 Gb.out
  have Gca := cell_of_row w9 _ 0 _ _ (0, 0) Gc.out
  have Gcb := cell_of_row w9 _ 1 _ _ (0, 0) Gc.out
  have Gcl := (Array.getElem?_eq_some_iff.1 Gc.out).1
  go_wp2_with fail
  clear Gba Gbb Gbc Gbd Gbe Gbf Gbl Gca Gcb Gcl
  have Rg := Lib.hid (Rg.out.alloc (.cells #[.int .i64 0, .int .i64 0, .slice none 0 0] 24))
  have Ra := Lib.hid (Ra.out.alloc (.cells #[.int .i64 0, .int .i64 0, .slice none 0 0] 24))
  have Rb := Lib.hid (Rb.out.alloc (.cells #[.int .i64 0, .int .i64 0, .slice none 0 0] 24))
  have Rd := Lib.hid (Rd.out.alloc (.cells #[.int .i64 0, .int .i64 0, .slice none 0 0] 24))
  have Rs := Lib.hid (Rs.out.alloc (.cells #[.int .i64 0, .int .i64 0, .slice none 0 0] 24))
  have Rt := Lib.hid (Rt.out.alloc (.cells #[.int .i64 0, .int .i64 0, .slice none 0 0] 24))
  have Gg := Lib.hid (carryA (.cells #[.int .i64 0, .int .i64 0, .slice none 0 0] 24) Gg.out)
  have Ga := Lib.hid (carryA (.cells #[.int .i64 0, .int .i64 0, .slice none 0 0] 24) Ga.out)
  have Gd := Lib.hid (carryA (.cells #[.int .i64 0, .int .i64 0, .slice none 0 0] 24) Gd.out)
  have Gs := Lib.hid (carryA (.cells #[.int .i64 0, .int .i64 0, .slice none 0 0] 24) Gs.out)
  have Gt := Lib.hid (carryA (.cells #[.int .i64 0, .int .i64 0, .slice none 0 0] 24) Gt.out)
  have HW := Lib.hid (HW.out.alloc HW.out.size (.cells #[.int .i64 0, .int .i64 0, .slice none 0 0] 24))
  have hu := heap_alloc_new (w9.alloc (.cells #[.int .i64 0, .int .i64 0, .slice none 0 0] 24)) (.cells #[.int .i32 32, .int .i64 0] 30)
  rw [one_size w9] at hu
  have Gu := Lib.hid hu
  clear hu
  have Rg := Lib.hid (Rg.out.alloc (.cells #[.int .i32 32, .int .i64 0] 30))
  have Ra := Lib.hid (Ra.out.alloc (.cells #[.int .i32 32, .int .i64 0] 30))
  have Rb := Lib.hid (Rb.out.alloc (.cells #[.int .i32 32, .int .i64 0] 30))
  have Rd := Lib.hid (Rd.out.alloc (.cells #[.int .i32 32, .int .i64 0] 30))
  have Rs := Lib.hid (Rs.out.alloc (.cells #[.int .i32 32, .int .i64 0] 30))
  have Rt := Lib.hid (Rt.out.alloc (.cells #[.int .i32 32, .int .i64 0] 30))
  have Gg := Lib.hid (carryA (.cells #[.int .i32 32, .int .i64 0] 30) Gg.out)
  have Ga := Lib.hid (carryA (.cells #[.int .i32 32, .int .i64 0] 30) Ga.out)
  have Gd := Lib.hid (carryA (.cells #[.int .i32 32, .int .i64 0] 30) Gd.out)
  have Gs := Lib.hid (carryA (.cells #[.int .i32 32, .int .i64 0] 30) Gs.out)
  have Gt := Lib.hid (carryA (.cells #[.int .i32 32, .int .i64 0] 30) Gt.out)
  have HW := Lib.hid (HW.out.alloc HW.out.size (.cells #[.int .i32 32, .int .i64 0] 30))
  have Rg := Lib.hid (Rg.out.alloc (.cells #[.int .i32 32, .int .i64 0, .int .i32 32, .int .i64 0, .int .i32 97, .int .i64 0, .int .i32 32, .int .i64 0, .int .i32 32, .int .i64 0, .int .i32 32, .int .i64 0] 30))
  have Ra := Lib.hid (Ra.out.alloc (.cells #[.int .i32 32, .int .i64 0, .int .i32 32, .int .i64 0, .int .i32 97, .int .i64 0, .int .i32 32, .int .i64 0, .int .i32 32, .int .i64 0, .int .i32 32, .int .i64 0] 30))
  have Rb := Lib.hid (Rb.out.alloc (.cells #[.int .i32 32, .int .i64 0, .int .i32 32, .int .i64 0, .int .i32 97, .int .i64 0, .int .i32 32, .int .i64 0, .int .i32 32, .int .i64 0, .int .i32 32, .int .i64 0] 30))
  have Rd := Lib.hid (Rd.out.alloc (.cells #[.int .i32 32, .int .i64 0, .int .i32 32, .int .i64 0, .int .i32 97, .int .i64 0, .int .i32 32, .int .i64 0, .int .i32 32, .int .i64 0, .int .i32 32, .int .i64 0] 30))
  have Rs := Lib.hid (Rs.out.alloc (.cells #[.int .i32 32, .int .i64 0, .int .i32 32, .int .i64 0, .int .i32 97, .int .i64 0, .int .i32 32, .int .i64 0, .int .i32 32, .int .i64 0, .int .i32 32, .int .i64 0] 30))
  have Rt := Lib.hid (Rt.out.alloc (.cells #[.int .i32 32, .int .i64 0, .int .i32 32, .int .i64 0, .int .i32 97, .int .i64 0, .int .i32 32, .int .i64 0, .int .i32 32, .int .i64 0, .int .i32 32, .int .i64 0] 30))
  have Gg := Lib.hid (carryA (.cells #[.int .i32 32, .int .i64 0, .int .i32 32, .int .i64 0, .int .i32 97, .int .i64 0, .int .i32 32, .int .i64 0, .int .i32 32, .int .i64 0, .int .i32 32, .int .i64 0] 30) Gg.out)
  have Ga := Lib.hid (carryA (.cells #[.int .i32 32, .int .i64 0, .int .i32 32, .int .i64 0, .int .i32 97, .int .i64 0, .int .i32 32, .int .i64 0, .int .i32 32, .int .i64 0, .int .i32 32, .int .i64 0] 30) Ga.out)
  have Gd := Lib.hid (carryA (.cells #[.int .i32 32, .int .i64 0, .int .i32 32, .int .i64 0, .int .i32 97, .int .i64 0, .int .i32 32, .int .i64 0, .int .i32 32, .int .i64 0, .int .i32 32, .int .i64 0] 30) Gd.out)
  have Gs := Lib.hid (carryA (.cells #[.int .i32 32, .int .i64 0, .int .i32 32, .int .i64 0, .int .i32 97, .int .i64 0, .int .i32 32, .int .i64 0, .int .i32 32, .int .i64 0, .int .i32 32, .int .i64 0] 30) Gs.out)
  have Gt := Lib.hid (carryA (.cells #[.int .i32 32, .int .i64 0, .int .i32 32, .int .i64 0, .int .i32 97, .int .i64 0, .int .i32 32, .int .i64 0, .int .i32 32, .int .i64 0, .int .i32 32, .int .i64 0] 30) Gt.out)
  have Gu := Lib.hid (carryA (.cells #[.int .i32 32, .int .i64 0, .int .i32 32, .int .i64 0, .int .i32 97, .int .i64 0, .int .i32 32, .int .i64 0, .int .i32 32, .int .i64 0, .int .i32 32, .int .i64 0] 30) Gu.out)
  have HW := Lib.hid (HW.out.alloc HW.out.size (.cells #[.int .i32 32, .int .i64 0, .int .i32 32, .int .i64 0, .int .i32 97, .int .i64 0, .int .i32 32, .int .i64 0, .int .i32 32, .int .i64 0, .int .i32 32, .int .i64 0] 30))
  have hlit := lit_lb ((w9.alloc (.cells #[.int .i64 0, .int .i64 0, .slice none 0 0] 24)).alloc (.cells #[.int .i32 32, .int .i64 0] 30))
  rw [two_size] at hlit
  have HLIT := Lib.hid hlit
  clear hlit
  refine (same2_any _ _ lb lb _ Rb.out HLIT.out (by decide) (by decide)).mono ?_
  rintro e w10 ⟨rfl, hb10⟩
  rw [decide_eq_true rfl]
  have Rg := Lib.hid (Rg.out.below hb10)
  have Ra := Lib.hid (Ra.out.below hb10)
  have Rb := Lib.hid (Rb.out.below hb10)
  have Rd := Lib.hid (Rd.out.below hb10)
  have Rs := Lib.hid (Rs.out.below hb10)
  have Rt := Lib.hid (Rt.out.below hb10)
  have Gg := Lib.hid (carry hb10 Gg.out)
  have Ga := Lib.hid (carry hb10 Ga.out)
  have Gd := Lib.hid (carry hb10 Gd.out)
  have Gs := Lib.hid (carry hb10 Gs.out)
  have Gt := Lib.hid (carry hb10 Gt.out)
  have Gu := Lib.hid (carry hb10 Gu.out)
  have HW := Lib.hid (HW.out.trans (hb10.mono HW.out.size))
  clear hb10
  obtain ⟨Gda, Gdb, Gdc, Gdd, Gde, Gdf, Gdl⟩ := blk3 Gd.out
  obtain ⟨Gga, Ggb, Ggc, Ggd, Gge, Ggf, Ggl⟩ := blk3 Gg.out
  go_wp2_with fail
  clear Gda Gdb Gdc Gdd Gde Gdf Gdl
  clear Gga Ggb Ggc Ggd Gge Ggf Ggl
  refine (same2_any _ _ l0 l0 _ Rd.out Rg.out (by decide) (by decide)).mono ?_
  rintro e w11 ⟨rfl, hb11⟩
  rw [decide_eq_true rfl]
  have Rg := Lib.hid (Rg.out.below hb11)
  have Ra := Lib.hid (Ra.out.below hb11)
  have Rb := Lib.hid (Rb.out.below hb11)
  have Rd := Lib.hid (Rd.out.below hb11)
  have Rs := Lib.hid (Rs.out.below hb11)
  have Rt := Lib.hid (Rt.out.below hb11)
  have Gg := Lib.hid (carry hb11 Gg.out)
  have Ga := Lib.hid (carry hb11 Ga.out)
  have Gd := Lib.hid (carry hb11 Gd.out)
  have Gs := Lib.hid (carry hb11 Gs.out)
  have Gt := Lib.hid (carry hb11 Gt.out)
  have Gu := Lib.hid (carry hb11 Gu.out)
  have HW := Lib.hid (HW.out.trans (hb11.mono HW.out.size))
  clear hb11
  obtain ⟨Gsa, Gsb, Gsc, Gsd, Gse, Gsf, Gsl⟩ := blk3 Gs.out
  obtain ⟨Gga, Ggb, Ggc, Ggd, Gge, Ggf, Ggl⟩ := blk3 Gg.out
  go_wp2_with fail
  clear Gsa Gsb Gsc Gsd Gse Gsf Gsl
  clear Gga Ggb Ggc Ggd Gge Ggf Ggl
  refine (same2_any _ _ l0 l0 _ Rs.out Rg.out (by decide) (by decide)).mono ?_
  rintro e w12 ⟨rfl, hb12⟩
  rw [decide_eq_true rfl]
  have Rg := Lib.hid (Rg.out.below hb12)
  have Ra := Lib.hid (Ra.out.below hb12)
  have Rb := Lib.hid (Rb.out.below hb12)
  have Rd := Lib.hid (Rd.out.below hb12)
  have Rs := Lib.hid (Rs.out.below hb12)
  have Rt := Lib.hid (Rt.out.below hb12)
  have Gg := Lib.hid (carry hb12 Gg.out)
  have Ga := Lib.hid (carry hb12 Ga.out)
  have Gd := Lib.hid (carry hb12 Gd.out)
  have Gs := Lib.hid (carry hb12 Gs.out)
  have Gt := Lib.hid (carry hb12 Gt.out)
  have Gu := Lib.hid (carry hb12 Gu.out)
  have HW := Lib.hid (HW.out.trans (hb12.mono HW.out.size))
  clear hb12
  obtain ⟨Gta, Gtb, Gtc, Gtd, Gte, Gtf, Gtl⟩ := blk3 Gt.out
  have Gua := cell_of_row w12 _ 0 _ _ (0, 0) Gu.out
  have Gub := cell_of_row w12 _ 1 _ _ (0, 0) Gu.out
  have Gul := (Array.getElem?_eq_some_iff.1 Gu.out).1
  go_wp2_with fail
  clear Gta Gtb Gtc Gtd Gte Gtf Gtl
  clear Gua Gub Gul
  have Rg := Lib.hid (Rg.out.alloc (.cells #[.int .i32 32, .int .i64 0, .int .i32 32, .int .i64 0] 30))
  have Ra := Lib.hid (Ra.out.alloc (.cells #[.int .i32 32, .int .i64 0, .int .i32 32, .int .i64 0] 30))
  have Rb := Lib.hid (Rb.out.alloc (.cells #[.int .i32 32, .int .i64 0, .int .i32 32, .int .i64 0] 30))
  have Rd := Lib.hid (Rd.out.alloc (.cells #[.int .i32 32, .int .i64 0, .int .i32 32, .int .i64 0] 30))
  have Rs := Lib.hid (Rs.out.alloc (.cells #[.int .i32 32, .int .i64 0, .int .i32 32, .int .i64 0] 30))
  have Rt := Lib.hid (Rt.out.alloc (.cells #[.int .i32 32, .int .i64 0, .int .i32 32, .int .i64 0] 30))
  have Gg := Lib.hid (carryA (.cells #[.int .i32 32, .int .i64 0, .int .i32 32, .int .i64 0] 30) Gg.out)
  have Ga := Lib.hid (carryA (.cells #[.int .i32 32, .int .i64 0, .int .i32 32, .int .i64 0] 30) Ga.out)
  have Gd := Lib.hid (carryA (.cells #[.int .i32 32, .int .i64 0, .int .i32 32, .int .i64 0] 30) Gd.out)
  have Gs := Lib.hid (carryA (.cells #[.int .i32 32, .int .i64 0, .int .i32 32, .int .i64 0] 30) Gs.out)
  have Gt := Lib.hid (carryA (.cells #[.int .i32 32, .int .i64 0, .int .i32 32, .int .i64 0] 30) Gt.out)
  have Gu := Lib.hid (carryA (.cells #[.int .i32 32, .int .i64 0, .int .i32 32, .int .i64 0] 30) Gu.out)
  have HW := Lib.hid (HW.out.alloc HW.out.size (.cells #[.int .i32 32, .int .i64 0, .int .i32 32, .int .i64 0] 30))
  have HLIT2 := Lib.hid (lit_lt w12)
  refine (same2_any _ _ lt lt _ Rt.out HLIT2.out (by decide) (by decide)).mono ?_
  rintro e w13 ⟨rfl, hb13⟩
  rw [decide_eq_true rfl]
  have Rg := Lib.hid (Rg.out.below hb13)
  have Ra := Lib.hid (Ra.out.below hb13)
  have Rb := Lib.hid (Rb.out.below hb13)
  have Rd := Lib.hid (Rd.out.below hb13)
  have Rs := Lib.hid (Rs.out.below hb13)
  have Rt := Lib.hid (Rt.out.below hb13)
  have Gg := Lib.hid (carry hb13 Gg.out)
  have Ga := Lib.hid (carry hb13 Ga.out)
  have Gd := Lib.hid (carry hb13 Gd.out)
  have Gs := Lib.hid (carry hb13 Gs.out)
  have Gt := Lib.hid (carry hb13 Gt.out)
  have Gu := Lib.hid (carry hb13 Gu.out)
  have HW := Lib.hid (HW.out.trans (hb13.mono HW.out.size))
  clear hb13
  obtain ⟨Gaa, Gab, Gac, Gad, Gae, Gaf, Gal⟩ := blk3 Ga.out
  go_wp2_with fail
  clear Gaa Gab Gac Gad Gae Gaf Gal
  refine (is_grid_any 3 2 _ la _ Ra.out (by decide) (S.below HW.out)).mono ?_
  rintro e w14 ⟨rfl, hb14⟩
  rw [decide_eq_true HR.out.2.1]
  have Rg := Lib.hid (Rg.out.below hb14)
  have Ra := Lib.hid (Ra.out.below hb14)
  have Rb := Lib.hid (Rb.out.below hb14)
  have Rd := Lib.hid (Rd.out.below hb14)
  have Rs := Lib.hid (Rs.out.below hb14)
  have Rt := Lib.hid (Rt.out.below hb14)
  have Gg := Lib.hid (carry hb14 Gg.out)
  have Ga := Lib.hid (carry hb14 Ga.out)
  have Gd := Lib.hid (carry hb14 Gd.out)
  have Gs := Lib.hid (carry hb14 Gs.out)
  have Gt := Lib.hid (carry hb14 Gt.out)
  have Gu := Lib.hid (carry hb14 Gu.out)
  have HW := Lib.hid (HW.out.trans (hb14.mono HW.out.size))
  clear hb14
  go_wp2_with fail
  refine (is_grid_any 0 0 (.slice none 0 0) [] _ ⟨rfl, none, 0, rfl, .inl ⟨rfl, fun _ => rfl⟩⟩ (by decide) (S.below HW.out)).mono ?_
  rintro e w15 ⟨rfl, hb15⟩
  rw [decide_eq_false HR.out.2.2]
  have Rg := Lib.hid (Rg.out.below hb15)
  have Ra := Lib.hid (Ra.out.below hb15)
  have Rb := Lib.hid (Rb.out.below hb15)
  have Rd := Lib.hid (Rd.out.below hb15)
  have Rs := Lib.hid (Rs.out.below hb15)
  have Rt := Lib.hid (Rt.out.below hb15)
  have Gg := Lib.hid (carry hb15 Gg.out)
  have Ga := Lib.hid (carry hb15 Ga.out)
  have Gd := Lib.hid (carry hb15 Gd.out)
  have Gs := Lib.hid (carry hb15 Gs.out)
  have Gt := Lib.hid (carry hb15 Gt.out)
  have Gu := Lib.hid (carry hb15 Gu.out)
  have HW := Lib.hid (HW.out.trans (hb15.mono HW.out.size))
  clear hb15
  go_wp2
  go_ret
  exact ⟨rfl, HW.out⟩
end Go.Proofs.YtakokmacfdfjhaaDoor
