/- The contracts of glyph: first words. -/
import Derived.Test.YtgpebdoafblacaaDoorProg
import Derived.Test.YtgpebdoafblacaaDoorMGp
/- The contracts of glyph's and the reference's Is: any number. -/
namespace Go.Proofs.YtgpebdoafblacaaDoor
open Go.RowKit Gl L
theorem is_any (r : Int) (w : World) : Calls Tryd.prog 55 #[.int .i32 r] w fun e w' => e = .returned (.bool (vld r)) ∧ w = w' := by
  go_enter Tryd.func55, Tryd.ntmps55
  go_wp2
  all_goals go_ret
  all_goals refine ⟨?_, rfl⟩
  all_goals refine ret_bool ?_
  all_goals rw [Bool.eq_iff_iff, vld_iff]
  all_goals (simp; omega)
theorem ris_any (r : Int) (w : World) : Calls Tryd.prog 51 #[.int .i32 r] w fun e w' => e = .returned (.bool (vld r)) ∧ w = w' := by
  go_enter Tryd.func51, Tryd.ntmps51
  go_wp2
  all_goals go_ret
  all_goals refine ⟨?_, rfl⟩
  all_goals refine ret_bool ?_
  all_goals rw [Bool.eq_iff_iff, vld_iff]
  all_goals (simp; omega)
end Go.Proofs.YtgpebdoafblacaaDoor
/- The contracts of glyph's and the reference's Put: any number. -/
namespace Go.Proofs.YtgpebdoafblacaaDoor
open Go.RowKit Gl L
theorem put_any (r : Int) (w : World) : Calls Tryd.prog 53 #[.int .i32 r] w fun e w' => e = .returned (.tuple #[.string (putS r), .int .i64 (putE r)]) ∧ w = w' := by
  cases hv : vld r
  all_goals
    have H := Lib.hid hv
    clear hv
    go_enter Tryd.func53, Tryd.ntmps53
    go_wp2_with fail
    refine (is_any _ _).mono ?_
    rintro e w' ⟨rfl, rfl⟩
    rw [H.out]
    go_wp2
    go_ret2
    exact ⟨by simp [putS, putE, H.out], rfl⟩
set_option maxRecDepth 100000 in
theorem rput_any (r : Int) (w : World) : Calls Tryd.prog 45 #[.int .i32 r] w fun e w' => e = .returned (.tuple #[.string (putS r), .int .i64 (putE r)]) ∧ Below w.heap.size w w' := by
  cases hv : vld r
  · have H := Lib.hid hv
    clear hv
    go_enter Tryd.func45, Tryd.ntmps45
    go_wp2_with fail
    refine (ris_any _ _).mono ?_
    rintro e w' ⟨rfl, rfl⟩
    rw [H.out]
    go_wp2
    go_ret2
    exact ⟨by simp [putS, putE, H.out], Below.refl _ _⟩
  · obtain ⟨h0, h1, _⟩ := (vld_iff r).1 hv
    have hE : putE r = 0 := by simp [putE, hv]
    have HE := Lib.hid hE
    have H := Lib.hid hv
    clear hv hE
    have k1 := conv1 (P := Tryd.prog) 54 5 9 Tryd.underlying54 Tryd.underlying5 Tryd.underlying9
    have k2 := conv2 (P := Tryd.prog) 54 5 9 Tryd.underlying54 Tryd.underlying5 Tryd.underlying9
    have k3 := conv3 (P := Tryd.prog) 54 5 9 Tryd.underlying54 Tryd.underlying5 Tryd.underlying9
    have k4 := conv4 (P := Tryd.prog) 54 5 9 Tryd.underlying54 Tryd.underlying5 Tryd.underlying9
    have hs : r ≤ 127 ∨ (128 ≤ r ∧ r ≤ 2047) ∨ (2048 ≤ r ∧ r ≤ 65535) ∨ (65536 ≤ r) := by omega
    rcases hs with c | ⟨c, c2⟩ | ⟨c, c2⟩ | c
    all_goals
      go_enter Tryd.func45, Tryd.ntmps45
      go_wp2_with fail
      refine (ris_any _ _).mono ?_
      rintro e w' ⟨rfl, rfl⟩
      rw [H.out]
      go_wp2_with fail
      go_ret2
      refine ⟨?_, (Below.refl _ _).alloc (Nat.le_refl _) _⟩
      rw [HE.out]
    · rw [← put1 r h0 (by omega) H.out]; rfl
    · rw [← put2 r h0 (by omega) (by omega) H.out]; rfl
    · rw [← put3 r h0 (by omega) (by omega) H.out]; rfl
    · rw [← put4 r h0 (by omega) H.out]; rfl
end Go.Proofs.YtgpebdoafblacaaDoor
