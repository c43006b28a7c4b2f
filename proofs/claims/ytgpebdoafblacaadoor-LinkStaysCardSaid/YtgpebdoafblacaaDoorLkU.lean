/- Links: the reference's Same; big. -/
import Derived.Test.YtgpebdoafblacaaDoorLkO
import Derived.Test.YtgpebdoafblacaaDoorLkR
import Derived.Test.YtgpebdoafblacaaDoorLkS
import Derived.Test.YtgpebdoafblacaaDoorLkN
import Derived.BigGuardPart
import Derived.BigQuiet
import Derived.Deep.QuietTactic
import Derived.Deep.RegionHeld3
import Derived.Deep.Cut
import Derived.Deep.LoopGhost
set_option linter.unusedVariables false
namespace Go.Proofs.YtgpebdoafblacaaDoor
open Go.RowKit Go.PlainAid Gl L Vt Lk
set_option maxHeartbeats 4000000 in
theorem lksame_any (r1 s1 p1 r2 s2 p2 : Int) (o1 o2 : Bool) (l m : List Cmd) (A B : Option Addr) (c1 c2 : Nat) (w : World) (h1 : Rk w (.slice A l.length c1) l) (h2 : Rk w (.slice B m.length c2) m) (hl : l.length ≤ 100000) (hm : m.length ≤ 100000) :
    Calls Tryd.prog 16 #[.agg #[.int .i64 r1, .slice A l.length c1, .int .i64 s1, .int .i64 p1, .bool o1], .agg #[.int .i64 r2, .slice B m.length c2, .int .i64 s2, .int .i64 p2, .bool o2]] w fun e w' => e = .returned (.bool (decide ((⟨r1, l, s1, p1, o1⟩ : Lnk) = ⟨r2, m, s2, p2, o2⟩))) ∧ Below w.heap.size w w' := by
  have V := Lib.hid (((La.start w).box #[.int .i64 r1, .slice A l.length c1, .int .i64 s1, .int .i64 p1, .bool o1] 24).box #[.int .i64 r2, .slice B m.length c2, .int .i64 s2, .int .i64 p2, .bool o2] 24)
  have HS := Lib.hid (fun wz hb => rsame_any (.slice A l.length c1) (.slice B m.length c2) l m wz (h1.below hb).rw (h2.below hb).rw hl hm)
  have hE : decide ((⟨r1, l, s1, p1, o1⟩ : Lnk) = ⟨r2, m, s2, p2, o2⟩) = (decide (r1 = r2) && decide (l = m) && decide (s1 = s2) && decide (p1 = p2) && decide (o1 = o2)) := by
    rw [Bool.eq_iff_iff]
    simp [and_assoc]
  rw [hE]
  clear hE h1 h2
  by_cases e1 : r1 = r2
  case neg =>
    have b1 : (r1 == r2) = false := by simp [e1]
    have d1 : decide (r1 = r2) = false := by simp [e1]
    rw [d1]
    clear d1
    go_enter Tryd.func16, Tryd.ntmps16
    go_wp2
    go_ret
    exact ⟨by simp, V.out.below⟩
  subst e1
  by_cases e2 : l = m
  case neg =>
    have d1 : decide (l = m) = false := by simp [e2]
    rw [d1] at HS ⊢
    clear d1
    go_enter Tryd.func16, Tryd.ntmps16
    go_wp2_with fail
    refine (HS.out _ V.out.below).mono ?_
    rintro e w1 ⟨rfl, hb⟩
    replace V := Lib.hid (V.out.call hb)
    clear hb
    go_wp2
    go_ret
    exact ⟨by simp, V.out.below⟩
  subst e2
  rw [decide_eq_true (rfl : l = l)] at HS ⊢
  by_cases e3 : s1 = s2 <;> by_cases e4 : p1 = p2 <;> by_cases e5 : o1 = o2
  all_goals
    try subst e3
    try subst e4
    try subst e5
    go_enter Tryd.func16, Tryd.ntmps16
    go_wp2_with fail
    refine (HS.out _ V.out.below).mono ?_
    rintro e w1 ⟨rfl, hb⟩
    replace V := Lib.hid (V.out.call hb)
    clear hb
    have g0 := V.out.at 0 rfl
    have g1 := V.out.at 1 rfl
    rw [one_size] at g0
    obtain ⟨⟨c0, c1', c2', c3, c4⟩, -, hz⟩ := blk5 g1
    obtain ⟨⟨d0, d1, d2, d3, d4⟩, -, hz2⟩ := blk5 g0
    clear g0 g1
    go_wp2
    go_ret
    exact ⟨by simp [*], V.out.below⟩
theorem lkbig_any (room sent pad : Int) (off : Bool) (A : Option Addr) (n cap : Nat) (w : World) : Calls Tryd.prog 10 #[.agg #[.int .i64 room, .slice A n cap, .int .i64 sent, .int .i64 pad, .bool off]] w fun e w' => e = .returned (.bool (decide (200 < n))) ∧ Below w.heap.size w w' := by
  by_cases h : 200 < n
  · have h1 : (200 : Int) < (n : Int) := by omega
    rw [decide_eq_true h]
    go_enter Tryd.func10, Tryd.ntmps10
    go_wp2
    go_ret
    exact ⟨rfl, (Below.refl _ _).alloc (Nat.le_refl _) _⟩
  · have h1 : ¬ (200 : Int) < (n : Int) := by omega
    rw [decide_eq_false h]
    go_enter Tryd.func10, Tryd.ntmps10
    go_wp2
    go_ret
    exact ⟨rfl, (Below.refl _ _).alloc (Nat.le_refl _) _⟩
end Go.Proofs.YtgpebdoafblacaaDoor
