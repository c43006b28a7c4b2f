/- What Feed tells, taken apart. -/
import Derived.Test.YtkkioajmfkcloaaGreatDoorTmG
set_option linter.unusedVariables false
namespace Go.Proofs.YtkkioajmfkcloaaGreatDoor
open Go.RowKit Gl L Wd Gd Tm Vt
theorem FO.bad1 {B : Nat} {vi : Value} {li : List (Int × Int)} {w' : World} {e : Ending} {t : Trm} {s : ByteArray} (h : FO B vi li w' e t s) (hr : ¬ rt t) : e = .returned (.tuple #[.agg #[.int .i64 0, .int .i64 0, .slice none 0 0, .int .i64 0, .int .i64 0, .bool false], .string ⟨#[]⟩, .int .i64 1]) := by
  rcases h with ⟨_, h⟩ | ⟨h, _⟩ | ⟨_, _, _, h, _⟩
  · exact h
  · exact absurd h hr
  · exact absurd h hr
theorem FO.bad2 {B : Nat} {vi : Value} {li : List (Int × Int)} {w' : World} {e : Ending} {t : Trm} {s : ByteArray} (h : FO B vi li w' e t s) (hr : rt t) (hb : AllBad s) : e = .returned (.tuple #[.agg #[.int .i64 0, .int .i64 0, .slice none 0 0, .int .i64 0, .int .i64 0, .bool false], .string ⟨#[]⟩, .int .i64 2]) := by
  rcases h with ⟨h, _⟩ | ⟨_, _, h⟩ | ⟨_, _, _, _, h, _⟩
  · exact absurd hr h
  · exact h
  · exact (h.not_bad hb).elim
theorem FO.ok {B : Nat} {vi : Value} {li : List (Int × Int)} {w' : World} {e : Ending} {t u : Trm} {s r : ByteArray} {m : List Cmd} (h : FO B vi li w' e t s) (hA : AllR s m r) (hr : rt t) (hu : feedT t m = u) (hi : Rc w' vi li) : ∃ A cap, e = .returned (.tuple #[.agg #[.int .i64 u.w, .int .i64 u.h, .slice A u.l.length cap, .int .i64 u.x, .int .i64 u.y, .bool u.k], .string r, .int .i64 0]) ∧ Kp B vi li w' (.slice A u.l.length cap) u.l := by
  rcases h with ⟨h, _⟩ | ⟨_, h, _⟩ | ⟨m', r', v, _, hm, rfl, hk⟩
  · exact absurd hr h
  · exact (hA.not_bad h).elim
  · obtain ⟨rfl, rfl⟩ := hA.one hm
    rw [hu] at hk ⊢
    obtain ⟨A, cap, rfl, h1, h2⟩ := hk.rc hi
    exact ⟨A, cap, rfl, hk⟩
end Go.Proofs.YtkkioajmfkcloaaGreatDoor
