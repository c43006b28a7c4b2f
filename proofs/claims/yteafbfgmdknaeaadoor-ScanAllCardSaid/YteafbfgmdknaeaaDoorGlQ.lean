/- Glyphs in plain mathematics: which bytes are whole signs' and which beginnings of them. -/
import Derived.Test.YteafbfgmdknaeaaDoorGlP
import Derived.PlainAid
import Derived.WalkSmall
namespace Go.Proofs.YteafbfgmdknaeaaDoor
open Go.RowKit Go.PlainAid
namespace Gl
def x0 (b : Int) : Int := if b < 128 then 240 else if b < 194 then 241 else if b < 224 then 2 else if b = 224 then 19 else if b = 237 then 35 else if b < 240 then 3 else if b = 240 then 52 else if b < 244 then 4 else if b = 244 then 68 else 241
def need (b : Int) : Int := if b < 194 then 1 else if b < 224 then 2 else if b < 240 then 3 else if b < 245 then 4 else 1
def lo1 (b : Int) : Int := if b = 224 then 160 else if b = 240 then 144 else 128
def hi1 (b : Int) : Int := if b = 237 then 159 else if b = 244 then 143 else 191
/-- All of s is a beginning of a sign's bytes, and shorter. -/
def moreB (s : ByteArray) : Bool := decide (1 ≤ s.size ∧ (s.size : Int) < need (bt s 0) ∧ (2 ≤ s.size → lo1 (bt s 0) ≤ bt s 1 ∧ bt s 1 ≤ hi1 (bt s 0)) ∧ (3 ≤ s.size → 128 ≤ bt s 2 ∧ bt s 2 ≤ 191))
def fullB (s : ByteArray) : Bool := decide (1 ≤ s.size) && !(moreB s)
structure Tabs (w : World) (f a : Nat) : Prop where
  x : ∀ b : Int, 0 ≤ b → b ≤ 255 → w.cell? ⟨f, b.toNat, none⟩ = some (.int .u8 (x0 b))
  a0 : w.cell? ⟨a, 0, none⟩ = some (.int .u8 128)
  a1 : w.cell? ⟨a, 1, none⟩ = some (.int .u8 191)
  a2 : w.cell? ⟨a, 2, none⟩ = some (.int .u8 160)
  a3 : w.cell? ⟨a, 3, none⟩ = some (.int .u8 191)
  a4 : w.cell? ⟨a, 4, none⟩ = some (.int .u8 128)
  a5 : w.cell? ⟨a, 5, none⟩ = some (.int .u8 159)
  a6 : w.cell? ⟨a, 6, none⟩ = some (.int .u8 144)
  a7 : w.cell? ⟨a, 7, none⟩ = some (.int .u8 191)
  a8 : w.cell? ⟨a, 8, none⟩ = some (.int .u8 128)
  a9 : w.cell? ⟨a, 9, none⟩ = some (.int .u8 143)
theorem full_is (s : ByteArray) (lo hi : Int) (k : Int) (hk : need (bt s 0) = k) (hl : lo1 (bt s 0) = lo) (hh : hi1 (bt s 0) = hi) (b : Bool)
    (h : b = (decide (1 ≤ s.size) && !decide (1 ≤ s.size ∧ (s.size : Int) < k ∧ (2 ≤ s.size → lo ≤ bt s 1 ∧ bt s 1 ≤ hi) ∧ (3 ≤ s.size → 128 ≤ bt s 2 ∧ bt s 2 ≤ 191)))) : b = fullB s := by
  subst hk hl hh; exact h
theorem classes (b : Int) (h0 : 0 ≤ b) (h1 : b ≤ 255) : (x0 b = 240 ∧ need b = 1) ∨ (x0 b = 241 ∧ need b = 1) ∨ (x0 b = 2 ∧ need b = 2 ∧ lo1 b = 128 ∧ hi1 b = 191) ∨
    (x0 b = 19 ∧ need b = 3 ∧ lo1 b = 160 ∧ hi1 b = 191) ∨ (x0 b = 35 ∧ need b = 3 ∧ lo1 b = 128 ∧ hi1 b = 159) ∨ (x0 b = 3 ∧ need b = 3 ∧ lo1 b = 128 ∧ hi1 b = 191) ∨
    (x0 b = 52 ∧ need b = 4 ∧ lo1 b = 144 ∧ hi1 b = 191) ∨ (x0 b = 4 ∧ need b = 4 ∧ lo1 b = 128 ∧ hi1 b = 191) ∨ (x0 b = 68 ∧ need b = 4 ∧ lo1 b = 128 ∧ hi1 b = 143) := by
  unfold x0 need lo1 hi1
  by_cases c1 : b < 128
  · left; rw [if_pos c1, if_pos (by omega)]; exact ⟨rfl, rfl⟩
  right
  rw [if_neg c1]
  by_cases c2 : b < 194
  · left; rw [if_pos c2, if_pos c2]; exact ⟨rfl, rfl⟩
  rw [if_neg c2, if_neg c2]
  by_cases c3 : b < 224
  · right; left; rw [if_pos c3, if_pos c3, if_neg (by omega), if_neg (by omega), if_neg (by omega), if_neg (by omega)]; exact ⟨rfl, rfl, rfl, rfl⟩
  rw [if_neg c3, if_neg c3]
  by_cases c4 : b = 224
  · subst c4; simp
  rw [if_neg c4, if_neg c4]
  by_cases c5 : b = 237
  · subst c5; simp
  rw [if_neg c5, if_neg c5]
  by_cases c6 : b < 240
  · rw [if_pos c6, if_pos c6, if_neg (by omega), if_neg (by omega)]; simp
  rw [if_neg c6, if_neg c6]
  by_cases c7 : b = 240
  · subst c7; simp
  rw [if_neg c7, if_neg c7]
  by_cases c8 : b < 244
  · rw [if_pos c8, if_pos (by omega), if_neg (by omega)]; simp
  rw [if_neg c8]
  by_cases c9 : b = 244
  · subst c9; simp
  rw [if_neg c9, if_neg (by omega)]
  simp
theorem finT (n : Nat) (k lo hi p q : Int) (h : 1 ≤ n) (h2 : ¬ ((n : Int) < k ∧ (n < 2 ∨ (lo ≤ p ∧ p ≤ hi)) ∧ (n < 3 ∨ (128 ≤ q ∧ q ≤ 191)))) :
    true = (decide (1 ≤ n) && !decide (1 ≤ n ∧ (n : Int) < k ∧ (2 ≤ n → lo ≤ p ∧ p ≤ hi) ∧ (3 ≤ n → 128 ≤ q ∧ q ≤ 191))) := by
  rw [eq_comm, Bool.and_eq_true]
  refine ⟨decide_eq_true h, ?_⟩
  rw [Bool.not_eq_true', decide_eq_false_iff_not]
  intro ⟨_, b, c, d⟩
  exact h2 ⟨b, by omega, by omega⟩
theorem finF (n : Nat) (k lo hi p q : Int) (h2 : n < 1 ∨ ((n : Int) < k ∧ (n < 2 ∨ (lo ≤ p ∧ p ≤ hi)) ∧ (n < 3 ∨ (128 ≤ q ∧ q ≤ 191)))) :
    false = (decide (1 ≤ n) && !decide (1 ≤ n ∧ (n : Int) < k ∧ (2 ≤ n → lo ≤ p ∧ p ≤ hi) ∧ (3 ≤ n → 128 ≤ q ∧ q ≤ 191))) := by
  by_cases h : 1 ≤ n
  · rw [decide_eq_true (show 1 ≤ n ∧ (n : Int) < k ∧ (2 ≤ n → lo ≤ p ∧ p ≤ hi) ∧ (3 ≤ n → 128 ≤ q ∧ q ≤ 191) from ⟨h, by omega, by omega, by omega⟩)]; simp
  · simp [h]
end Gl
end Go.Proofs.YteafbfgmdknaeaaDoor
