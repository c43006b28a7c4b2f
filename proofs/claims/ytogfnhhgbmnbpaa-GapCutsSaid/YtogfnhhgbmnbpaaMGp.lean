/- UTF-8 in plain mathematics. -/
import Derived.Test.YtogfnhhgbmnbpaaMLb
import Derived.PlainAid
import Derived.WalkSmall
import Derived.Lib.DecodeN
import Derived.Laws.Cover4
/- Glyphs in plain mathematics: which numbers are signs, their bytes. -/
namespace Go.Proofs.Ytogfnhhgbmnbpaa
open Go.RowKit
namespace Gl
def vld (r : Int) : Bool := decide (0 ≤ r ∧ r ≤ 1114111 ∧ (r < 55296 ∨ 57343 < r))
theorem vld_eq (r : Int) : Utf8.valid r = vld r := by
  rw [validRune_eq]; unfold validRune vld; rw [decide_eq_decide]; omega
theorem vld_iff (r : Int) : vld r = true ↔ 0 ≤ r ∧ r ≤ 1114111 ∧ (r < 55296 ∨ 57343 < r) := by simp [vld]
def putS (r : Int) : ByteArray := if vld r then Utf8.encode r else ⟨#[]⟩
def putE (r : Int) : Int := if vld r then 0 else 1
theorem put1 (r : Int) (h0 : 0 ≤ r) (h : r ≤ 127) (hv : vld r = true) : strOfNums [r] = putS r := by
  obtain ⟨n, rfl⟩ := Int.eq_ofNat_of_zero_le h0
  have hv' : Utf8.valid (n : Int) = true := by rw [vld_eq]; exact hv
  unfold putS
  rw [if_pos hv]
  unfold Utf8.encode
  simp only [hv', if_true, Int.toNat_natCast]
  rw [if_pos (by omega)]
  rfl
theorem put2 (r : Int) (h0 : 0 ≤ r) (h : 128 ≤ r) (h2 : r ≤ 2047) (hv : vld r = true) : strOfNums [192 + r / 64, 128 + r % 64] = putS r := by
  obtain ⟨n, rfl⟩ := Int.eq_ofNat_of_zero_le h0
  have hv' : Utf8.valid (n : Int) = true := by rw [vld_eq]; exact hv
  unfold putS
  rw [if_pos hv]
  unfold Utf8.encode
  simp only [hv', if_true, Int.toNat_natCast]
  rw [if_neg (by omega), if_pos (by omega)]
  show (⟨#[UInt8.ofNat (192 + (n : Int) / 64).toNat, UInt8.ofNat (128 + (n : Int) % 64).toNat]⟩ : ByteArray) = _
  rw [show (192 + (n : Int) / 64).toNat = 0xC0 + n / 64 by omega, show (128 + (n : Int) % 64).toNat = 0x80 + n % 64 by omega]
theorem put3 (r : Int) (h0 : 0 ≤ r) (h : 2048 ≤ r) (h2 : r ≤ 65535) (hv : vld r = true) : strOfNums [224 + r / 4096, 128 + r / 64 % 64, 128 + r % 64] = putS r := by
  obtain ⟨n, rfl⟩ := Int.eq_ofNat_of_zero_le h0
  have hv' : Utf8.valid (n : Int) = true := by rw [vld_eq]; exact hv
  unfold putS
  rw [if_pos hv]
  unfold Utf8.encode
  simp only [hv', if_true, Int.toNat_natCast]
  rw [if_neg (by omega), if_neg (by omega), if_pos (by omega)]
  show (⟨#[UInt8.ofNat (224 + (n : Int) / 4096).toNat, UInt8.ofNat (128 + (n : Int) / 64 % 64).toNat, UInt8.ofNat (128 + (n : Int) % 64).toNat]⟩ : ByteArray) = _
  rw [show (224 + (n : Int) / 4096).toNat = 0xE0 + n / 4096 by omega, show (128 + (n : Int) / 64 % 64).toNat = 0x80 + n / 64 % 64 by omega, show (128 + (n : Int) % 64).toNat = 0x80 + n % 64 by omega]
theorem put4 (r : Int) (h0 : 0 ≤ r) (h : 65536 ≤ r) (hv : vld r = true) : strOfNums [240 + r / 262144, 128 + r / 4096 % 64, 128 + r / 64 % 64, 128 + r % 64] = putS r := by
  obtain ⟨n, rfl⟩ := Int.eq_ofNat_of_zero_le h0
  have hv' : Utf8.valid (n : Int) = true := by rw [vld_eq]; exact hv
  unfold putS
  rw [if_pos hv]
  unfold Utf8.encode
  simp only [hv', if_true, Int.toNat_natCast]
  rw [if_neg (by omega), if_neg (by omega), if_neg (by omega)]
  show (⟨#[UInt8.ofNat (240 + (n : Int) / 262144).toNat, UInt8.ofNat (128 + (n : Int) / 4096 % 64).toNat, UInt8.ofNat (128 + (n : Int) / 64 % 64).toNat, UInt8.ofNat (128 + (n : Int) % 64).toNat]⟩ : ByteArray) = _
  rw [show (240 + (n : Int) / 262144).toNat = 0xF0 + n / 262144 by omega, show (128 + (n : Int) / 4096 % 64).toNat = 0x80 + n / 4096 % 64 by omega, show (128 + (n : Int) / 64 % 64).toNat = 0x80 + n / 64 % 64 by omega, show (128 + (n : Int) % 64).toNat = 0x80 + n % 64 by omega]
end Gl
end Go.Proofs.Ytogfnhhgbmnbpaa
/- Glyphs in plain mathematics: which bytes are whole signs' and which beginnings of them. -/
namespace Go.Proofs.Ytogfnhhgbmnbpaa
open Go.RowKit Go.PlainAid
namespace Gl
def x0 (b : Int) : Int := if b < 128 then 240 else if b < 194 then 241 else if b < 224 then 2 else if b = 224 then 19 else if b = 237 then 35 else if b < 240 then 3 else if b = 240 then 52 else if b < 244 then 4 else if b = 244 then 68 else 241
def need (b : Int) : Int := if b < 194 then 1 else if b < 224 then 2 else if b < 240 then 3 else if b < 245 then 4 else 1
def lo1 (b : Int) : Int := if b = 224 then 160 else if b = 240 then 144 else 128
def hi1 (b : Int) : Int := if b = 237 then 159 else if b = 244 then 143 else 191
/-- All of s is a beginning of a sign's bytes, and shorter. -/
def moreB (s : ByteArray) : Bool := decide (1 ≤ s.size ∧ (s.size : Int) < need (bt s 0) ∧ (2 ≤ s.size → lo1 (bt s 0) ≤ bt s 1 ∧ bt s 1 ≤ hi1 (bt s 0)) ∧ (3 ≤ s.size → 128 ≤ bt s 2 ∧ bt s 2 ≤ 191))
def fullB (s : ByteArray) : Bool := decide (1 ≤ s.size) && !(moreB s)
structure Tabs (w : World) (f a : Nat) : Prop where
  x : ∀ b : Int, 0 ≤ b → b ≤ 255 → w.cell? ⟨f, b.toNat, none⟩ = some (.int .u8 (x0 b))
  a0 : w.cell? ⟨a, 0, none⟩ = some (.int .u8 128)
  a1 : w.cell? ⟨a, 1, none⟩ = some (.int .u8 191)
  a2 : w.cell? ⟨a, 2, none⟩ = some (.int .u8 160)
  a3 : w.cell? ⟨a, 3, none⟩ = some (.int .u8 191)
  a4 : w.cell? ⟨a, 4, none⟩ = some (.int .u8 128)
  a5 : w.cell? ⟨a, 5, none⟩ = some (.int .u8 159)
  a6 : w.cell? ⟨a, 6, none⟩ = some (.int .u8 144)
  a7 : w.cell? ⟨a, 7, none⟩ = some (.int .u8 191)
  a8 : w.cell? ⟨a, 8, none⟩ = some (.int .u8 128)
  a9 : w.cell? ⟨a, 9, none⟩ = some (.int .u8 143)
theorem full_is (s : ByteArray) (lo hi : Int) (k : Int) (hk : need (bt s 0) = k) (hl : lo1 (bt s 0) = lo) (hh : hi1 (bt s 0) = hi) (b : Bool)
    (h : b = (decide (1 ≤ s.size) && !decide (1 ≤ s.size ∧ (s.size : Int) < k ∧ (2 ≤ s.size → lo ≤ bt s 1 ∧ bt s 1 ≤ hi) ∧ (3 ≤ s.size → 128 ≤ bt s 2 ∧ bt s 2 ≤ 191)))) : b = fullB s := by
  subst hk hl hh; exact h
theorem classes (b : Int) (h0 : 0 ≤ b) (h1 : b ≤ 255) : (x0 b = 240 ∧ need b = 1) ∨ (x0 b = 241 ∧ need b = 1) ∨ (x0 b = 2 ∧ need b = 2 ∧ lo1 b = 128 ∧ hi1 b = 191) ∨
    (x0 b = 19 ∧ need b = 3 ∧ lo1 b = 160 ∧ hi1 b = 191) ∨ (x0 b = 35 ∧ need b = 3 ∧ lo1 b = 128 ∧ hi1 b = 159) ∨ (x0 b = 3 ∧ need b = 3 ∧ lo1 b = 128 ∧ hi1 b = 191) ∨
    (x0 b = 52 ∧ need b = 4 ∧ lo1 b = 144 ∧ hi1 b = 191) ∨ (x0 b = 4 ∧ need b = 4 ∧ lo1 b = 128 ∧ hi1 b = 191) ∨ (x0 b = 68 ∧ need b = 4 ∧ lo1 b = 128 ∧ hi1 b = 143) := by
  unfold x0 need lo1 hi1
  by_cases c1 : b < 128
  · left; rw [if_pos c1, if_pos (by omega)]; exact ⟨rfl, rfl⟩
  right
  rw [if_neg c1]
  by_cases c2 : b < 194
  · left; rw [if_pos c2, if_pos c2]; exact ⟨rfl, rfl⟩
  rw [if_neg c2, if_neg c2]
  by_cases c3 : b < 224
  · right; left; rw [if_pos c3, if_pos c3, if_neg (by omega), if_neg (by omega), if_neg (by omega), if_neg (by omega)]; exact ⟨rfl, rfl, rfl, rfl⟩
  rw [if_neg c3, if_neg c3]
  by_cases c4 : b = 224
  · subst c4; simp
  rw [if_neg c4, if_neg c4]
  by_cases c5 : b = 237
  · subst c5; simp
  rw [if_neg c5, if_neg c5]
  by_cases c6 : b < 240
  · rw [if_pos c6, if_pos c6, if_neg (by omega), if_neg (by omega)]; simp
  rw [if_neg c6, if_neg c6]
  by_cases c7 : b = 240
  · subst c7; simp
  rw [if_neg c7, if_neg c7]
  by_cases c8 : b < 244
  · rw [if_pos c8, if_pos (by omega), if_neg (by omega)]; simp
  rw [if_neg c8]
  by_cases c9 : b = 244
  · subst c9; simp
  rw [if_neg c9, if_neg (by omega)]
  simp
theorem finT (n : Nat) (k lo hi p q : Int) (h : 1 ≤ n) (h2 : ¬ ((n : Int) < k ∧ (n < 2 ∨ (lo ≤ p ∧ p ≤ hi)) ∧ (n < 3 ∨ (128 ≤ q ∧ q ≤ 191)))) :
    true = (decide (1 ≤ n) && !decide (1 ≤ n ∧ (n : Int) < k ∧ (2 ≤ n → lo ≤ p ∧ p ≤ hi) ∧ (3 ≤ n → 128 ≤ q ∧ q ≤ 191))) := by
  rw [eq_comm, Bool.and_eq_true]
  refine ⟨decide_eq_true h, ?_⟩
  rw [Bool.not_eq_true', decide_eq_false_iff_not]
  intro ⟨_, b, c, d⟩
  exact h2 ⟨b, by omega, by omega⟩
theorem finF (n : Nat) (k lo hi p q : Int) (h2 : n < 1 ∨ ((n : Int) < k ∧ (n < 2 ∨ (lo ≤ p ∧ p ≤ hi)) ∧ (n < 3 ∨ (128 ≤ q ∧ q ≤ 191)))) :
    false = (decide (1 ≤ n) && !decide (1 ≤ n ∧ (n : Int) < k ∧ (2 ≤ n → lo ≤ p ∧ p ≤ hi) ∧ (3 ≤ n → 128 ≤ q ∧ q ≤ 191))) := by
  by_cases h : 1 ≤ n
  · rw [decide_eq_true (show 1 ≤ n ∧ (n : Int) < k ∧ (2 ≤ n → lo ≤ p ∧ p ≤ hi) ∧ (3 ≤ n → 128 ≤ q ∧ q ≤ 191) from ⟨h, by omega, by omega, by omega⟩)]; simp
  · simp [h]
end Gl
end Go.Proofs.Ytogfnhhgbmnbpaa
/- Glyphs in plain mathematics: what Next tells; a string as its bytes. -/
namespace Go.Proofs.Ytogfnhhgbmnbpaa
open Go.RowKit Go.PlainAid
namespace Gl
def decR (s : ByteArray) (i : Nat) : Int := ((Utf8.decode s i).1 : Int)
def decN (s : ByteArray) (i : Nat) : Nat := (Utf8.decode s i).2
theorem dec_bounds (s : ByteArray) (i : Nat) (h : i < s.size) : 1 ≤ decN s i ∧ i + decN s i ≤ s.size := by
  unfold decN Utf8.decode
  simp only
  repeat' split
  all_goals simp_all
  all_goals omega
theorem run_next_dec {P : Program} (w : World) (s : ByteArray) (pos : Nat) (ty : TypeId) (h : pos < s.size) :
    (Instr.next (.pointer (some ⟨w.heap.size, 0, none⟩)) true ty).run P (w.iter s pos) =
      .ok (.tuple #[.bool true, .int .i64 pos, .int .i32 (decR s pos)]) (w.iter s (pos + decN s pos)) := run_next_any w s pos ty h
def nextR (s : ByteArray) : Int := if s.size = 0 ∨ moreB s then 0 else decR s 0
def nextN (s : ByteArray) : Nat := if s.size = 0 ∨ moreB s then 0 else decN s 0
def nextE (s : ByteArray) : Int := if s.size = 0 then 6 else if moreB s then 3 else 0
theorem size_list (s : ByteArray) : s.data.toList.length = s.size := Array.length_toList
theorem ne_empty (s : ByteArray) (h : 1 ≤ s.size) : s.toList.isEmpty = false := by
  rw [ByteArray.toList_eq]
  have := size_list s
  cases hl : s.data.toList with
  | nil => rw [hl] at this; simp at this; omega
  | cons => rfl
theorem of_size_zero (s : ByteArray) (h : s.size = 0) : s = ⟨#[]⟩ := by
  obtain ⟨⟨l⟩⟩ := s
  cases l with
  | nil => rfl
  | cons => exact absurd h (by simp [ByteArray.size])
theorem str_eq_of_toList (a b : ByteArray) : (a.toList == b.toList) = decide (a = b) := by
  rw [ByteArray.toList_eq, ByteArray.toList_eq, Bool.eq_iff_iff, beq_iff_eq, decide_eq_true_iff]
  constructor
  · intro h
    obtain ⟨⟨l⟩⟩ := a; obtain ⟨⟨m⟩⟩ := b
    simp at h
    rw [h]
  · rintro rfl; rfl
theorem bt_toNat (s : ByteArray) (k : Nat) (h : k < s.size) : (s.data.toList.getD k 0).toNat = (bt s k).toNat := by
  unfold bt
  rw [dif_pos h]
  have : s.data.toList.getD k 0 = s[k] := by
    rw [List.getD, List.getElem?_eq_getElem (by rw [size_list]; exact h)]
    rfl
  rw [this]; rfl
/-- Two strings of one length and the same bytes are one. -/
theorem ext_bt (s t : ByteArray) (h : s.size = t.size) (hb : ∀ k, k < s.size → bt s k = bt t k) : s = t := by
  have e : s.data.toList = t.data.toList := by
    apply List.ext_getElem
    · rw [size_list, size_list, h]
    · intro i h1 h2
      have h1' : i < s.size := by rw [← size_list]; exact h1
      have h2' : i < t.size := by omega
      have := hb i h1'
      unfold bt at this
      rw [dif_pos h1', dif_pos h2'] at this
      have e1 : s.data.toList[i] = s[i] := rfl
      have e2 : t.data.toList[i] = t[i] := rfl
      rw [e1, e2]
      exact UInt8.toNat_inj.1 (by omega)
  obtain ⟨⟨l⟩⟩ := s; obtain ⟨⟨m⟩⟩ := t
  simp at e
  rw [e]
theorem bt_strOf (xs : List Int) (k : Nat) (x : Int) (h : xs[k]? = some x) (h0 : 0 ≤ x ∧ x ≤ 255) : bt (strOfNums xs) k = x := by
  have hk : k < xs.length := by
    rcases Nat.lt_or_ge k xs.length with h' | h'
    · exact h'
    · rw [List.getElem?_eq_none h'] at h; cases h
  have hs : k < (strOfNums xs).size := by rw [strOfNums_size]; exact hk
  unfold bt
  rw [dif_pos hs]
  have e : (strOfNums xs)[k] = UInt8.ofNat x.toNat := by
    have e1 : (strOfNums xs)[k] = (strOfNums xs).data.toList[k]'(by rw [size_list]; exact hs) := rfl
    rw [e1]
    simp only [strOfNums_data, List.getElem_map]
    rw [List.getElem?_eq_getElem hk] at h
    rw [Option.some.inj h]
  rw [e]
  simp
  omega
/-- The bytes of a decoding, as the model reads them. -/
theorem get_bt' (s : ByteArray) (k : Nat) (h : k < s.size) : ((s.get! k).toNat : Int) = bt s k := by
  unfold bt
  rw [dif_pos h]
  have e : s.get! k = s[k] := by
    simp [ByteArray.get!, getElem!_pos, h]
    rfl
  rw [e]
/-- Just n bytes from i on are a sign's. -/
def okAt (s : ByteArray) (i n : Nat) : Prop :=
  (n = 1 ∧ i + 1 ≤ s.size ∧ bt s i < 128) ∨
  (n = 2 ∧ i + 2 ≤ s.size ∧ 194 ≤ bt s i ∧ bt s i < 224 ∧ 128 ≤ bt s (i + 1) ∧ bt s (i + 1) ≤ 191) ∨
  (n = 3 ∧ i + 3 ≤ s.size ∧ 224 ≤ bt s i ∧ bt s i < 240 ∧ lo1 (bt s i) ≤ bt s (i + 1) ∧ bt s (i + 1) ≤ hi1 (bt s i) ∧ 128 ≤ bt s (i + 2) ∧ bt s (i + 2) ≤ 191) ∨
  (n = 4 ∧ i + 4 ≤ s.size ∧ 240 ≤ bt s i ∧ bt s i < 245 ∧ lo1 (bt s i) ≤ bt s (i + 1) ∧ bt s (i + 1) ≤ hi1 (bt s i) ∧ 128 ≤ bt s (i + 2) ∧ bt s (i + 2) ≤ 191 ∧ 128 ≤ bt s (i + 3) ∧ bt s (i + 3) ≤ 191)
/-- The number that n bytes from i on make. -/
def valAt (s : ByteArray) (i n : Nat) : Int :=
  if n = 1 then bt s i else if n = 2 then (bt s i - 192) * 64 + (bt s (i + 1) - 128)
  else if n = 3 then ((bt s i - 224) * 64 + (bt s (i + 1) - 128)) * 64 + (bt s (i + 2) - 128)
  else (((bt s i - 240) * 64 + (bt s (i + 1) - 128)) * 64 + (bt s (i + 2) - 128)) * 64 + (bt s (i + 3) - 128)
end Gl
end Go.Proofs.Ytogfnhhgbmnbpaa
/- Glyphs in plain mathematics: whole signs' bytes and the numbers that they make, as the reference finds them; a decoding's outcome. -/
namespace Go.Proofs.Ytogfnhhgbmnbpaa
open Go.RowKit Go.PlainAid
namespace Gl
/-- A byte that is more of a sign's. -/
def badC (b : Int) : Bool := decide (b < 128 ∨ 191 < b)
theorem badC_iff (b : Int) : badC b = true ↔ b < 128 ∨ 191 < b := by simp [badC]
def valI (s : ByteArray) : Int :=
  if s.size = 1 then bt s 0
  else if (s.size = 2 ∧ (bt s 0 < 192 ∨ badC (bt s 1))) ∨ (s.size = 3 ∧ (bt s 0 < 224 ∨ badC (bt s 1) ∨ badC (bt s 2))) ∨ (s.size = 4 ∧ (bt s 0 < 240 ∨ badC (bt s 1) ∨ badC (bt s 2) ∨ badC (bt s 3))) then -1
  else valAt s 0 s.size
theorem valI_1 (s : ByteArray) (h : s.size = 1) : bt s 0 = valI s := by unfold valI; rw [if_pos h]
theorem valI_2 (s : ByteArray) (h : s.size = 2) (h0 : 192 ≤ bt s 0) (h1 : 128 ≤ bt s 1 ∧ bt s 1 ≤ 191) : (bt s 0 - 192) * 64 + bt s 1 - 128 = valI s := by
  unfold valI
  rw [if_neg (by omega), if_neg (by simp only [badC_iff]; omega)]
  unfold valAt
  rw [if_neg (by omega), if_pos h]
  simp only [Nat.zero_add]
  omega
theorem valI_3 (s : ByteArray) (h : s.size = 3) (h0 : 224 ≤ bt s 0) (h1 : 128 ≤ bt s 1 ∧ bt s 1 ≤ 191) (h2 : 128 ≤ bt s 2 ∧ bt s 2 ≤ 191) : ((bt s 0 - 224) * 64 + bt s 1 - 128) * 64 + bt s 2 - 128 = valI s := by
  unfold valI
  rw [if_neg (by omega), if_neg (by simp only [badC_iff]; omega)]
  unfold valAt
  rw [if_neg (by omega), if_neg (by omega), if_pos h]
  simp only [Nat.zero_add]
  omega
theorem valI_4 (s : ByteArray) (h : s.size = 4) (h0 : 240 ≤ bt s 0) (h1 : 128 ≤ bt s 1 ∧ bt s 1 ≤ 191) (h2 : 128 ≤ bt s 2 ∧ bt s 2 ≤ 191) (h3 : 128 ≤ bt s 3 ∧ bt s 3 ≤ 191) : (((bt s 0 - 240) * 64 + bt s 1 - 128) * 64 + bt s 2 - 128) * 64 + bt s 3 - 128 = valI s := by
  unfold valI
  rw [if_neg (by omega), if_neg (by simp only [badC_iff]; omega)]
  unfold valAt
  rw [if_neg (by omega), if_neg (by omega), if_neg (by omega)]
  simp only [Nat.zero_add]
  omega
theorem valI_neg (s : ByteArray) (h : (s.size = 2 ∧ (bt s 0 < 192 ∨ bt s 1 < 128 ∨ 191 < bt s 1)) ∨ (s.size = 3 ∧ (bt s 0 < 224 ∨ bt s 1 < 128 ∨ 191 < bt s 1 ∨ bt s 2 < 128 ∨ 191 < bt s 2)) ∨
    (s.size = 4 ∧ (bt s 0 < 240 ∨ bt s 1 < 128 ∨ 191 < bt s 1 ∨ bt s 2 < 128 ∨ 191 < bt s 2 ∨ bt s 3 < 128 ∨ 191 < bt s 3))) : -1 = valI s := by
  unfold valI
  rw [if_neg (by omega), if_pos (by simp only [badC_iff]; omega)]
/-- The bytes of a sign, by its size. -/
theorem put_form (r : Int) (hv : vld r = true) : (r ≤ 127 ∧ putS r = strOfNums [r]) ∨ (128 ≤ r ∧ r ≤ 2047 ∧ putS r = strOfNums [192 + r / 64, 128 + r % 64]) ∨
    (2048 ≤ r ∧ r ≤ 65535 ∧ putS r = strOfNums [224 + r / 4096, 128 + r / 64 % 64, 128 + r % 64]) ∨ (65536 ≤ r ∧ putS r = strOfNums [240 + r / 262144, 128 + r / 4096 % 64, 128 + r / 64 % 64, 128 + r % 64]) := by
  obtain ⟨h0, h1, _⟩ := (vld_iff r).1 hv
  have hs : r ≤ 127 ∨ (128 ≤ r ∧ r ≤ 2047) ∨ (2048 ≤ r ∧ r ≤ 65535) ∨ (65536 ≤ r) := by omega
  rcases hs with c | ⟨c, c2⟩ | ⟨c, c2⟩ | c
  · exact .inl ⟨c, (put1 r h0 c hv).symm⟩
  · exact .inr (.inl ⟨c, c2, (put2 r h0 c c2 hv).symm⟩)
  · exact .inr (.inr (.inl ⟨c, c2, (put3 r h0 c c2 hv).symm⟩))
  · exact .inr (.inr (.inr ⟨c, (put4 r h0 c hv).symm⟩))
theorem put_size (r : Int) (hv : vld r = true) : 1 ≤ (putS r).size ∧ (putS r).size ≤ 4 := by
  rcases put_form r hv with ⟨_, e⟩ | ⟨_, _, e⟩ | ⟨_, _, e⟩ | ⟨_, e⟩ <;> rw [e, strOfNums_size] <;> simp
theorem lo1_hi1 (b : Int) : (b = 224 ∧ lo1 b = 160 ∧ hi1 b = 191) ∨ (b = 240 ∧ lo1 b = 144 ∧ hi1 b = 191) ∨ (b = 237 ∧ lo1 b = 128 ∧ hi1 b = 159) ∨ (b = 244 ∧ lo1 b = 128 ∧ hi1 b = 143) ∨
    (b ≠ 224 ∧ b ≠ 240 ∧ b ≠ 237 ∧ b ≠ 244 ∧ lo1 b = 128 ∧ hi1 b = 191) := by
  unfold lo1 hi1
  by_cases h1 : b = 224
  · subst h1; simp
  by_cases h2 : b = 240
  · subst h2; simp
  by_cases h3 : b = 237
  · subst h3; simp
  by_cases h4 : b = 244
  · subst h4; simp
  simp [h1, h2, h3, h4]
/-- A sign's bytes, wherever they stand, are told by 'okAt', and make that sign. -/
theorem ok_of_put (s : ByteArray) (i : Nat) (r : Int) (hv : vld r = true) (hi : i + (putS r).size ≤ s.size) (hb : ∀ k, k < (putS r).size → bt s (i + k) = bt (putS r) k) :
    okAt s i (putS r).size ∧ valAt s i (putS r).size = r := by
  obtain ⟨h0, h1, h2⟩ := (vld_iff r).1 hv
  rcases put_form r hv with ⟨c, e⟩ | ⟨c, c2, e⟩ | ⟨c, c2, e⟩ | ⟨c, e⟩
  all_goals rw [e, strOfNums_size] at hi hb ⊢; simp only [List.length_cons, List.length_nil, Nat.zero_add, Nat.reduceAdd] at hi hb ⊢
  · have b0 := hb 0 (by omega)
    rw [bt_strOf _ 0 r rfl (by omega)] at b0
    simp only [Nat.add_zero] at b0
    exact ⟨.inl ⟨rfl, hi, by omega⟩, by unfold valAt; rw [if_pos rfl]; exact b0⟩
  · have b0 := hb 0 (by omega)
    have b1 := hb 1 (by omega)
    rw [bt_strOf _ 0 _ rfl (by omega)] at b0
    rw [bt_strOf _ 1 _ rfl (by omega)] at b1
    simp only [Nat.add_zero] at b0
    exact ⟨.inr (.inl ⟨rfl, hi, by omega, by omega, by omega, by omega⟩), by unfold valAt; rw [if_neg (by omega), if_pos rfl]; omega⟩
  · have b0 := hb 0 (by omega)
    have b1 := hb 1 (by omega)
    have b2 := hb 2 (by omega)
    rw [bt_strOf _ 0 _ rfl (by omega)] at b0
    rw [bt_strOf _ 1 _ rfl (by omega)] at b1
    rw [bt_strOf _ 2 _ rfl (by omega)] at b2
    simp only [Nat.add_zero] at b0
    have hl := lo1_hi1 (bt s i)
    exact ⟨.inr (.inr (.inl ⟨rfl, hi, by omega, by omega, by omega, by omega, by omega, by omega⟩)), by unfold valAt; rw [if_neg (by omega), if_neg (by omega), if_pos rfl]; omega⟩
  · have b0 := hb 0 (by omega)
    have b1 := hb 1 (by omega)
    have b2 := hb 2 (by omega)
    have b3 := hb 3 (by omega)
    rw [bt_strOf _ 0 _ rfl (by omega)] at b0
    rw [bt_strOf _ 1 _ rfl (by omega)] at b1
    rw [bt_strOf _ 2 _ rfl (by omega)] at b2
    rw [bt_strOf _ 3 _ rfl (by omega)] at b3
    simp only [Nat.add_zero] at b0
    have hl := lo1_hi1 (bt s i)
    exact ⟨.inr (.inr (.inr ⟨rfl, hi, by omega, by omega, by omega, by omega, by omega, by omega, by omega, by omega⟩)), by unfold valAt; rw [if_neg (by omega), if_neg (by omega), if_neg (by omega)]; omega⟩
/-- And what 'okAt' tells are a sign's bytes. -/
theorem put_of_ok (s : ByteArray) (i n : Nat) (h : okAt s i n) : vld (valAt s i n) = true ∧ (putS (valAt s i n)).size = n ∧ ∀ k, k < n → bt (putS (valAt s i n)) k = bt s (i + k) := by
  have hl := lo1_hi1 (bt s i)
  have z0 := bt_nonneg s i
  have hv : vld (valAt s i n) = true ∧ ((n = 1 ∧ valAt s i n = bt s i ∧ valAt s i n ≤ 127) ∨ (n = 2 ∧ valAt s i n = (bt s i - 192) * 64 + (bt s (i + 1) - 128) ∧ 128 ≤ valAt s i n ∧ valAt s i n ≤ 2047 ∧ 128 ≤ bt s (i + 1) ∧ bt s (i + 1) ≤ 191) ∨
      (n = 3 ∧ valAt s i n = ((bt s i - 224) * 64 + (bt s (i + 1) - 128)) * 64 + (bt s (i + 2) - 128) ∧ 2048 ≤ valAt s i n ∧ valAt s i n ≤ 65535 ∧ 128 ≤ bt s (i + 1) ∧ bt s (i + 1) ≤ 191 ∧ 128 ≤ bt s (i + 2) ∧ bt s (i + 2) ≤ 191) ∨
      (n = 4 ∧ valAt s i n = (((bt s i - 240) * 64 + (bt s (i + 1) - 128)) * 64 + (bt s (i + 2) - 128)) * 64 + (bt s (i + 3) - 128) ∧ 65536 ≤ valAt s i n ∧ 128 ≤ bt s (i + 1) ∧ bt s (i + 1) ≤ 191 ∧ 128 ≤ bt s (i + 2) ∧ bt s (i + 2) ≤ 191 ∧ 128 ≤ bt s (i + 3) ∧ bt s (i + 3) ≤ 191)) := by
    rw [vld_iff]
    rcases h with ⟨rfl, h⟩ | ⟨rfl, h⟩ | ⟨rfl, h⟩ | ⟨rfl, h⟩
    · have e : valAt s i 1 = bt s i := by unfold valAt; rw [if_pos rfl]
      rw [e]; exact ⟨by omega, .inl ⟨rfl, rfl, by omega⟩⟩
    · have e : valAt s i 2 = (bt s i - 192) * 64 + (bt s (i + 1) - 128) := by unfold valAt; rw [if_neg (by omega), if_pos rfl]
      rw [e]; exact ⟨by omega, .inr (.inl ⟨rfl, rfl, by omega, by omega, by omega, by omega⟩)⟩
    · have e : valAt s i 3 = ((bt s i - 224) * 64 + (bt s (i + 1) - 128)) * 64 + (bt s (i + 2) - 128) := by unfold valAt; rw [if_neg (by omega), if_neg (by omega), if_pos rfl]
      rw [e]; exact ⟨by omega, .inr (.inr (.inl ⟨rfl, rfl, by omega, by omega, by omega, by omega, by omega, by omega⟩))⟩
    · have e : valAt s i 4 = (((bt s i - 240) * 64 + (bt s (i + 1) - 128)) * 64 + (bt s (i + 2) - 128)) * 64 + (bt s (i + 3) - 128) := by unfold valAt; rw [if_neg (by omega), if_neg (by omega), if_neg (by omega)]
      rw [e]; exact ⟨by omega, .inr (.inr (.inr ⟨rfl, rfl, by omega, by omega, by omega, by omega, by omega, by omega, by omega⟩))⟩
  obtain ⟨hv, hc⟩ := hv
  generalize valAt s i n = v at hv hc ⊢
  refine ⟨hv, ?_⟩
  rcases hc with ⟨rfl, e, hc⟩ | ⟨rfl, e, hc⟩ | ⟨rfl, e, hc⟩ | ⟨rfl, e, hc⟩
  all_goals rcases put_form v hv with ⟨c, e'⟩ | ⟨c, c2, e'⟩ | ⟨c, c2, e'⟩ | ⟨c, e'⟩
  all_goals first | (exfalso; omega) | skip
  all_goals rw [e', strOfNums_size]
  all_goals refine ⟨rfl, fun k hk => ?_⟩
  · obtain rfl : k = 0 := by omega
    rw [bt_strOf _ 0 _ rfl (by omega)]; simp only [Nat.add_zero]; omega
  · rcases (show k = 0 ∨ k = 1 by omega) with rfl | rfl
    · rw [bt_strOf _ 0 _ rfl (by omega)]; simp only [Nat.add_zero]; omega
    · rw [bt_strOf _ 1 _ rfl (by omega)]; omega
  · rcases (show k = 0 ∨ k = 1 ∨ k = 2 by omega) with rfl | rfl | rfl
    · rw [bt_strOf _ 0 _ rfl (by omega)]; simp only [Nat.add_zero]; omega
    · rw [bt_strOf _ 1 _ rfl (by omega)]; omega
    · rw [bt_strOf _ 2 _ rfl (by omega)]; omega
  · have h1 := (vld_iff v).1 hv
    rcases (show k = 0 ∨ k = 1 ∨ k = 2 ∨ k = 3 by omega) with rfl | rfl | rfl | rfl
    · rw [bt_strOf _ 0 _ rfl (by omega)]; simp only [Nat.add_zero]; omega
    · rw [bt_strOf _ 1 _ rfl (by omega)]; omega
    · rw [bt_strOf _ 2 _ rfl (by omega)]; omega
    · rw [bt_strOf _ 3 _ rfl (by omega)]; omega
end Gl
end Go.Proofs.Ytogfnhhgbmnbpaa
/- Glyphs in plain mathematics: the reference's whole and more. -/
namespace Go.Proofs.Ytogfnhhgbmnbpaa
open Go.RowKit Go.PlainAid
namespace Gl
def whB (s : ByteArray) : Bool := decide (0 ≤ valI s) && (vld (valI s) && (putS (valI s)).toList == s.toList)
def whR (s : ByteArray) : Int := if valI s < 0 then 0 else valI s
theorem valI_bd (s : ByteArray) (z1 : 1 ≤ s.size) (z4 : s.size ≤ 4) : -1 ≤ valI s ∧ valI s ≤ 100000000 := by
  have b0 := bt_nonneg s 0
  have b0' := bt_le s 0
  have b1 := bt_nonneg s 1
  have b1' := bt_le s 1
  have b2 := bt_nonneg s 2
  have b2' := bt_le s 2
  have b3 := bt_nonneg s 3
  have b3' := bt_le s 3
  unfold valI
  by_cases h1 : s.size = 1
  · rw [if_pos h1]; omega
  rw [if_neg h1]
  split
  · omega
  · rename_i hc
    simp only [badC_iff] at hc
    unfold valAt
    rw [if_neg h1]
    simp only [Nat.zero_add]
    repeat' split
    all_goals omega
/-- The reference's whole tells just whole signs' bytes. -/
theorem whB_iff (s : ByteArray) : whB s = true ↔ okAt s 0 s.size := by
  unfold whB
  rw [Bool.and_eq_true, Bool.and_eq_true, str_eq_of_toList, decide_eq_true_iff, decide_eq_true_iff]
  constructor
  · rintro ⟨h0, hv, he⟩
    have := ok_of_put s 0 (valI s) hv (by rw [he]; omega) (fun k _ => by rw [he, Nat.zero_add])
    rw [he] at this
    exact this.1
  · intro h
    have e : valI s = valAt s 0 s.size := by
      have hl := lo1_hi1 (bt s 0)
      unfold valI
      split
      · rename_i h1; unfold valAt; rw [if_pos h1]
      · rename_i h1
        rw [if_neg]
        simp only [badC_iff]
        unfold okAt at h
        simp only [Nat.zero_add] at h
        omega
    obtain ⟨hv, hs, hb⟩ := put_of_ok s 0 s.size h
    rw [← e] at hv hs hb
    exact ⟨((vld_iff _).1 hv).1, hv, ext_bt _ _ hs (fun k hk => by rw [hb k (by omega), Nat.zero_add])⟩
theorem whR_ok (s : ByteArray) (h : okAt s 0 s.size) : whR s = valAt s 0 s.size := by
  have e : valI s = valAt s 0 s.size := by
    have hl := lo1_hi1 (bt s 0)
    unfold valI
    split
    · rename_i h1; unfold valAt; rw [if_pos h1]
    · rename_i h1
      rw [if_neg]
      simp only [badC_iff]
      unfold okAt at h
      simp only [Nat.zero_add] at h
      omega
  obtain ⟨hv, _, _⟩ := put_of_ok s 0 s.size h
  rw [← e] at hv ⊢
  unfold whR
  rw [if_neg (by have := ((vld_iff _).1 hv).1; omega)]
/-- s with j bytes c behind it. -/
def pad (s : ByteArray) (c : UInt8) (j : Nat) : ByteArray := ⟨(s.data.toList ++ List.replicate j c).toArray⟩
theorem pad_zero (s : ByteArray) (c : UInt8) : pad s c 0 = s := by
  obtain ⟨⟨l⟩⟩ := s
  simp [pad]
theorem pad_size (s : ByteArray) (c : UInt8) (j : Nat) : (pad s c j).size = s.size + j := by
  rw [← size_list, ← size_list]; simp [pad]
theorem pad_succ (s : ByteArray) (c : UInt8) (j : Nat) : pad s c j ++ ⟨#[c]⟩ = pad s c (j + 1) := by
  have : (pad s c j ++ ⟨#[c]⟩).data.toList = (pad s c (j + 1)).data.toList := by
    rw [ByteArray.data_append]
    simp [pad, List.replicate_succ']
  generalize hx : pad s c j ++ ⟨#[c]⟩ = x at this
  generalize hy : pad s c (j + 1) = y at this
  obtain ⟨⟨l⟩⟩ := x; obtain ⟨⟨m⟩⟩ := y
  simp at this
  rw [this]
theorem bt_list (s : ByteArray) (k : Nat) : bt s k = ((s.data.toList.getD k 0).toNat : Int) := by
  unfold bt
  split
  · rename_i h
    have : s.data.toList.getD k 0 = s[k] := by
      rw [List.getD, List.getElem?_eq_getElem (by rw [size_list]; exact h)]
      rfl
    rw [this]
  · rename_i h
    rw [List.getD, List.getElem?_eq_none (by rw [size_list]; omega)]
    rfl
theorem bt_pad (s : ByteArray) (c : UInt8) (j k : Nat) : bt (pad s c j) k = if k < s.size then bt s k else if k < s.size + j then (c.toNat : Int) else 0 := by
  rw [bt_list, bt_list]
  have hl := size_list s
  by_cases h : k < s.size
  · rw [if_pos h]
    simp only [pad]
    rw [List.getD_eq_getElem?_getD, List.getD_eq_getElem?_getD, List.getElem?_append_left (by omega)]
  · rw [if_neg h]
    simp only [pad]
    rw [List.getD_eq_getElem?_getD, List.getElem?_append_right (by omega)]
    by_cases h2 : k < s.size + j
    · rw [if_pos h2, List.getElem?_replicate, if_pos (by omega)]; rfl
    · rw [if_neg h2, List.getElem?_replicate, if_neg (by omega)]; rfl
/-- Either filling of s up to n bytes is a sign's. -/
def tryB (s : ByteArray) (n : Nat) : Bool := whB (pad s 128 (n - s.size)) || whB (pad s 191 (n - s.size))
theorem tryB_iff (s : ByteArray) (n : Nat) (h1 : 1 ≤ s.size) (hn : s.size < n) (h4 : n ≤ 4) : tryB s n = true ↔
    (n = 2 ∧ 194 ≤ bt s 0 ∧ bt s 0 < 224) ∨ (n = 3 ∧ 224 ≤ bt s 0 ∧ bt s 0 < 240 ∧ (2 ≤ s.size → lo1 (bt s 0) ≤ bt s 1 ∧ bt s 1 ≤ hi1 (bt s 0))) ∨
    (n = 4 ∧ 240 ≤ bt s 0 ∧ bt s 0 < 245 ∧ (2 ≤ s.size → lo1 (bt s 0) ≤ bt s 1 ∧ bt s 1 ≤ hi1 (bt s 0)) ∧ (3 ≤ s.size → 128 ≤ bt s 2 ∧ bt s 2 ≤ 191)) := by
  have e : ∀ c, (pad s c (n - s.size)).size = n := fun c => by rw [pad_size]; omega
  unfold tryB
  rw [Bool.or_eq_true, whB_iff, whB_iff, e, e]
  unfold okAt
  simp only [e, bt_pad, Nat.zero_add, if_pos (show 0 < s.size by omega)]
  rw [show ((128 : UInt8).toNat : Int) = 128 from rfl, show ((191 : UInt8).toNat : Int) = 191 from rfl]
  have hl := lo1_hi1 (bt s 0)
  have hn' : s.size + (n - s.size) = n := by omega
  rw [hn']
  rcases (show s.size = 1 ∨ s.size = 2 ∨ s.size = 3 by omega) with z | z | z
  all_goals rw [z] at hn ⊢
  all_goals rcases (show n = 2 ∨ n = 3 ∨ n = 4 by omega) with rfl | rfl | rfl
  all_goals first | (exfalso; omega) | skip
  all_goals simp
  all_goals omega
theorem moreB_try (s : ByteArray) (h1 : 1 ≤ s.size) : moreB s = true ↔ ∃ n, s.size < n ∧ n ≤ 4 ∧ tryB s n = true := by
  have hb0 := bt_nonneg s 0
  have hb1 := bt_le s 0
  unfold moreB
  rw [decide_eq_true_iff]
  have hk : (bt s 0 < 194 ∧ need (bt s 0) = 1) ∨ (194 ≤ bt s 0 ∧ bt s 0 < 224 ∧ need (bt s 0) = 2) ∨ (224 ≤ bt s 0 ∧ bt s 0 < 240 ∧ need (bt s 0) = 3) ∨ (240 ≤ bt s 0 ∧ bt s 0 < 245 ∧ need (bt s 0) = 4) ∨ (245 ≤ bt s 0 ∧ need (bt s 0) = 1) := by
    unfold need
    repeat' split
    all_goals omega
  constructor
  · rintro ⟨_, h2, h3, h5⟩
    refine ⟨(need (bt s 0)).toNat, by omega, by omega, ?_⟩
    rw [tryB_iff s _ h1 (by omega) (by omega)]
    rcases hk with h | h | h | h | h
    · omega
    · exact .inl ⟨by omega, h.1, h.2.1⟩
    · exact .inr (.inl ⟨by omega, h.1, h.2.1, h3⟩)
    · exact .inr (.inr ⟨by omega, h.1, h.2.1, h3, h5⟩)
    · omega
  · rintro ⟨n, hn, h4, ht⟩
    rw [tryB_iff s n h1 hn h4] at ht
    rcases ht with ⟨rfl, a, b⟩ | ⟨rfl, a, b, c⟩ | ⟨rfl, a, b, c, d⟩
    · exact ⟨h1, by omega, fun h => by omega, fun h => by omega⟩
    · exact ⟨h1, by omega, c, fun h => by omega⟩
    · exact ⟨h1, by omega, c, d⟩
end Gl
end Go.Proofs.Ytogfnhhgbmnbpaa
/- Glyphs in plain mathematics: a decoding's outcome, and the reference's Next. -/
namespace Go.Proofs.Ytogfnhhgbmnbpaa
open Go.RowKit Go.PlainAid
namespace Gl
/-- The first n bytes of s. -/
def pre (s : ByteArray) (n : Nat) : ByteArray := s.extract 0 n
theorem pre_size (s : ByteArray) (n : Nat) (h : n ≤ s.size) : (pre s n).size = n := by
  unfold pre; simp [ByteArray.size_extract]; omega
theorem bt_pre (s : ByteArray) (n k : Nat) (hn : n ≤ s.size) (h : k < n) : bt (pre s n) k = bt s k := by
  unfold bt
  rw [dif_pos (by rw [pre_size s n hn]; exact h), dif_pos (by omega)]
  unfold pre
  simp [ByteArray.getElem_extract]
theorem ok_pre (s : ByteArray) (n : Nat) (h1 : 1 ≤ n) (hn : n ≤ s.size) (h4 : n ≤ 4) : whB (pre s n) = true ↔ okAt s 0 n := by
  rw [whB_iff, pre_size s n hn]
  unfold okAt
  rw [pre_size s n hn]
  simp only [Nat.zero_add]
  rw [bt_pre s n 0 hn (by omega)]
  rcases (show n = 1 ∨ n = 2 ∨ n = 3 ∨ n = 4 by omega) with rfl | rfl | rfl | rfl
  · omega
  · rw [bt_pre s 2 1 hn (by omega)]; omega
  · rw [bt_pre s 3 1 hn (by omega), bt_pre s 3 2 hn (by omega)]; omega
  · rw [bt_pre s 4 1 hn (by omega), bt_pre s 4 2 hn (by omega), bt_pre s 4 3 hn (by omega)]; omega
theorem ok_one (s : ByteArray) (i n m : Nat) (h : okAt s i n) (h' : okAt s i m) : n = m := by
  have := lo1_hi1 (bt s i)
  rcases h with h | h | h | h <;> rcases h' with h' | h' | h' | h' <;> first | omega
theorem val_pre (s : ByteArray) (n : Nat) (h1 : 1 ≤ n) (hn : n ≤ s.size) (h4 : n ≤ 4) : valAt (pre s n) 0 n = valAt s 0 n := by
  unfold valAt
  simp only [Nat.zero_add]
  rw [bt_pre s n 0 hn (by omega)]
  rcases (show n = 1 ∨ n = 2 ∨ n = 3 ∨ n = 4 by omega) with rfl | rfl | rfl | rfl
  · rfl
  · rw [bt_pre s 2 1 hn (by omega)]; rfl
  · rw [bt_pre s 3 1 hn (by omega), bt_pre s 3 2 hn (by omega)]; rfl
  · rw [bt_pre s 4 1 hn (by omega), bt_pre s 4 2 hn (by omega), bt_pre s 4 3 hn (by omega)]
/-- A decoding's outcome: a whole sign's, or Bad. -/
theorem dec_ok (s : ByteArray) (i n : Nat) (h : okAt s i n) : decR s i = valAt s i n ∧ decN s i = n := by
  have hi : i < s.size := by rcases h with h | h | h | h <;> omega
  have hl := lo1_hi1 (bt s i)
  have z0 := get_bt' s i hi
  unfold decR decN
  rw [Lib.decode_at]
  unfold Lib.decodeN
  rcases h with ⟨rfl, h⟩ | ⟨rfl, h⟩ | ⟨rfl, h⟩ | ⟨rfl, h⟩
  · rw [if_pos (by omega)]
    exact ⟨by unfold valAt; rw [if_pos rfl]; exact z0, rfl⟩
  · have z1 := get_bt' s (i + 1) (by omega)
    rw [if_neg (by omega), if_pos (by omega), if_pos (by omega)]
    exact ⟨by unfold valAt; rw [if_neg (by omega), if_pos rfl]; show (_ : Int) = _; omega, rfl⟩
  · have z1 := get_bt' s (i + 1) (by omega)
    have z2 := get_bt' s (i + 2) (by omega)
    rw [if_neg (by omega), if_neg (by omega), if_pos (by omega), if_pos (by omega)]
    exact ⟨by unfold valAt; rw [if_neg (by omega), if_neg (by omega), if_pos rfl]; show (_ : Int) = _; omega, rfl⟩
  · have z1 := get_bt' s (i + 1) (by omega)
    have z2 := get_bt' s (i + 2) (by omega)
    have z3 := get_bt' s (i + 3) (by omega)
    rw [if_neg (by omega), if_neg (by omega), if_neg (by omega), if_pos (by omega), if_pos (by omega)]
    exact ⟨by unfold valAt; rw [if_neg (by omega), if_neg (by omega), if_neg (by omega)]; show (_ : Int) = _; omega, rfl⟩
set_option maxHeartbeats 2000000 in
theorem dec_bad (s : ByteArray) (i : Nat) (hi : i < s.size) (h : ∀ n, ¬ okAt s i n) : decR s i = 65533 ∧ decN s i = 1 := by
  have hl := lo1_hi1 (bt s i)
  have z0 := get_bt' s i hi
  have h1 := h 1
  have h2 := h 2
  have h3 := h 3
  have h4 := h 4
  unfold okAt at h1 h2 h3 h4
  have z1 : i + 1 < s.size → ((s.get! (i + 1)).toNat : Int) = bt s (i + 1) := get_bt' s (i + 1)
  have z2 : i + 2 < s.size → ((s.get! (i + 2)).toNat : Int) = bt s (i + 2) := get_bt' s (i + 2)
  have z3 : i + 3 < s.size → ((s.get! (i + 3)).toNat : Int) = bt s (i + 3) := get_bt' s (i + 3)
  unfold decR decN
  rw [Lib.decode_at]
  generalize (s.get! i).toNat = c0 at z0 ⊢
  generalize (s.get! (i + 1)).toNat = c1 at z1 ⊢
  generalize (s.get! (i + 2)).toNat = c2 at z2 ⊢
  generalize (s.get! (i + 3)).toNat = c3 at z3 ⊢
  unfold Lib.decodeN
  rw [if_neg (by clear h2 h3 h4; omega)]
  split
  · rename_i c
    rw [if_neg (by clear h1 h3 h4 hl; omega)]; exact ⟨rfl, rfl⟩
  clear h2
  split
  · rename_i c
    have y1 := z1 (by omega)
    have y2 := z2 (by omega)
    rw [if_neg (by clear h1 h4; omega)]; exact ⟨rfl, rfl⟩
  clear h3
  split
  · rename_i c
    have y1 := z1 (by omega)
    have y2 := z2 (by omega)
    have y3 := z3 (by omega)
    rw [if_neg (by clear h1; omega)]; exact ⟨rfl, rfl⟩
  · exact ⟨rfl, rfl⟩
theorem more_not_ok (s : ByteArray) (h : moreB s = true) (n : Nat) : ¬ okAt s 0 n := by
  unfold moreB at h
  rw [decide_eq_true_iff] at h
  obtain ⟨h1, h2, _⟩ := h
  intro ho
  unfold need at h2
  rcases ho with ho | ho | ho | ho
  all_goals (repeat' split at h2)
  all_goals omega
end Gl
end Go.Proofs.Ytogfnhhgbmnbpaa
/- Glyphs in plain mathematics: the signs of a string, the bytes of a row of signs. -/
namespace Go.Proofs.Ytogfnhhgbmnbpaa
open Go.RowKit Go.PlainAid
namespace Gl
def decF (s : ByteArray) : Nat → Nat → List Int
  | 0, _ => []
  | f + 1, p => if p < s.size then decR s p :: decF s f (p + decN s p) else []
theorem decF_fuel (s : ByteArray) : ∀ f g p, s.size - p ≤ f → s.size - p ≤ g → decF s f p = decF s g p := by
  intro f
  induction f with
  | zero =>
    intro g p h _
    cases g with
    | zero => rfl
    | succ g => simp only [decF]; rw [if_neg (by omega)]
  | succ f ih =>
    intro g p h h'
    by_cases hp : p < s.size
    · have hd := dec_bounds s p hp
      obtain ⟨g, rfl⟩ : ∃ k, g = k + 1 := ⟨g - 1, by omega⟩
      simp only [decF, if_pos hp]
      rw [ih g (p + decN s p) (by omega) (by omega)]
    · cases g with
      | zero => simp only [decF, if_neg hp]
      | succ g => simp only [decF, if_neg hp]
/-- The signs of s from its byte p on. -/
def decP (s : ByteArray) (p : Nat) : List Int := decF s s.size p
theorem decP_cons (s : ByteArray) (p : Nat) (h : p < s.size) : decP s p = decR s p :: decP s (p + decN s p) := by
  have hd := dec_bounds s p h
  unfold decP
  rw [decF_fuel s s.size (s.size - p - 1 + 1) p (by omega) (by omega)]
  simp only [decF, if_pos h]
  rw [decF_fuel s _ s.size _ (by omega) (by omega)]
theorem decP_end (s : ByteArray) (p : Nat) (h : s.size ≤ p) : decP s p = [] := by
  unfold decP
  rw [decF_fuel s s.size 0 p (by omega) (by omega)]
  rfl
theorem decP_len (s : ByteArray) : ∀ k p, s.size - p ≤ k → (decP s p).length ≤ s.size - p := by
  intro k
  induction k with
  | zero => intro p h; rw [decP_end s p (by omega)]; simp
  | succ k ih =>
    intro p h
    by_cases hp : p < s.size
    · have hd := dec_bounds s p hp
      rw [decP_cons s p hp, List.length_cons]
      have := ih (p + decN s p) (by omega)
      omega
    · rw [decP_end s p (by omega)]; simp
def decL (s : ByteArray) : List Int := decP s 0
theorem decL_len (s : ByteArray) : (decL s).length ≤ s.size := by have := decP_len s _ 0 (Nat.le_refl _); unfold decL; omega
/-- s from its byte p on. -/
def suf (s : ByteArray) (p : Nat) : ByteArray := s.extract p s.size
theorem suf_size (s : ByteArray) (p : Nat) : (suf s p).size = s.size - p := by
  unfold suf; simp [ByteArray.size_extract]
theorem suf_data (s : ByteArray) (p : Nat) : (suf s p).data.toList = s.data.toList.drop p := by
  unfold suf
  rw [ByteArray.data_extract, Array.toList_extract]
  have := size_list s
  simp
  rw [← this]
  exact List.take_of_length_le (by simp)
theorem ext_list (s t : ByteArray) (e : s.data.toList = t.data.toList) : s = t := by
  obtain ⟨⟨l⟩⟩ := s; obtain ⟨⟨m⟩⟩ := t
  simp at e
  rw [e]
theorem suf_suf (s : ByteArray) (p n : Nat) : (suf s p).extract n (suf s p).size = suf s (p + n) := by
  apply ext_list
  show (suf (suf s p) n).data.toList = _
  rw [suf_data, suf_data, suf_data, List.drop_drop]
theorem suf_zero (s : ByteArray) : suf s 0 = s := by
  apply ext_list; rw [suf_data]; rfl
theorem bt_suf (s : ByteArray) (p k : Nat) : bt (suf s p) k = bt s (p + k) := by
  rw [bt_list, bt_list, suf_data, List.getD_eq_getElem?_getD, List.getD_eq_getElem?_getD, List.getElem?_drop]
theorem ok_suf (s : ByteArray) (p i n : Nat) (hp : p ≤ s.size) : okAt (suf s p) i n ↔ okAt s (p + i) n := by
  unfold okAt
  simp only [bt_suf, suf_size, ← Nat.add_assoc]
  omega
theorem val_suf (s : ByteArray) (p i n : Nat) : valAt (suf s p) i n = valAt s (p + i) n := by
  unfold valAt
  simp only [bt_suf, ← Nat.add_assoc]
/-- A decoding goes by what stands there alone. -/
theorem dec_suf (s : ByteArray) (p i : Nat) (h : p + i < s.size) : decR (suf s p) i = decR s (p + i) ∧ decN (suf s p) i = decN s (p + i) := by
  by_cases hn : ∃ n, okAt s (p + i) n
  · obtain ⟨n, hn⟩ := hn
    have h1 := dec_ok s (p + i) n hn
    have h2 := dec_ok (suf s p) i n ((ok_suf s p i n (by omega)).2 hn)
    rw [h1.1, h1.2, h2.1, h2.2, val_suf]
    exact ⟨rfl, rfl⟩
  · have h1 := dec_bad s (p + i) h (fun n hh => hn ⟨n, hh⟩)
    have h2 := dec_bad (suf s p) i (by rw [suf_size]; omega) (fun n hh => hn ⟨n, (ok_suf s p i n (by omega)).1 hh⟩)
    rw [h1.1, h1.2, h2.1, h2.2]
    exact ⟨rfl, rfl⟩
/-- What the reference's Decode makes of Next: the decoding, whatever Next tells. -/
theorem next_dec (s : ByteArray) (h : 1 ≤ s.size) (hm : moreB s = true) : decR s 0 = 65533 ∧ decN s 0 = 1 :=
  dec_bad s 0 (by omega) (more_not_ok s hm)
theorem dec_i32 (s : ByteArray) (p : Nat) : 0 ≤ decR s p ∧ decR s p ≤ 2147483647 := by
  have := decode_le s p
  unfold decR; omega
end Gl
end Go.Proofs.Ytogfnhhgbmnbpaa
/- Glyphs in plain mathematics: what is put is told again; signs that were encoded are decoded again; what wants more. -/
set_option linter.unusedVariables false
namespace Go.Proofs.Ytogfnhhgbmnbpaa
open Go.RowKit Go.PlainAid
namespace Gl
theorem next_ok (s : ByteArray) (h : 1 ≤ s.size) (hm : moreB s = false) : nextR s = decR s 0 ∧ nextN s = decN s 0 ∧ nextE s = 0 := by
  have hc : ¬ (s.size = 0 ∨ moreB s = true) := by rintro (h' | h'); omega; rw [hm] at h'; cases h'
  unfold nextR nextN nextE
  rw [if_neg hc, if_neg hc, if_neg (by omega), hm]
  exact ⟨rfl, rfl, rfl⟩
theorem next_more (s : ByteArray) (h : 1 ≤ s.size) (hm : moreB s = true) : nextR s = 0 ∧ nextN s = 0 ∧ nextE s = 3 := by
  have hc : s.size = 0 ∨ moreB s = true := .inr hm
  unfold nextR nextN nextE
  rw [if_pos hc, if_pos hc, if_neg (by omega), if_pos hm]
  exact ⟨rfl, rfl, rfl⟩
theorem bt_append (a b : ByteArray) (k : Nat) : bt (a ++ b) k = if k < a.size then bt a k else bt b (k - a.size) := by
  rw [bt_list, bt_list, bt_list]
  have hl := size_list a
  have e : (a ++ b).data.toList = a.data.toList ++ b.data.toList := by rw [ByteArray.data_append]; simp
  rw [e, List.getD_eq_getElem?_getD, List.getD_eq_getElem?_getD, List.getD_eq_getElem?_getD]
  by_cases h : k < a.size
  · rw [if_pos h, List.getElem?_append_left (by omega)]
  · rw [if_neg h, List.getElem?_append_right (by omega), hl]
theorem ok_put (r : Int) (hv : vld r = true) (s : ByteArray) : okAt (putS r ++ s) 0 (putS r).size ∧ valAt (putS r ++ s) 0 (putS r).size = r :=
  ok_of_put (putS r ++ s) 0 r hv (by rw [ByteArray.size_append]; omega) (fun k hk => by rw [Nat.zero_add, bt_append, if_pos hk])
theorem next_put (r : Int) (hv : vld r = true) (s : ByteArray) : nextR (putS r ++ s) = r ∧ nextN (putS r ++ s) = (putS r).size ∧ nextE (putS r ++ s) = 0 := by
  obtain ⟨h1, h2⟩ := ok_put r hv s
  obtain ⟨d1, d2⟩ := dec_ok _ _ _ h1
  have hm : moreB (putS r ++ s) = false := by
    rw [Bool.eq_false_iff]; exact fun h => more_not_ok _ h _ h1
  have hz := put_size r hv
  obtain ⟨n1, n2, n3⟩ := next_ok (putS r ++ s) (by rw [ByteArray.size_append]; omega) hm
  rw [n1, n2, n3, d1, d2, h2]
  exact ⟨rfl, rfl, rfl⟩
theorem need_of_ok (s : ByteArray) (n : Nat) (h : okAt s 0 n) : need (bt s 0) = n := by
  unfold need
  rcases h with h | h | h | h
  all_goals (repeat' split)
  all_goals omega
theorem more_pre (t : ByteArray) (n i : Nat) (h : okAt t 0 n) (hn : n = t.size) (h1 : 1 ≤ i) (hi : i < n) : moreB (pre t i) = true := by
  have hk := need_of_ok t n h
  have hz := pre_size t i (by omega)
  unfold moreB
  rw [decide_eq_true_iff, hz, bt_pre t i 0 (by omega) (by omega), hk]
  refine ⟨h1, by omega, fun h2 => ?_, fun h3 => ?_⟩
  · rw [bt_pre t i 1 (by omega) (by omega)]
    unfold okAt at h; simp only [Nat.zero_add] at h; have := lo1_hi1 (bt t 0); omega
  · rw [bt_pre t i 2 (by omega) (by omega)]
    unfold okAt at h; simp only [Nat.zero_add] at h; omega
/-- Each beginning of a sign's bytes wants more. -/
theorem put_more (r : Int) (hv : vld r = true) (i : Nat) (h1 : 1 ≤ i) (hi : i < (putS r).size) : nextE (pre (putS r) i) = 3 := by
  have h := (ok_put r hv ⟨#[]⟩).1
  have e : putS r ++ ⟨#[]⟩ = putS r := by
    apply ext_list; rw [ByteArray.data_append]; simp
  rw [e] at h
  exact (next_more _ (by rw [pre_size _ _ (by omega)]; exact h1) (more_pre _ _ i h rfl h1 hi)).2.2
/-- A number that is no sign is as Bad. -/
def fixI (r : Int) : Int := if vld r then r else 65533
theorem vld_fix (r : Int) : vld (fixI r) = true := by
  unfold fixI
  split
  · assumption
  · decide
theorem enc_fix (r : Int) : Utf8.encode r = putS (fixI r) := by
  unfold fixI
  split
  · rename_i h; unfold putS; rw [if_pos h]
  · rename_i h
    unfold putS
    rw [if_pos (by decide)]
    unfold Utf8.encode
    rw [vld_eq, show vld r = false from by simpa using h, show Utf8.valid 65533 = true from by decide]
    simp [Utf8.runeError]
theorem decP_suf (s : ByteArray) (p : Nat) (hp : p ≤ s.size) : ∀ k i, s.size - (p + i) ≤ k → decP (suf s p) i = decP s (p + i) := by
  intro k
  induction k with
  | zero => intro i h; rw [decP_end s _ (by omega), decP_end _ _ (by rw [suf_size]; omega)]
  | succ k ih =>
    intro i h
    by_cases hi : p + i < s.size
    · have hd := dec_bounds s (p + i) hi
      rw [decP_cons s _ hi, decP_cons (suf s p) i (by rw [suf_size]; omega), (dec_suf s p i hi).1, (dec_suf s p i hi).2, ih _ (by omega), Nat.add_assoc]
    · rw [decP_end s _ (by omega), decP_end _ _ (by rw [suf_size]; omega)]
theorem suf_append (a b : ByteArray) : suf (a ++ b) a.size = b := by
  apply ext_list
  rw [suf_data, ByteArray.data_append, ← size_list]
  simp
theorem decL_put (r : Int) (hv : vld r = true) (u : ByteArray) : decL (putS r ++ u) = r :: decL u := by
  obtain ⟨h1, h2⟩ := ok_put r hv u
  obtain ⟨d1, d2⟩ := dec_ok _ _ _ h1
  have hz := put_size r hv
  have hs : (putS r ++ u).size = (putS r).size + u.size := ByteArray.size_append ..
  unfold decL
  rw [decP_cons _ 0 (by omega), d1, d2, h2, Nat.zero_add]
  have := decP_suf (putS r ++ u) (putS r).size (by omega) _ 0 (Nat.le_refl _)
  rw [suf_append, Nat.add_zero] at this
  rw [this]
theorem runes_cons (x : Int) (l : List Int) : runesBytes (x :: l) = Utf8.encode x ++ runesBytes l := by
  have gen : ∀ (l : List Int) (a : ByteArray), l.foldl (fun r n => r ++ Utf8.encode n) a = a ++ runesBytes l := by
    intro l
    induction l with
    | nil => intro a; apply ext_list; simp [runesBytes]
    | cons y l ih =>
      intro a
      have e1 : runesBytes (y :: l) = l.foldl (fun r n => r ++ Utf8.encode n) (ByteArray.empty ++ Utf8.encode y) := rfl
      rw [e1, List.foldl_cons, ih, ih]
      apply ext_list
      simp [ByteArray.data_append]
  have e1 : runesBytes (x :: l) = l.foldl (fun r n => r ++ Utf8.encode n) (ByteArray.empty ++ Utf8.encode x) := rfl
  rw [e1, gen]
  apply ext_list
  simp [ByteArray.data_append]
/-- Signs that were encoded are decoded again, whatever stands behind them. -/
theorem dec_enc (l : List Int) (s : ByteArray) : decL (runesBytes l ++ s) = l.map fixI ++ decL s := by
  induction l with
  | nil =>
    have e : runesBytes [] ++ s = s := by apply ext_list; simp [runesBytes]
    rw [e]; rfl
  | cons x l ih =>
    have e : runesBytes (x :: l) ++ s = putS (fixI x) ++ (runesBytes l ++ s) := by
      rw [runes_cons, enc_fix]
      apply ext_list
      simp [ByteArray.data_append]
    rw [e, decL_put _ (vld_fix x), ih]
    rfl
theorem vld_dec (s : ByteArray) (p : Nat) (h : p < s.size) : vld (decR s p) = true := by
  by_cases hn : ∃ n, okAt s p n
  · obtain ⟨n, hn⟩ := hn
    rw [(dec_ok s p n hn).1]
    exact (put_of_ok s p n hn).1
  · rw [(dec_bad s p h (fun n hh => hn ⟨n, hh⟩)).1]; decide
theorem vld_decP (s : ByteArray) : ∀ k p, s.size - p ≤ k → ∀ x ∈ decP s p, vld x = true := by
  intro k
  induction k with
  | zero => intro p h x hx; rw [decP_end s p (by omega)] at hx; cases hx
  | succ k ih =>
    intro p h x hx
    by_cases hp : p < s.size
    · have hd := dec_bounds s p hp
      rw [decP_cons s p hp] at hx
      rcases List.mem_cons.1 hx with rfl | hx
      · exact vld_dec s p hp
      · exact ih _ (by omega) x hx
    · rw [decP_end s p (by omega)] at hx; cases hx
theorem vld_decL (s : ByteArray) : ∀ x ∈ decL s, vld x = true := vld_decP s _ 0 (Nat.le_refl _)
theorem more_parts (s : ByteArray) (h : moreB s = true) : 1 ≤ s.size ∧ s.size ≤ 3 ∧ 194 ≤ bt s 0 ∧ (s.size : Int) < need (bt s 0) ∧ (2 ≤ s.size → 128 ≤ bt s 1 ∧ bt s 1 ≤ 191) ∧ (3 ≤ s.size → 128 ≤ bt s 2 ∧ bt s 2 ≤ 191) := by
  unfold moreB at h
  rw [decide_eq_true_iff] at h
  obtain ⟨h1, h2, h3, h4⟩ := h
  have hl := lo1_hi1 (bt s 0)
  have hk : need (bt s 0) ≤ 4 ∧ (bt s 0 < 194 → need (bt s 0) = 1) := by
    unfold need
    repeat' split
    all_goals omega
  exact ⟨h1, by omega, by omega, h2, fun h => by have := h3 h; omega, h4⟩
/-- Each byte of what wants more is Bad by itself. -/
theorem more_bad (s : ByteArray) (h : moreB s = true) : decL s = List.replicate s.size 65533 := by
  obtain ⟨h1, h3, h4, h5, h6, h7⟩ := more_parts s h
  have hb : ∀ p, p < s.size → decR s p = 65533 ∧ decN s p = 1 := fun p hp => by
    refine dec_bad s p hp (fun n ho => ?_)
    rcases (show p = 0 ∨ p = 1 ∨ p = 2 by omega) with rfl | rfl | rfl
    · exact more_not_ok s h n ho
    · have := h6 (by omega); unfold okAt at ho; omega
    · have := h7 (by omega); unfold okAt at ho; omega
  have gen : ∀ k p, p + k = s.size → decP s p = List.replicate k 65533 := by
    intro k
    induction k with
    | zero => intro p hp; rw [decP_end s p (by omega)]; rfl
    | succ k ih =>
      intro p hp
      rw [decP_cons s p (by omega), (hb p (by omega)).1, (hb p (by omega)).2, ih (p + 1) (by omega)]
      rfl
  exact gen s.size 0 (by omega)
/-- One byte more makes what wants more a sign, or a longer beginning, or spoils it. -/
theorem more_one (s : ByteArray) (h : moreB s = true) (c : UInt8) : nextE (s ++ ⟨#[c]⟩) = 3 ∨ (nextE (s ++ ⟨#[c]⟩) = 0 ∧ nextN (s ++ ⟨#[c]⟩) = s.size + 1 ∧ vld (nextR (s ++ ⟨#[c]⟩)) = true) ∨
    (nextE (s ++ ⟨#[c]⟩) = 0 ∧ nextN (s ++ ⟨#[c]⟩) = 1 ∧ nextR (s ++ ⟨#[c]⟩) = 65533) := by
  obtain ⟨h1, h3, h4, h5, h6, h7⟩ := more_parts s h
  have hz : (s ++ ⟨#[c]⟩).size = s.size + 1 := by rw [ByteArray.size_append]; rfl
  have h0 : bt (s ++ ⟨#[c]⟩) 0 = bt s 0 := by rw [bt_append, if_pos (by omega)]
  generalize s ++ ⟨#[c]⟩ = t at hz h0 ⊢
  cases hm : moreB t
  · obtain ⟨n1, n2, n3⟩ := next_ok t (by omega) hm
    rw [n1, n2, n3]
    by_cases hn : ∃ n, okAt t 0 n
    · obtain ⟨n, hn⟩ := hn
      have hk := need_of_ok t n hn
      obtain ⟨d1, d2⟩ := dec_ok t 0 n hn
      have hle : n ≤ t.size := by unfold okAt at hn; omega
      rw [h0] at hk
      rw [d1, d2]
      exact .inr (.inl ⟨rfl, by omega, (put_of_ok t 0 n hn).1⟩)
    · obtain ⟨d1, d2⟩ := dec_bad t 0 (by omega) (fun n hh => hn ⟨n, hh⟩)
      rw [d1, d2]
      exact .inr (.inr ⟨rfl, rfl, rfl⟩)
  · exact .inl (next_more t (by omega) hm).2.2
end Gl
end Go.Proofs.Ytogfnhhgbmnbpaa
