/- Glyphs in plain mathematics: which numbers are signs, their bytes. -/
import Derived.Test.YteafbfgmdknaeaaDoorLibA
namespace Go.Proofs.YteafbfgmdknaeaaDoor
open Go.RowKit
namespace Gl

def vld (r : Int) : Bool := decide (0 ≤ r ∧ r ≤ 1114111 ∧ (r < 55296 ∨ 57343 < r))
theorem vld_eq (r : Int) : Utf8.valid r = vld r := by
  rw [validRune_eq]; unfold validRune vld; rw [decide_eq_decide]; omega
theorem vld_iff (r : Int) : vld r = true ↔ 0 ≤ r ∧ r ≤ 1114111 ∧ (r < 55296 ∨ 57343 < r) := by simp [vld]
def putS (r : Int) : ByteArray := if vld r then Utf8.encode r else ⟨#[]⟩
def putE (r : Int) : Int := if vld r then 0 else 1

theorem put1 (r : Int) (h0 : 0 ≤ r) (h : r ≤ 127) (hv : vld r = true) : strOfNums [r] = putS r := by
  obtain ⟨n, rfl⟩ := Int.eq_ofNat_of_zero_le h0
  have hv' : Utf8.valid (n : Int) = true := by rw [vld_eq]; exact hv
  unfold putS
  rw [if_pos hv]
  unfold Utf8.encode
  simp only [hv', if_true, Int.toNat_natCast]
  rw [if_pos (by omega)]
  rfl
theorem put2 (r : Int) (h0 : 0 ≤ r) (h : 128 ≤ r) (h2 : r ≤ 2047) (hv : vld r = true) : strOfNums [192 + r / 64, 128 + r % 64] = putS r := by
  obtain ⟨n, rfl⟩ := Int.eq_ofNat_of_zero_le h0
  have hv' : Utf8.valid (n : Int) = true := by rw [vld_eq]; exact hv
  unfold putS
  rw [if_pos hv]
  unfold Utf8.encode
  simp only [hv', if_true, Int.toNat_natCast]
  rw [if_neg (by omega), if_pos (by omega)]
  show (⟨#[UInt8.ofNat (192 + (n : Int) / 64).toNat, UInt8.ofNat (128 + (n : Int) % 64).toNat]⟩ : ByteArray) = _
  rw [show (192 + (n : Int) / 64).toNat = 0xC0 + n / 64 by omega, show (128 + (n : Int) % 64).toNat = 0x80 + n % 64 by omega]
theorem put3 (r : Int) (h0 : 0 ≤ r) (h : 2048 ≤ r) (h2 : r ≤ 65535) (hv : vld r = true) : strOfNums [224 + r / 4096, 128 + r / 64 % 64, 128 + r % 64] = putS r := by
  obtain ⟨n, rfl⟩ := Int.eq_ofNat_of_zero_le h0
  have hv' : Utf8.valid (n : Int) = true := by rw [vld_eq]; exact hv
  unfold putS
  rw [if_pos hv]
  unfold Utf8.encode
  simp only [hv', if_true, Int.toNat_natCast]
  rw [if_neg (by omega), if_neg (by omega), if_pos (by omega)]
  show (⟨#[UInt8.ofNat (224 + (n : Int) / 4096).toNat, UInt8.ofNat (128 + (n : Int) / 64 % 64).toNat, UInt8.ofNat (128 + (n : Int) % 64).toNat]⟩ : ByteArray) = _
  rw [show (224 + (n : Int) / 4096).toNat = 0xE0 + n / 4096 by omega, show (128 + (n : Int) / 64 % 64).toNat = 0x80 + n / 64 % 64 by omega, show (128 + (n : Int) % 64).toNat = 0x80 + n % 64 by omega]
theorem put4 (r : Int) (h0 : 0 ≤ r) (h : 65536 ≤ r) (hv : vld r = true) : strOfNums [240 + r / 262144, 128 + r / 4096 % 64, 128 + r / 64 % 64, 128 + r % 64] = putS r := by
  obtain ⟨n, rfl⟩ := Int.eq_ofNat_of_zero_le h0
  have hv' : Utf8.valid (n : Int) = true := by rw [vld_eq]; exact hv
  unfold putS
  rw [if_pos hv]
  unfold Utf8.encode
  simp only [hv', if_true, Int.toNat_natCast]
  rw [if_neg (by omega), if_neg (by omega), if_neg (by omega)]
  show (⟨#[UInt8.ofNat (240 + (n : Int) / 262144).toNat, UInt8.ofNat (128 + (n : Int) / 4096 % 64).toNat, UInt8.ofNat (128 + (n : Int) / 64 % 64).toNat, UInt8.ofNat (128 + (n : Int) % 64).toNat]⟩ : ByteArray) = _
  rw [show (240 + (n : Int) / 262144).toNat = 0xF0 + n / 262144 by omega, show (128 + (n : Int) / 4096 % 64).toNat = 0x80 + n / 4096 % 64 by omega, show (128 + (n : Int) / 64 % 64).toNat = 0x80 + n / 64 % 64 by omega, show (128 + (n : Int) % 64).toNat = 0x80 + n % 64 by omega]
end Gl
end Go.Proofs.YteafbfgmdknaeaaDoor
