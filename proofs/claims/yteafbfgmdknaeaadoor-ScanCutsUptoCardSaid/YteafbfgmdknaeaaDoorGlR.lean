/- Glyphs in plain mathematics: what Next tells; a string as its bytes. -/
import Derived.Test.YteafbfgmdknaeaaDoorGlQ
import Derived.Lib.DecodeN
namespace Go.Proofs.YteafbfgmdknaeaaDoor
open Go.RowKit Go.PlainAid
namespace Gl
def decR (s : ByteArray) (i : Nat) : Int := ((Utf8.decode s i).1 : Int)
def decN (s : ByteArray) (i : Nat) : Nat := (Utf8.decode s i).2
theorem dec_bounds (s : ByteArray) (i : Nat) (h : i < s.size) : 1 ≤ decN s i ∧ i + decN s i ≤ s.size := by
  unfold decN Utf8.decode
  simp only
  repeat' split
  all_goals simp_all
  all_goals omega
theorem run_next_dec {P : Program} (w : World) (s : ByteArray) (pos : Nat) (ty : TypeId) (h : pos < s.size) :
    (Instr.next (.pointer (some ⟨w.heap.size, 0, none⟩)) true ty).run P (w.iter s pos) =
      .ok (.tuple #[.bool true, .int .i64 pos, .int .i32 (decR s pos)]) (w.iter s (pos + decN s pos)) := run_next_any w s pos ty h
def nextR (s : ByteArray) : Int := if s.size = 0 ∨ moreB s then 0 else decR s 0
def nextN (s : ByteArray) : Nat := if s.size = 0 ∨ moreB s then 0 else decN s 0
def nextE (s : ByteArray) : Int := if s.size = 0 then 6 else if moreB s then 3 else 0

theorem size_list (s : ByteArray) : s.data.toList.length = s.size := Array.length_toList
theorem ne_empty (s : ByteArray) (h : 1 ≤ s.size) : s.toList.isEmpty = false := by
  rw [ByteArray.toList_eq]
  have := size_list s
  cases hl : s.data.toList with
  | nil => rw [hl] at this; simp at this; omega
  | cons => rfl
theorem of_size_zero (s : ByteArray) (h : s.size = 0) : s = ⟨#[]⟩ := by
  obtain ⟨⟨l⟩⟩ := s
  cases l with
  | nil => rfl
  | cons => exact absurd h (by simp [ByteArray.size])
theorem str_eq_of_toList (a b : ByteArray) : (a.toList == b.toList) = decide (a = b) := by
  rw [ByteArray.toList_eq, ByteArray.toList_eq, Bool.eq_iff_iff, beq_iff_eq, decide_eq_true_iff]
  constructor
  · intro h
    obtain ⟨⟨l⟩⟩ := a; obtain ⟨⟨m⟩⟩ := b
    simp at h
    rw [h]
  · rintro rfl; rfl
theorem bt_toNat (s : ByteArray) (k : Nat) (h : k < s.size) : (s.data.toList.getD k 0).toNat = (bt s k).toNat := by
  unfold bt
  rw [dif_pos h]
  have : s.data.toList.getD k 0 = s[k] := by
    rw [List.getD, List.getElem?_eq_getElem (by rw [size_list]; exact h)]
    rfl
  rw [this]; rfl
/-- Two strings of one length and the same bytes are one. -/
theorem ext_bt (s t : ByteArray) (h : s.size = t.size) (hb : ∀ k, k < s.size → bt s k = bt t k) : s = t := by
  have e : s.data.toList = t.data.toList := by
    apply List.ext_getElem
    · rw [size_list, size_list, h]
    · intro i h1 h2
      have h1' : i < s.size := by rw [← size_list]; exact h1
      have h2' : i < t.size := by omega
      have := hb i h1'
      unfold bt at this
      rw [dif_pos h1', dif_pos h2'] at this
      have e1 : s.data.toList[i] = s[i] := rfl
      have e2 : t.data.toList[i] = t[i] := rfl
      rw [e1, e2]
      exact UInt8.toNat_inj.1 (by omega)
  obtain ⟨⟨l⟩⟩ := s; obtain ⟨⟨m⟩⟩ := t
  simp at e
  rw [e]
theorem bt_strOf (xs : List Int) (k : Nat) (x : Int) (h : xs[k]? = some x) (h0 : 0 ≤ x ∧ x ≤ 255) : bt (strOfNums xs) k = x := by
  have hk : k < xs.length := by
    rcases Nat.lt_or_ge k xs.length with h' | h'
    · exact h'
    · rw [List.getElem?_eq_none h'] at h; cases h
  have hs : k < (strOfNums xs).size := by rw [strOfNums_size]; exact hk
  unfold bt
  rw [dif_pos hs]
  have e : (strOfNums xs)[k] = UInt8.ofNat x.toNat := by
    have e1 : (strOfNums xs)[k] = (strOfNums xs).data.toList[k]'(by rw [size_list]; exact hs) := rfl
    rw [e1]
    simp only [strOfNums_data, List.getElem_map]
    rw [List.getElem?_eq_getElem hk] at h
    rw [Option.some.inj h]
  rw [e]
  simp
  omega
/-- The bytes of a decoding, as the model reads them. -/
theorem get_bt' (s : ByteArray) (k : Nat) (h : k < s.size) : ((s.get! k).toNat : Int) = bt s k := by
  unfold bt
  rw [dif_pos h]
  have e : s.get! k = s[k] := by
    simp [ByteArray.get!, getElem!_pos, h]
    rfl
  rw [e]
/-- Just n bytes from i on are a sign's. -/
def okAt (s : ByteArray) (i n : Nat) : Prop :=
  (n = 1 ∧ i + 1 ≤ s.size ∧ bt s i < 128) ∨
  (n = 2 ∧ i + 2 ≤ s.size ∧ 194 ≤ bt s i ∧ bt s i < 224 ∧ 128 ≤ bt s (i + 1) ∧ bt s (i + 1) ≤ 191) ∨
  (n = 3 ∧ i + 3 ≤ s.size ∧ 224 ≤ bt s i ∧ bt s i < 240 ∧ lo1 (bt s i) ≤ bt s (i + 1) ∧ bt s (i + 1) ≤ hi1 (bt s i) ∧ 128 ≤ bt s (i + 2) ∧ bt s (i + 2) ≤ 191) ∨
  (n = 4 ∧ i + 4 ≤ s.size ∧ 240 ≤ bt s i ∧ bt s i < 245 ∧ lo1 (bt s i) ≤ bt s (i + 1) ∧ bt s (i + 1) ≤ hi1 (bt s i) ∧ 128 ≤ bt s (i + 2) ∧ bt s (i + 2) ≤ 191 ∧ 128 ≤ bt s (i + 3) ∧ bt s (i + 3) ≤ 191)
/-- The number that n bytes from i on make. -/
def valAt (s : ByteArray) (i n : Nat) : Int :=
  if n = 1 then bt s i else if n = 2 then (bt s i - 192) * 64 + (bt s (i + 1) - 128)
  else if n = 3 then ((bt s i - 224) * 64 + (bt s (i + 1) - 128)) * 64 + (bt s (i + 2) - 128)
  else (((bt s i - 240) * 64 + (bt s (i + 1) - 128)) * 64 + (bt s (i + 2) - 128)) * 64 + (bt s (i + 3) - 128)
end Gl
end Go.Proofs.YteafbfgmdknaeaaDoor
