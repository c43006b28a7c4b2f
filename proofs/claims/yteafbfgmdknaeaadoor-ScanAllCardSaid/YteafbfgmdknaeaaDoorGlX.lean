/- Glyphs in plain mathematics: the signs of a string, the bytes of a row of signs. -/
import Derived.Test.YteafbfgmdknaeaaDoorGlW
import Derived.Test.YteafbfgmdknaeaaDoorLibB
namespace Go.Proofs.YteafbfgmdknaeaaDoor
open Go.RowKit Go.PlainAid
namespace Gl
def decF (s : ByteArray) : Nat → Nat → List Int
  | 0, _ => []
  | f + 1, p => if p < s.size then decR s p :: decF s f (p + decN s p) else []
theorem decF_fuel (s : ByteArray) : ∀ f g p, s.size - p ≤ f → s.size - p ≤ g → decF s f p = decF s g p := by
  intro f
  induction f with
  | zero =>
    intro g p h _
    cases g with
    | zero => rfl
    | succ g => simp only [decF]; rw [if_neg (by omega)]
  | succ f ih =>
    intro g p h h'
    by_cases hp : p < s.size
    · have hd := dec_bounds s p hp
      obtain ⟨g, rfl⟩ : ∃ k, g = k + 1 := ⟨g - 1, by omega⟩
      simp only [decF, if_pos hp]
      rw [ih g (p + decN s p) (by omega) (by omega)]
    · cases g with
      | zero => simp only [decF, if_neg hp]
      | succ g => simp only [decF, if_neg hp]
/-- The signs of s from its byte p on. -/
def decP (s : ByteArray) (p : Nat) : List Int := decF s s.size p
theorem decP_cons (s : ByteArray) (p : Nat) (h : p < s.size) : decP s p = decR s p :: decP s (p + decN s p) := by
  have hd := dec_bounds s p h
  unfold decP
  rw [decF_fuel s s.size (s.size - p - 1 + 1) p (by omega) (by omega)]
  simp only [decF, if_pos h]
  rw [decF_fuel s _ s.size _ (by omega) (by omega)]
theorem decP_end (s : ByteArray) (p : Nat) (h : s.size ≤ p) : decP s p = [] := by
  unfold decP
  rw [decF_fuel s s.size 0 p (by omega) (by omega)]
  rfl
theorem decP_len (s : ByteArray) : ∀ k p, s.size - p ≤ k → (decP s p).length ≤ s.size - p := by
  intro k
  induction k with
  | zero => intro p h; rw [decP_end s p (by omega)]; simp
  | succ k ih =>
    intro p h
    by_cases hp : p < s.size
    · have hd := dec_bounds s p hp
      rw [decP_cons s p hp, List.length_cons]
      have := ih (p + decN s p) (by omega)
      omega
    · rw [decP_end s p (by omega)]; simp
def decL (s : ByteArray) : List Int := decP s 0
theorem decL_len (s : ByteArray) : (decL s).length ≤ s.size := by have := decP_len s _ 0 (Nat.le_refl _); unfold decL; omega
/-- s from its byte p on. -/
def suf (s : ByteArray) (p : Nat) : ByteArray := s.extract p s.size
theorem suf_size (s : ByteArray) (p : Nat) : (suf s p).size = s.size - p := by
  unfold suf; simp [ByteArray.size_extract]
theorem suf_data (s : ByteArray) (p : Nat) : (suf s p).data.toList = s.data.toList.drop p := by
  unfold suf
  rw [ByteArray.data_extract, Array.toList_extract]
  have := size_list s
  simp
  rw [← this]
  exact List.take_of_length_le (by simp)
theorem ext_list (s t : ByteArray) (e : s.data.toList = t.data.toList) : s = t := by
  obtain ⟨⟨l⟩⟩ := s; obtain ⟨⟨m⟩⟩ := t
  simp at e
  rw [e]
theorem suf_suf (s : ByteArray) (p n : Nat) : (suf s p).extract n (suf s p).size = suf s (p + n) := by
  apply ext_list
  show (suf (suf s p) n).data.toList = _
  rw [suf_data, suf_data, suf_data, List.drop_drop]
theorem suf_zero (s : ByteArray) : suf s 0 = s := by
  apply ext_list; rw [suf_data]; rfl
theorem bt_suf (s : ByteArray) (p k : Nat) : bt (suf s p) k = bt s (p + k) := by
  rw [bt_list, bt_list, suf_data, List.getD_eq_getElem?_getD, List.getD_eq_getElem?_getD, List.getElem?_drop]
theorem ok_suf (s : ByteArray) (p i n : Nat) (hp : p ≤ s.size) : okAt (suf s p) i n ↔ okAt s (p + i) n := by
  unfold okAt
  simp only [bt_suf, suf_size, ← Nat.add_assoc]
  omega
theorem val_suf (s : ByteArray) (p i n : Nat) : valAt (suf s p) i n = valAt s (p + i) n := by
  unfold valAt
  simp only [bt_suf, ← Nat.add_assoc]
/-- A decoding goes by what stands there alone. -/
theorem dec_suf (s : ByteArray) (p i : Nat) (h : p + i < s.size) : decR (suf s p) i = decR s (p + i) ∧ decN (suf s p) i = decN s (p + i) := by
  by_cases hn : ∃ n, okAt s (p + i) n
  · obtain ⟨n, hn⟩ := hn
    have h1 := dec_ok s (p + i) n hn
    have h2 := dec_ok (suf s p) i n ((ok_suf s p i n (by omega)).2 hn)
    rw [h1.1, h1.2, h2.1, h2.2, val_suf]
    exact ⟨rfl, rfl⟩
  · have h1 := dec_bad s (p + i) h (fun n hh => hn ⟨n, hh⟩)
    have h2 := dec_bad (suf s p) i (by rw [suf_size]; omega) (fun n hh => hn ⟨n, (ok_suf s p i n (by omega)).1 hh⟩)
    rw [h1.1, h1.2, h2.1, h2.2]
    exact ⟨rfl, rfl⟩
/-- What the reference's Decode makes of Next: the decoding, whatever Next tells. -/
theorem next_dec (s : ByteArray) (h : 1 ≤ s.size) (hm : moreB s = true) : decR s 0 = 65533 ∧ decN s 0 = 1 :=
  dec_bad s 0 (by omega) (more_not_ok s hm)
theorem dec_i32 (s : ByteArray) (p : Nat) : 0 ≤ decR s p ∧ decR s p ≤ 2147483647 := by
  have := decode_le s p
  unfold decR; omega
end Gl
end Go.Proofs.YteafbfgmdknaeaaDoor
