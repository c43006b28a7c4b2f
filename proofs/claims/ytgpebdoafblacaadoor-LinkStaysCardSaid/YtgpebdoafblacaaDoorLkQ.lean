/- Links: what is sent a byte more; bytes as numbers. -/
import Derived.Test.YtgpebdoafblacaaDoorLkP
set_option linter.unusedVariables false
namespace Go.Proofs.YtgpebdoafblacaaDoor
open Go.RowKit Go.PlainAid Gl L Vt
namespace Lk
theorem sd_snoc (n : Nat) (k k1 : Lnk) (bs : ByteArray) (c : Cmd) (t : List Cmd) (h : sdN n k = (bs, k1)) (hl : k1.l = c :: t) (hp : k1.pad = 0) : sdN (n + 1) k = (bs ++ by1 k1 c, one k1 c t) := by
  rw [sd_add, h]
  show (bs ++ (sdN (0 + 1) k1).1, (sdN (0 + 1) k1).2) = _
  rw [sd_one 0 k1 c t hl hp, show sdN 0 (one k1 c t) = (⟨#[]⟩, one k1 c t) from rfl]
  show (bs ++ (by1 k1 c ++ ⟨#[]⟩), _) = _
  rw [app_nil]
theorem sd_stop (n m : Nat) (k k1 : Lnk) (bs : ByteArray) (h : sdN n k = (bs, k1)) (hn : n ≤ m) (hs : k1.l = [] ∨ k1.pad ≠ 0) : sdN m k = (bs, k1) := by
  obtain ⟨d, rfl⟩ : ∃ d, m = n + d := ⟨m - n, by omega⟩
  rw [sd_add, h]
  show (bs ++ (sdN d k1).1, (sdN d k1).2) = _
  have : sdN d k1 = (⟨#[]⟩, k1) := by
    rcases hs with hs | hs
    · exact sd_nil _ _ hs
    · exact sd_pad _ _ hs
  rw [this, app_nil]
theorem strOf_size (xs : List Int) : (strOfNums xs).size = xs.length := by
  show (strOfNums xs).data.size = _
  rw [← Array.length_toList]
  simp [strOfNums]
theorem by1_str (k : Lnk) (c : Cmd) (xs : List Int) (h : k.sent.toNat < szC c) : strOfNums (xs ++ [bt (btC c) k.sent.toNat]) = strOfNums xs ++ by1 k c := by
  have hz : (by1 k c).size = 1 := by
    have : szC c = (btC c).size := rfl
    unfold by1
    rw [ByteArray.size_extract]; omega
  have h1 : szC c = (btC c).size := rfl
  apply ext_list
  rw [ByteArray.data_append, Array.toList_append]
  have e1 : (strOfNums (xs ++ [bt (btC c) k.sent.toNat])).data.toList = (strOfNums xs).data.toList ++ (strOfNums [bt (btC c) k.sent.toNat]).data.toList := by simp [strOfNums]
  rw [e1]
  congr 1
  have : strOfNums [bt (btC c) k.sent.toNat] = by1 k c := by
    refine ext_bt _ _ (by rw [hz, strOf_size]; rfl) fun i hi => ?_
    rw [strOf_size] at hi
    obtain rfl : i = 0 := by simp at hi; omega
    rw [bt_strOf [bt (btC c) k.sent.toNat] 0 _ rfl ⟨bt_nonneg _ _, bt_le _ _⟩]
    unfold by1
    rw [bt_ex _ _ _ 0 (by omega) (by omega)]
    rfl
  rw [this]
/-- The program's place within a command: behind its last byte the next one begins. -/
def fin (k : Lnk) (c : Cmd) (t : List Cmd) : Lnk := if k.sent = (szC c : Int) then { k with l := t, sent := 0, pad := pdC c } else k
theorem fin_no {k : Lnk} {c : Cmd} {t : List Cmd} (h : k.sent ≠ (szC c : Int)) : fin k c t = k := if_neg h
theorem fin_yes {k : Lnk} {c : Cmd} {t : List Cmd} (h : k.sent = (szC c : Int)) : fin k c t = { k with l := t, sent := 0, pad := pdC c } := if_pos h
theorem one_fin (k : Lnk) (c : Cmd) (t : List Cmd) : one k c t = fin { k with sent := k.sent + 1 } c t := rfl
theorem sd_fin (n : Nat) (k k1 : Lnk) (bs : ByteArray) (c : Cmd) (t : List Cmd) (h : sdN n k = (bs, fin k1 c t)) (hl : k1.l = c :: t) (hp : k1.pad = 0) (hs : k1.sent < (szC c : Int)) : sdN (n + 1) k = (bs ++ by1 k1 c, fin { k1 with sent := k1.sent + 1 } c t) := by
  rw [fin_no (by omega)] at h
  rw [sd_snoc n k k1 bs c t h hl hp, one_fin]
end Lk
end Go.Proofs.YtgpebdoafblacaaDoor
