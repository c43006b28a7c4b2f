/- Links in plain mathematics: which are right, their rest, what is sent, offered and dropped. -/
import Derived.Test.YtgpebdoafblacaaDoorMVq
set_option linter.unusedVariables false
namespace Go.Proofs.YtgpebdoafblacaaDoor
open Go.RowKit Go.PlainAid Gl L Vt
namespace Lk
theorem sufa (x y : ByteArray) (n : Nat) (h : n ≤ x.size) : suf (x ++ y) n = suf x n ++ y := by
  apply ext_list
  rw [suf_data, ByteArray.data_append, ByteArray.data_append, Array.toList_append, Array.toList_append, suf_data, List.drop_append_of_le_length (by rw [size_list]; exact h)]
/-- A link: room, commands, how many bytes of the first one were sent, ticks to wait, and whether it is held. -/
structure Lnk where
  room : Int
  l : List Cmd
  sent : Int
  pad : Int
  off : Bool
deriving DecidableEq
def lnk0 : Lnk := ⟨0, [], 0, 0, false⟩
/-- Is it right? -/
def rt (k : Lnk) : Prop := 8 ≤ k.room ∧ k.room ≤ 48 ∧ 0 ≤ k.pad ∧ k.pad ≤ 2 ∧ 0 ≤ k.sent ∧ (∀ c ∈ k.l, isR c = true) ∧ (k.l = [] → k.sent = 0) ∧ (∀ c t, k.l = c :: t → k.sent < (szC c : Int)) ∧ (costL k.l : Int) - k.sent ≤ k.room
theorem rt_cons {k : Lnk} {c : Cmd} {t : List Cmd} (h : k.l = c :: t) : rt k ↔ 8 ≤ k.room ∧ k.room ≤ 48 ∧ 0 ≤ k.pad ∧ k.pad ≤ 2 ∧ 0 ≤ k.sent ∧ (∀ c ∈ k.l, isR c = true) ∧ k.sent < (szC c : Int) ∧ (costL k.l : Int) - k.sent ≤ k.room := by
  unfold rt
  constructor
  · rintro ⟨h1, h2, h3, h4, h5, h6, _, h8, h9⟩; exact ⟨h1, h2, h3, h4, h5, h6, h8 c t h, h9⟩
  · rintro ⟨h1, h2, h3, h4, h5, h6, h8, h9⟩
    refine ⟨h1, h2, h3, h4, h5, h6, fun e => ?_, fun c' t' e => ?_, h9⟩
    · rw [h] at e; cases e
    · rw [h] at e; cases e; exact h8
theorem rt_nil {k : Lnk} (h : k.l = []) : rt k ↔ 8 ≤ k.room ∧ k.room ≤ 48 ∧ 0 ≤ k.pad ∧ k.pad ≤ 2 ∧ k.sent = 0 := by
  unfold rt
  constructor
  · rintro ⟨h1, h2, h3, h4, _, _, h7, _, _⟩; exact ⟨h1, h2, h3, h4, h7 h⟩
  · rintro ⟨h1, h2, h3, h4, h5⟩
    refine ⟨h1, h2, h3, h4, by omega, fun c hc => ?_, fun _ => h5, fun c' t' e => ?_, ?_⟩
    · rw [h] at hc; cases hc
    · rw [h] at e; cases e
    · rw [h, show costL [] = 0 from rfl]; omega
instance (k : Lnk) : Decidable (rt k) :=
  match h : k.l with
  | [] => decidable_of_iff _ (rt_nil h).symm
  | c :: t => decidable_of_iff _ (rt_cons h).symm
theorem rt_go {k : Lnk} (h : rt k) : ∀ c ∈ k.l, isR c = true := h.2.2.2.2.2.1
theorem szC_one (c : Cmd) (h : isR c = true) : 1 ≤ szC c := btC_one c h
theorem szC_le (c : Cmd) : szC c ≤ 8 := btC_size c
theorem costL_cons (c : Cmd) (l : List Cmd) : costL (c :: l) = szC c + costL l := rfl
theorem costL_len (l : List Cmd) (h : ∀ c ∈ l, isR c = true) : l.length ≤ costL l := by
  induction l with
  | nil => exact Nat.le_refl _
  | cons c l ih =>
    have h1 := szC_one c (h c (List.mem_cons_self ..))
    have h2 := ih fun d hd => h d (List.mem_cons_of_mem _ hd)
    rw [costL_cons, List.length_cons]; omega
/-- A right link has few commands. -/
theorem rt_len {k : Lnk} (h : rt k) : k.l.length ≤ 55 := by
  have h1 := costL_len k.l (rt_go h)
  cases hk : k.l with
  | nil => exact Nat.zero_le _
  | cons c t =>
    have h2 := (rt_cons hk).1 h
    have := szC_le c
    rw [hk] at h1 h2; omega
theorem rt_sent {k : Lnk} (h : rt k) : 0 ≤ k.sent ∧ k.sent ≤ 7 ∧ k.sent ≤ costL k.l := by
  cases hk : k.l with
  | nil => have := (rt_nil hk).1 h; omega
  | cons c t =>
    have h2 := (rt_cons hk).1 h
    have := szC_le c
    rw [costL_cons]; omega
/-- The rest. -/
def rs (k : Lnk) : ByteArray := if rt k then suf (btsL k.l) k.sent.toNat else ⟨#[]⟩
theorem rs_yes {k : Lnk} (h : rt k) : rs k = suf (btsL k.l) k.sent.toNat := if_pos h
theorem rs_no {k : Lnk} (h : ¬ rt k) : rs k = ⟨#[]⟩ := if_neg h
theorem rs_size {k : Lnk} (h : rt k) : ((rs k).size : Int) = costL k.l - k.sent := by
  have := rt_sent h
  rw [rs_yes h, suf_size, btsL_size]; omega
theorem rs_le (k : Lnk) : (rs k).size ≤ 48 := by
  by_cases h : rt k
  · have h1 := rs_size h
    have h2 : (costL k.l : Int) - k.sent ≤ k.room := h.2.2.2.2.2.2.2.2
    have h3 : k.room ≤ 48 := h.2.1
    omega
  · rw [rs_no h]; exact Nat.zero_le _
/-- The first byte of the rest alone is sent. -/
def one (k : Lnk) (c : Cmd) (t : List Cmd) : Lnk := if k.sent + 1 = (szC c : Int) then { k with l := t, sent := 0, pad := pdC c } else { k with sent := k.sent + 1 }
/-- That byte. -/
def by1 (k : Lnk) (c : Cmd) : ByteArray := (btC c).extract k.sent.toNat (k.sent.toNat + 1)
theorem by1_size {k : Lnk} {c : Cmd} {t : List Cmd} (h : rt k) (hk : k.l = c :: t) : (by1 k c).size = 1 := by
  have h2 := (rt_cons hk).1 h
  have : szC c = (btC c).size := rfl
  unfold by1
  rw [ByteArray.size_extract]; omega
theorem one_rt {k : Lnk} {c : Cmd} {t : List Cmd} (h : rt k) (hk : k.l = c :: t) : rt (one k c t) := by
  obtain ⟨h1, h2, h3, h4, h5, h6, h7, h8⟩ := (rt_cons hk).1 h
  rw [hk, costL_cons] at h8
  have hp := pdC_bd c
  have ht : ∀ d ∈ t, isR d = true := fun d hd => h6 d (by rw [hk]; exact List.mem_cons_of_mem _ hd)
  unfold one
  split
  · refine ⟨h1, h2, hp.1, hp.2, Int.le_refl _, ht, fun _ => rfl, fun d u e => ?_, ?_⟩
    · have := szC_one d (ht d (by rw [show t = d :: u from e]; exact List.mem_cons_self ..))
      show (0 : Int) < _
      omega
    · show (costL t : Int) - 0 ≤ k.room
      omega
  · refine (rt_cons (k := { k with sent := k.sent + 1 }) hk).2 ⟨h1, h2, h3, h4, ?_, h6, ?_, ?_⟩
    · show 0 ≤ k.sent + 1; omega
    · show k.sent + 1 < _; omega
    · show (costL k.l : Int) - (k.sent + 1) ≤ k.room
      rw [hk, costL_cons]; omega
theorem bt_ex (s : ByteArray) (p q k : Nat) (hq : q ≤ s.size) (h : p + k < q) : bt (s.extract p q) k = bt s (p + k) := by
  have hz : (s.extract p q).size = q - p := by rw [ByteArray.size_extract]; omega
  unfold bt
  rw [dif_pos (by rw [hz]; omega), dif_pos (by omega)]
  simp [ByteArray.getElem_extract]
theorem by1_suf (s : ByteArray) (p : Nat) (h : p < s.size) : suf s p = s.extract p (p + 1) ++ suf s (p + 1) := by
  refine ext_bt _ _ ?_ fun i hi => ?_
  · rw [size_app, suf_size, suf_size, ByteArray.size_extract]; omega
  · have hz : (s.extract p (p + 1)).size = 1 := by rw [ByteArray.size_extract]; omega
    rw [bt_append, hz, bt_suf, bt_suf]
    split
    · have : i = 0 := by omega
      subst this
      rw [bt_ex s p (p + 1) 0 (by omega) (by omega)]
    · congr 1; omega
/-- That byte, and the rest then, are the rest of before. -/
theorem one_rs {k : Lnk} {c : Cmd} {t : List Cmd} (h : rt k) (hk : k.l = c :: t) : rs k = by1 k c ++ rs (one k c t) := by
  obtain ⟨h1, h2, h3, h4, h5, h6, h7, h8⟩ := (rt_cons hk).1 h
  have hs : szC c = (btC c).size := rfl
  have hl : k.sent.toNat < (btC c).size := by omega
  rw [rs_yes h, rs_yes (one_rt h hk), hk, show btsL (c :: t) = btC c ++ btsL t from rfl, sufa _ _ _ (by omega), by1_suf _ _ hl]
  unfold one by1
  split
  · have e : k.sent.toNat + 1 = (btC c).size := by omega
    show _ ++ suf (btC c) (k.sent.toNat + 1) ++ _ = _ ++ suf (btsL t) (0 : Int).toNat
    rw [show (0 : Int).toNat = 0 from rfl, suf_zero, app_assoc]
    congr 1
    have : suf (btC c) (k.sent.toNat + 1) = ⟨#[]⟩ := by
      refine ext_bt _ _ (by rw [suf_size]; show _ = 0; omega) fun i hi => ?_
      rw [suf_size] at hi; omega
    rw [this, nil_app]
  · show _ ++ suf (btC c) (k.sent.toNat + 1) ++ _ = _ ++ suf (btsL k.l) (k.sent + 1).toNat
    rw [hk, show btsL (c :: t) = btC c ++ btsL t from rfl, show (k.sent + 1).toNat = k.sent.toNat + 1 by omega, sufa _ _ _ (by omega), app_assoc]
/-- So many bytes at most are sent, one by one. -/
def sdN : Nat → Lnk → ByteArray × Lnk
  | 0, k => (⟨#[]⟩, k)
  | g + 1, k => match k.l with
    | [] => (⟨#[]⟩, k)
    | c :: t => if k.pad = 0 then (by1 k c ++ (sdN g (one k c t)).1, (sdN g (one k c t)).2) else (⟨#[]⟩, k)
theorem sd_nil (g : Nat) (k : Lnk) (h : k.l = []) : sdN g k = (⟨#[]⟩, k) := by
  cases g with
  | zero => rfl
  | succ g => unfold sdN; rw [h]
theorem sd_pad (g : Nat) (k : Lnk) (h : k.pad ≠ 0) : sdN g k = (⟨#[]⟩, k) := by
  cases g with
  | zero => rfl
  | succ g =>
    unfold sdN
    split
    · rfl
    · rw [if_neg h]
theorem sd_one (g : Nat) (k : Lnk) (c : Cmd) (t : List Cmd) (h : k.l = c :: t) (hp : k.pad = 0) : sdN (g + 1) k = (by1 k c ++ (sdN g (one k c t)).1, (sdN g (one k c t)).2) := by
  conv => lhs; unfold sdN
  rw [h]
  show (if k.pad = 0 then _ else _) = _
  rw [if_pos hp]
/-- What is granted in two parts is granted whole. -/
theorem sd_add (m n : Nat) (k : Lnk) : sdN (m + n) k = ((sdN m k).1 ++ (sdN n (sdN m k).2).1, (sdN n (sdN m k).2).2) := by
  induction m generalizing k with
  | zero => rw [Nat.zero_add, show sdN 0 k = (⟨#[]⟩, k) from rfl, nil_app]
  | succ m ih =>
    rw [show m + 1 + n = m + n + 1 by omega]
    cases h : k.l with
    | nil => rw [sd_nil _ _ h, sd_nil _ _ h]; show _ = (⟨#[]⟩ ++ (sdN n k).1, (sdN n k).2); rw [sd_nil _ _ h, nil_app]
    | cons c t =>
      by_cases hp : k.pad = 0
      · rw [sd_one _ _ _ _ h hp, sd_one _ _ _ _ h hp, ih, app_assoc]
      · rw [sd_pad _ _ hp, sd_pad _ _ hp]; show _ = (⟨#[]⟩ ++ (sdN n k).1, (sdN n k).2); rw [sd_pad _ _ hp, nil_app]
theorem sd_rt (g : Nat) (k : Lnk) (h : rt k) : rt (sdN g k).2 := by
  induction g generalizing k with
  | zero => exact h
  | succ g ih =>
    cases hk : k.l with
    | nil => rw [sd_nil _ _ hk]; exact h
    | cons c t =>
      by_cases hp : k.pad = 0
      · rw [sd_one _ _ _ _ hk hp]; exact ih _ (one_rt h hk)
      · rw [sd_pad _ _ hp]; exact h
theorem one_off (k : Lnk) (c : Cmd) (t : List Cmd) : (one k c t).off = k.off ∧ (one k c t).room = k.room := by unfold one; split <;> exact ⟨rfl, rfl⟩
theorem sd_off (g : Nat) (k : Lnk) : (sdN g k).2.off = k.off ∧ (sdN g k).2.room = k.room := by
  induction g generalizing k with
  | zero => exact ⟨rfl, rfl⟩
  | succ g ih =>
    cases hk : k.l with
    | nil => rw [sd_nil _ _ hk]; exact ⟨rfl, rfl⟩
    | cons c t =>
      by_cases hp : k.pad = 0
      · rw [sd_one _ _ _ _ hk hp]
        have h1 := ih (one k c t)
        have h2 := one_off k c t
        exact ⟨h1.1.trans h2.1, h1.2.trans h2.2⟩
      · rw [sd_pad _ _ hp]; exact ⟨rfl, rfl⟩
/-- What is sent, and the rest, are the rest of before. -/
theorem sd_rs (g : Nat) (k : Lnk) (h : rt k) : rs k = (sdN g k).1 ++ rs (sdN g k).2 := by
  induction g generalizing k with
  | zero => exact (nil_app _).symm
  | succ g ih =>
    cases hk : k.l with
    | nil => rw [sd_nil _ _ hk, nil_app]
    | cons c t =>
      by_cases hp : k.pad = 0
      · rw [sd_one _ _ _ _ hk hp, one_rs h hk, ih _ (one_rt h hk), app_assoc]
      · rw [sd_pad _ _ hp, nil_app]
/-- No more is sent than is granted. -/
theorem sd_size (g : Nat) (k : Lnk) (h : rt k) : (sdN g k).1.size ≤ g := by
  induction g generalizing k with
  | zero => exact Nat.le_refl _
  | succ g ih =>
    cases hk : k.l with
    | nil => rw [sd_nil _ _ hk]; exact Nat.zero_le _
    | cons c t =>
      by_cases hp : k.pad = 0
      · rw [sd_one _ _ _ _ hk hp]
        have := ih _ (one_rt h hk)
        show (by1 k c ++ _).size ≤ _
        rw [size_app, by1_size h hk]; omega
      · rw [sd_pad _ _ hp]; exact Nat.zero_le _
/-- As much is sent as may be. -/
theorem sd_idle (g : Nat) (k : Lnk) (h : rt k) (hz : (sdN g k).1.size < g) : (sdN g k).2.l = [] ∨ (sdN g k).2.pad ≠ 0 := by
  induction g generalizing k with
  | zero => exact absurd hz (Nat.not_lt_zero _)
  | succ g ih =>
    cases hk : k.l with
    | nil => rw [sd_nil _ _ hk]; exact .inl hk
    | cons c t =>
      by_cases hp : k.pad = 0
      · rw [sd_one _ _ _ _ hk hp] at hz ⊢
        refine ih _ (one_rt h hk) ?_
        have hz : (by1 k c ++ (sdN g (one k c t)).1).size < g + 1 := hz
        rw [size_app, by1_size h hk] at hz; omega
      · rw [sd_pad _ _ hp]; exact .inr hp
/-- Send. -/
def sd (k : Lnk) (g : Int) : ByteArray × Lnk := if rt k ∧ k.off = false then sdN g.toNat k else (⟨#[]⟩, k)
theorem sd_yes {k : Lnk} {g : Int} (h : rt k) (ho : k.off = false) : sd k g = sdN g.toNat k := if_pos ⟨h, ho⟩
theorem sd_no {k : Lnk} {g : Int} (h : ¬ rt k) : sd k g = (⟨#[]⟩, k) := if_neg fun e => h e.1
theorem sd_held {k : Lnk} {g : Int} (h : k.off = true) : sd k g = (⟨#[]⟩, k) := if_neg fun e => by rw [h] at e; exact absurd e.2 (by decide)
theorem send_rt (k : Lnk) (g : Int) (h : rt k) : rt (sd k g).2 := by
  unfold sd; split
  · exact sd_rt _ _ h
  · exact h
theorem send_rs (k : Lnk) (g : Int) : rs k = (sd k g).1 ++ rs (sd k g).2 := by
  unfold sd; split
  · exact sd_rs _ _ (‹rt k ∧ _›).1
  · exact (nil_app _).symm
theorem send_size (k : Lnk) (g : Int) : (sd k g).1.size = 0 ∨ (((sd k g).1.size : Int) ≤ g ∧ k.off = false ∧ k.pad = 0 ∧ rt k) := by
  by_cases hr : rt k
  · by_cases ho : k.off = false
    · rw [sd_yes hr ho]
      by_cases hp : k.pad = 0
      · have h1 := sd_size g.toNat k hr
        by_cases h0 : (sdN g.toNat k).1.size = 0
        · exact .inl h0
        · exact .inr ⟨by omega, ho, hp, hr⟩
      · rw [sd_pad _ _ hp]; exact .inl rfl
    · rw [sd_held (by simpa using ho)]; exact .inl rfl
  · rw [sd_no hr]; exact .inl rfl
theorem send_idle (k : Lnk) (g : Int) (h : ((sd k g).1.size : Int) < g) (ho : k.off = false) (hp : k.pad = 0) : rs (sd k g).2 = ⟨#[]⟩ ∨ (sd k g).2.pad ≠ 0 := by
  by_cases hr : rt k
  · rw [sd_yes hr ho] at h ⊢
    rcases sd_idle g.toNat k hr (by omega) with h1 | h1
    · left
      have h2 := sd_rt g.toNat k hr
      rw [rs_yes h2, h1, ((rt_nil h1).1 h2).2.2.2.2]
      rfl
    · exact .inr h1
  · left; rw [sd_no hr]; exact rs_no hr
theorem send_parts (k : Lnk) (m n : Int) (hm : 0 ≤ m) (hn : 0 ≤ n) : (sd k (m + n)).1 = (sd k m).1 ++ (sd (sd k m).2 n).1 ∧ (sd k (m + n)).2 = (sd (sd k m).2 n).2 := by
  by_cases hr : rt k
  · by_cases ho : k.off = false
    · have h1 := sd_rt m.toNat k hr
      have h2 := (sd_off m.toNat k).1.trans ho
      rw [sd_yes hr ho, sd_yes hr ho, sd_yes h1 h2, show (m + n).toNat = m.toNat + n.toNat by omega, sd_add]
      exact ⟨rfl, rfl⟩
    · have ho : k.off = true := by simpa using ho
      rw [sd_held ho, sd_held ho, sd_held ho]; exact ⟨(nil_app _).symm, rfl⟩
  · rw [sd_no hr, sd_no hr, sd_no hr]; exact ⟨(nil_app _).symm, rfl⟩
/-- New. -/
def nw (room : Int) : Lnk := if 8 ≤ room ∧ room ≤ 48 then { lnk0 with room := room } else lnk0
def nwE (room : Int) : Int := if 8 ≤ room ∧ room ≤ 48 then 0 else 4
theorem nw_rt (room : Int) (h : nwE room = 0) : rt (nw room) := by
  unfold nwE at h
  split at h
  · next hh => unfold nw; rw [if_pos hh]; exact (rt_nil rfl).2 ⟨hh.1, hh.2, Int.le_refl _, by show (0 : Int) ≤ 2; decide, rfl⟩
  · cases h
/-- Offer. -/
def ofE (k : Lnk) (c : Cmd) : Int := if rt k ∧ isR c = true then (if k.room < (rs k).size + szC c then 5 else 0) else 1
def ofr (k : Lnk) (c : Cmd) : Lnk := if ofE k c = 0 then { k with l := k.l ++ [c] } else lnk0
theorem of_ok {k : Lnk} {c : Cmd} (h : ofE k c = 0) : rt k ∧ isR c = true ∧ ((rs k).size : Int) + szC c ≤ k.room := by
  unfold ofE at h
  split at h
  · next hh =>
    split at h
    · cases h
    · exact ⟨hh.1, hh.2, by omega⟩
  · cases h
theorem costL_one (l : List Cmd) (c : Cmd) : costL (l ++ [c]) = costL l + szC c := by rw [costL_append, costL_cons]; rfl
theorem btsL_one (l : List Cmd) (c : Cmd) : btsL (l ++ [c]) = btsL l ++ btC c := by
  rw [btsL_append, show btsL [c] = btC c ++ ⟨#[]⟩ from rfl, app_nil]
/-- What is offered stands behind the rest. -/
theorem of_rt {k : Lnk} {c : Cmd} (h : ofE k c = 0) : rt (ofr k c) ∧ rs (ofr k c) = rs k ++ btC c := by
  obtain ⟨hr, hc, hz⟩ := of_ok h
  have hs := rs_size hr
  have hb := rt_sent hr
  have e : ofr k c = { k with l := k.l ++ [c] } := if_pos h
  obtain ⟨h1, h2, h3, h4, h5, h6, h7, h8, h9⟩ := hr
  have hr' : rt (ofr k c) := by
    rw [e]
    refine ⟨h1, h2, h3, h4, h5, ?_, ?_, ?_, ?_⟩
    · intro d hd
      rcases List.mem_append.1 hd with hd | hd
      · exact h6 d hd
      · rw [List.mem_singleton.1 hd]; exact hc
    · intro e0
      exact absurd e0 (by simp)
    · intro d t e0
      cases hk : k.l with
      | nil =>
        have e0 : k.l ++ [c] = d :: t := e0
        rw [hk] at e0
        cases e0
        have := szC_one c hc
        have := h7 hk
        show k.sent < _
        omega
      | cons d' t' =>
        have e0 : k.l ++ [c] = d :: t := e0
        rw [hk] at e0
        cases e0
        exact h8 d t' hk
    · show (costL (k.l ++ [c]) : Int) - k.sent ≤ k.room
      rw [costL_one]; omega
  refine ⟨hr', ?_⟩
  rw [rs_yes hr', rs_yes ⟨h1, h2, h3, h4, h5, h6, h7, h8, h9⟩, e]
  show suf (btsL (k.l ++ [c])) k.sent.toNat = _
  rw [btsL_one, sufa _ _ _ (by rw [btsL_size]; omega)]
/-- Tick, and Hold. -/
def tk (k : Lnk) : Lnk := if rt k ∧ 0 < k.pad then { k with pad := k.pad - 1 } else k
def hd (k : Lnk) (b : Bool) : Lnk := if rt k then { k with off := b } else k
theorem tk_rt {k : Lnk} (h : rt k) : rt (tk k) ∧ rs (tk k) = rs k := by
  have hr : rt (tk k) := by
    unfold tk; split
    · obtain ⟨h1, h2, h3, h4, h5⟩ := h
      have hp := (‹rt k ∧ 0 < k.pad›).2
      exact ⟨h1, h2, by show 0 ≤ k.pad - 1; omega, by show k.pad - 1 ≤ 2; omega, h5⟩
    · exact h
  refine ⟨hr, ?_⟩
  rw [rs_yes hr, rs_yes h]
  unfold tk; split <;> rfl
theorem hd_rt {k : Lnk} (h : rt k) (b : Bool) : rt (hd k b) ∧ rs (hd k b) = rs k ∧ (hd k b).off = b := by
  have e : hd k b = { k with off := b } := if_pos h
  have hr : rt (hd k b) := by rw [e]; exact h
  refine ⟨hr, ?_, by rw [e]⟩
  rw [rs_yes hr, rs_yes h, e]
/-- Drop: so many commands stay. -/
def dpN (k : Lnk) : Nat := if 0 < k.sent then 1 else 0
def dp (k : Lnk) : Lnk := if rt k then { k with l := k.l.take (dpN k) } else k
def gn (k : Lnk) : List Cmd := if rt k then k.l.drop (dpN k) else []
theorem dp_yes {k : Lnk} (h : rt k) : dp k = { k with l := k.l.take (dpN k) } ∧ gn k = k.l.drop (dpN k) := ⟨if_pos h, if_pos h⟩
theorem dp_rt {k : Lnk} (h : rt k) : rt (dp k) ∧ rs (dp k) ++ btsL (gn k) = rs k ∧ (∀ c ∈ gn k, isR c = true) ∧ costL (dp k).l ≤ 8 ∧ gn (dp k) = [] ∧ dp (dp k) = dp k ∧ (k.sent ≤ 0 → rs (dp k) = ⟨#[]⟩) := by
  obtain ⟨e1, e2⟩ := dp_yes h
  have hg : ∀ c ∈ gn k, isR c = true := fun c hc => rt_go h c (by rw [e2] at hc; exact List.mem_of_mem_drop hc)
  cases hk : k.l with
  | nil =>
    have hn := (rt_nil hk).1 h
    have e3 : k.l.take (dpN k) = k.l := by rw [hk]; simp
    have e4 : dp k = k := by rw [e1, e3]
    have e5 : gn k = [] := by rw [e2, hk]; simp
    have e6 : rs k = ⟨#[]⟩ := by rw [rs_yes h, hk, hn.2.2.2.2]; rfl
    rw [e4, e5, e6, hk]
    exact ⟨h, rfl, fun c hc => by (cases hc), by decide, rfl, e4, fun _ => rfl⟩
  | cons c t =>
    obtain ⟨h1, h2, h3, h4, h5, h6, h7, h8⟩ := (rt_cons hk).1 h
    rw [hk, costL_cons] at h8
    by_cases hs : 0 < k.sent
    · have en : dpN k = 1 := if_pos hs
      have el : dp k = { k with l := [c] } := by rw [e1, en, hk]; rfl
      have eg : gn k = t := by rw [e2, en, hk]; rfl
      have hr : rt (dp k) := by
        rw [el]
        refine (rt_cons (k := { k with l := [c] }) rfl).2 ⟨h1, h2, h3, h4, h5, fun d hd => ?_, h7, ?_⟩
        · rw [List.mem_singleton.1 hd]; exact h6 c (by rw [hk]; exact List.mem_cons_self ..)
        · show (costL [c] : Int) - k.sent ≤ k.room
          rw [show costL [c] = szC c + 0 from rfl]; omega
      have en' : dpN (dp k) = 1 := by rw [el]; exact if_pos hs
      obtain ⟨f1, f2⟩ := dp_yes hr
      refine ⟨hr, ?_, hg, ?_, ?_, ?_, fun e0 => by omega⟩
      · rw [rs_yes hr, rs_yes h, el, eg, hk]
        show suf (btsL [c]) k.sent.toNat ++ btsL t = suf (btsL (c :: t)) k.sent.toNat
        have hsz : szC c = (btC c).size := rfl
        rw [show btsL [c] = btC c ++ ⟨#[]⟩ from rfl, app_nil, show btsL (c :: t) = btC c ++ btsL t from rfl, sufa _ _ _ (by omega)]
      · rw [el]; show costL [c] ≤ 8; have := szC_le c; rw [show costL [c] = szC c + 0 from rfl]; omega
      · rw [f2, en', el]; rfl
      · rw [f1, en', el]; rfl
    · have en : dpN k = 0 := if_neg hs
      have el : dp k = { k with l := [] } := by rw [e1, en]; rfl
      have eg : gn k = c :: t := by rw [e2, en, hk]; rfl
      have h0 : k.sent = 0 := by omega
      have hr : rt (dp k) := by rw [el]; exact (rt_nil rfl).2 ⟨h1, h2, h3, h4, h0⟩
      have en' : dpN (dp k) = 0 := by rw [el]; exact if_neg hs
      obtain ⟨f1, f2⟩ := dp_yes hr
      have er : rs (dp k) = ⟨#[]⟩ := by rw [rs_yes hr, el]; show suf (btsL []) k.sent.toNat = _; rw [h0]; rfl
      refine ⟨hr, ?_, hg, ?_, ?_, ?_, fun _ => er⟩
      · rw [er, nil_app, rs_yes h, eg, hk, h0]; exact (suf_zero _).symm
      · rw [el]; exact Nat.zero_le _
      · rw [f2, en', el]; rfl
      · rw [f1, en', el]; rfl
end Lk
end Go.Proofs.YtgpebdoafblacaaDoor
