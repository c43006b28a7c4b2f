/- Scanning in plain mathematics: what Next and All tell, one thing alone; cuts. -/
import Derived.Test.YteafbfgmdknaeaaDoorVtX
import Derived.Test.YteafbfgmdknaeaaDoorVtK
import Derived.Test.YteafbfgmdknaeaaDoorGlY
set_option linter.unusedVariables false
namespace Go.Proofs.YteafbfgmdknaeaaDoor
open Go.RowKit Go.PlainAid Gl
namespace Vt
def isR (c : Cmd) : Bool := isC c.1 c.2.1 c.2.2.1 c.2.2.2
def btC (c : Cmd) : ByteArray := bts c.1 c.2.1 c.2.2.1 c.2.2.2
/-- The bytes of several commands. -/
def btsL : List Cmd → ByteArray
  | [] => ⟨#[]⟩
  | c :: l => btC c ++ btsL l
theorem app_nil (s : ByteArray) : s ++ ⟨#[]⟩ = s := by apply ext_list; rw [ByteArray.data_append]; simp
theorem nil_app (s : ByteArray) : (⟨#[]⟩ : ByteArray) ++ s = s := by apply ext_list; rw [ByteArray.data_append]; simp
theorem app_assoc (a b c : ByteArray) : a ++ b ++ c = a ++ (b ++ c) := by apply ext_list; simp [ByteArray.data_append]
theorem app_inj (a b x y : ByteArray) (h : a ++ x = b ++ y) (hs : a.size = b.size) : a = b ∧ x = y := by
  have e : a.data.toList ++ x.data.toList = b.data.toList ++ y.data.toList := by
    have := congrArg (fun z : ByteArray => z.data.toList) h
    simpa [ByteArray.data_append] using this
  have hl : a.data.toList.length = b.data.toList.length := by rw [size_list, size_list]; exact hs
  obtain ⟨h1, h2⟩ := List.append_inj e hl
  exact ⟨ext_list _ _ h1, ext_list _ _ h2⟩
theorem app_left (a x y : ByteArray) (h : a ++ x = a ++ y) : x = y := (app_inj a a x y h rfl).2
/-- No command's bytes are a beginning of another one's. -/
theorem pre_free (c d : Cmd) (hc : isR c = true) (hd : isR d = true) (x y : ByteArray) (h : btC c ++ x = btC d ++ y) : c = d ∧ x = y := by
  have hb : ∀ j, j < (btC c).size → j < (btC d).size → bt (btC c) j = bt (btC d) j := fun j h1 h2 => by
    have e := congrArg (fun z => bt z j) h
    simp only [bt_append, if_pos h1, if_pos h2] at e
    exact e
  have hcd : c = d := by
    obtain ⟨k, a, b, r⟩ := c
    obtain ⟨k', a', b', r'⟩ := d
    by_cases hs : (bts k a b r).size ≤ (bts k' a' b' r').size
    · obtain ⟨rfl, rfl, rfl, rfl⟩ := bts_pre k a b r k' a' b' r' hc hd hs fun j hj => (hb j hj (Nat.lt_of_lt_of_le hj hs)).symm
      rfl
    · obtain ⟨rfl, rfl, rfl, rfl⟩ := bts_pre k' a' b' r' k a b r hd hc (by omega) fun j hj => hb j (Nat.lt_of_lt_of_le hj (show (bts k' a' b' r').size ≤ (bts k a b r).size by omega)) hj
      rfl
  subst hcd
  exact ⟨rfl, app_left _ _ _ h⟩
theorem btC_one (c : Cmd) (h : isR c = true) : 1 ≤ (btC c).size := bts_one _ _ _ _ h
theorem btC_size (c : Cmd) : (btC c).size ≤ 8 := bts_size _ _ _ _
/-- s is the bytes of no right command, and nothing but a beginning of one's. -/
def More (s : ByteArray) : Prop := s.size ≠ 0 ∧ ∃ d t, isR d = true ∧ t.size ≠ 0 ∧ btC d = s ++ t
/-- s neither begins with a right command's bytes nor is a beginning of them. -/
def Bad (s : ByteArray) : Prop := s.size ≠ 0 ∧ (∀ d t, isR d = true → s ≠ btC d ++ t) ∧ ∀ d t, isR d = true → btC d ≠ s ++ t
/-- What Next tells. -/
def NxR (s : ByteArray) (c : Cmd) (rest : ByteArray) (e : Int) : Prop :=
  (e = 0 ∧ isR c = true ∧ s = btC c ++ rest) ∨ (c = d0 ∧ rest = ⟨#[]⟩ ∧ ((e = 6 ∧ s = ⟨#[]⟩) ∨ (e = 3 ∧ More s) ∨ (e = 2 ∧ Bad s)))
theorem size_app (a b : ByteArray) : (a ++ b).size = a.size + b.size := ByteArray.size_append
theorem ok_more (s rest : ByteArray) (c : Cmd) (hc : isR c = true) (hs : s = btC c ++ rest) : ¬ More s := by
  rintro ⟨_, d, t, hd, ht, he⟩
  rw [hs, app_assoc] at he
  obtain ⟨_, e⟩ := pre_free d c hd hc ⟨#[]⟩ (rest ++ t) (by rw [app_nil]; exact he)
  have := congrArg ByteArray.size e
  rw [size_app] at this
  have h0 : (⟨#[]⟩ : ByteArray).size = 0 := rfl
  omega
theorem ok_ne (s rest : ByteArray) (c : Cmd) (hc : isR c = true) (hs : s = btC c ++ rest) : s.size ≠ 0 := by
  have := btC_one c hc
  rw [hs, size_app]; omega
/-- It tells one thing alone. -/
theorem NxR.one {s : ByteArray} {c c' : Cmd} {x x' : ByteArray} {e e' : Int} (h : NxR s c x e) (h' : NxR s c' x' e') : c = c' ∧ x = x' ∧ e = e' := by
  have h0 : (⟨#[]⟩ : ByteArray).size = 0 := rfl
  rcases h with ⟨rfl, hc, hs⟩ | ⟨rfl, rfl, h⟩ <;> rcases h' with ⟨rfl, hc', hs'⟩ | ⟨rfl, rfl, h'⟩
  · obtain ⟨h1, h2⟩ := pre_free c c' hc hc' x x' (hs.symm.trans hs')
    exact ⟨h1, h2, rfl⟩
  · exfalso
    rcases h' with ⟨_, h⟩ | ⟨_, h⟩ | ⟨_, h⟩
    · exact ok_ne s x c hc hs (by rw [h]; rfl)
    · exact ok_more s x c hc hs h
    · exact h.2.1 c x hc hs
  · exfalso
    rcases h with ⟨_, h⟩ | ⟨_, h⟩ | ⟨_, h⟩
    · exact ok_ne s x' c' hc' hs' (by rw [h]; rfl)
    · exact ok_more s x' c' hc' hs' h
    · exact h.2.1 c' x' hc' hs'
  · refine ⟨rfl, rfl, ?_⟩
    rcases h with ⟨rfl, h⟩ | ⟨rfl, h⟩ | ⟨rfl, h⟩ <;> rcases h' with ⟨rfl, h'⟩ | ⟨rfl, h'⟩ | ⟨rfl, h'⟩
    · rfl
    · exact absurd (by rw [h]; rfl) h'.1
    · exact absurd (by rw [h]; rfl) h'.1
    · exact absurd (by rw [h']; rfl) h.1
    · rfl
    · obtain ⟨_, d, t, hd, _, he⟩ := h
      exact absurd he (h'.2.2 d t hd)
    · exact absurd (by rw [h']; rfl) h.1
    · obtain ⟨_, d, t, hd, _, he⟩ := h'
      exact absurd he (h.2.2 d t hd)
    · rfl
/-- What is put is scanned again. -/
theorem NxR.put (c : Cmd) (hc : isR c = true) (s : ByteArray) : NxR (btC c ++ s) c s 0 := .inl ⟨rfl, hc, rfl⟩
theorem pre_app (t : ByteArray) (i : Nat) (hi : i ≤ t.size) : t = pre t i ++ suf t i := by
  refine ext_bt _ _ (by rw [size_app, pre_size t i hi, suf_size]; omega) fun k hk => ?_
  rw [bt_append, pre_size t i hi]
  by_cases h : k < i
  · rw [if_pos h, bt_pre t i k hi h]
  · rw [if_neg h, bt_suf]; congr 1; omega
/-- Each beginning of what is put wants more. -/
theorem NxR.pre (c : Cmd) (hc : isR c = true) (i : Nat) (h1 : 1 ≤ i) (hi : i < (btC c).size) : NxR (pre (btC c) i) d0 ⟨#[]⟩ 3 := by
  have hz := pre_size (btC c) i (by omega)
  refine .inr ⟨rfl, rfl, .inr (.inl ⟨rfl, by omega, c, suf (btC c) i, hc, by rw [suf_size]; omega, pre_app _ i (by omega)⟩)⟩
/-- Where nothing whole is left: an end, or a beginning. -/
def Stop (s : ByteArray) : Prop := s.size = 0 ∨ More s
/-- All of s: these commands, and that is left. -/
def AllR (s : ByteArray) (l : List Cmd) (rest : ByteArray) : Prop := (∀ c ∈ l, isR c = true) ∧ s = btsL l ++ rest ∧ Stop rest
def AllBad (s : ByteArray) : Prop := ∃ l rest, (∀ c ∈ l, isR c = true) ∧ s = btsL l ++ rest ∧ Bad rest
theorem bad_stop {s : ByteArray} (h : Bad s) (h' : Stop s) : False := by
  rcases h' with h' | ⟨_, d, t, hd, _, he⟩
  · exact h.1 h'
  · exact h.2.2 d t hd he
theorem bad_ok {s rest : ByteArray} {c : Cmd} (h : Bad s) (hc : isR c = true) (hs : s = btC c ++ rest) : False := h.2.1 c rest hc hs
theorem stop_ok {s rest : ByteArray} {c : Cmd} (h : Stop s) (hc : isR c = true) (hs : s = btC c ++ rest) : False := by
  rcases h with h | h
  · exact ok_ne s rest c hc hs h
  · exact ok_more s rest c hc hs h
/-- What ends nothing whole parts at one place alone. -/
theorem parts_one (P Q : ByteArray → Prop) (hP : ∀ s rest c, P s → isR c = true → s = btC c ++ rest → False) (hQ : ∀ s rest c, Q s → isR c = true → s = btC c ++ rest → False) :
    ∀ (l m : List Cmd) (x y : ByteArray), (∀ c ∈ l, isR c = true) → (∀ c ∈ m, isR c = true) → P x → Q y → btsL l ++ x = btsL m ++ y → l = m ∧ x = y
  | [], [], x, y, _, _, _, _, h => by rw [show btsL [] = ⟨#[]⟩ from rfl, nil_app, nil_app] at h; exact ⟨rfl, h⟩
  | [], d :: m, x, y, _, hm, hx, _, h => by
    rw [show btsL [] = ⟨#[]⟩ from rfl, nil_app, show btsL (d :: m) = btC d ++ btsL m from rfl, app_assoc] at h
    exact (hP x _ d hx (hm d (by simp)) h).elim
  | c :: l, [], x, y, hl, _, _, hy, h => by
    rw [show btsL [] = ⟨#[]⟩ from rfl, nil_app, show btsL (c :: l) = btC c ++ btsL l from rfl, app_assoc] at h
    exact (hQ y _ c hy (hl c (by simp)) h.symm).elim
  | c :: l, d :: m, x, y, hl, hm, hx, hy, h => by
    rw [show btsL (c :: l) = btC c ++ btsL l from rfl, show btsL (d :: m) = btC d ++ btsL m from rfl, app_assoc, app_assoc] at h
    obtain ⟨rfl, e⟩ := pre_free c d (hl c (by simp)) (hm d (by simp)) _ _ h
    obtain ⟨rfl, rfl⟩ := parts_one P Q hP hQ l m x y (fun z hz => hl z (by simp [hz])) (fun z hz => hm z (by simp [hz])) hx hy e
    exact ⟨rfl, rfl⟩
theorem AllR.one {s : ByteArray} {l m : List Cmd} {x y : ByteArray} (h : AllR s l x) (h' : AllR s m y) : l = m ∧ x = y :=
  parts_one Stop Stop (fun _ _ _ h hc hs => stop_ok h hc hs) (fun _ _ _ h hc hs => stop_ok h hc hs) l m x y h.1 h'.1 h.2.2 h'.2.2 (h.2.1.symm.trans h'.2.1)
theorem AllR.not_bad {s : ByteArray} {l : List Cmd} {x : ByteArray} (h : AllR s l x) (h' : AllBad s) : False := by
  obtain ⟨m, y, hm, hs, hb⟩ := h'
  obtain ⟨_, rfl⟩ := parts_one Stop Bad (fun _ _ _ h hc hs => stop_ok h hc hs) (fun _ _ _ h hc hs => bad_ok h hc hs) l m x y h.1 hm h.2.2 hb (h.2.1.symm.trans hs)
  exact bad_stop hb h.2.2
theorem btsL_append (l m : List Cmd) : btsL (l ++ m) = btsL l ++ btsL m := by
  induction l with
  | nil => rw [show btsL [] = ⟨#[]⟩ from rfl, nil_app]; rfl
  | cons c l ih => rw [List.cons_append, show btsL (c :: (l ++ m)) = btC c ++ btsL (l ++ m) from rfl, ih, ← app_assoc]; rfl
theorem btsL_size (l : List Cmd) : (btsL l).size = costL l := by
  induction l with
  | nil => rfl
  | cons c l ih => rw [show btsL (c :: l) = btC c ++ btsL l from rfl, size_app, ih]; rfl
/-- Commands ahead of what is scanned. -/
theorem AllR.ahead {s : ByteArray} {l m : List Cmd} {x : ByteArray} (h : AllR s l x) (hm : ∀ c ∈ m, isR c = true) : AllR (btsL m ++ s) (m ++ l) x :=
  ⟨fun c hc => (List.mem_append.1 hc).elim (hm c) (h.1 c), by rw [btsL_append, app_assoc, ← h.2.1], h.2.2⟩
theorem AllBad.ahead {s : ByteArray} {m : List Cmd} (h : AllBad s) (hm : ∀ c ∈ m, isR c = true) : AllBad (btsL m ++ s) := by
  obtain ⟨l, y, hl, hs, hb⟩ := h
  exact ⟨m ++ l, y, fun c hc => (List.mem_append.1 hc).elim (hm c) (hl c), by rw [btsL_append, app_assoc, ← hs], hb⟩
/-- A beginning of a beginning, or of a command's bytes, stops. -/
theorem stop_pre (c : Cmd) (hc : isR c = true) (x y : ByteArray) (h : btC c = x ++ y) (hy : y.size ≠ 0) : Stop x := by
  by_cases h0 : x.size = 0
  · exact .inl h0
  · exact .inr ⟨h0, c, y, hc, hy, h⟩
theorem app_cut (a b x y : ByteArray) (h : a ++ b = x ++ y) (hs : x.size ≤ a.size) : ∃ z, a = x ++ z ∧ y = z ++ b := by
  refine ⟨suf a x.size, ?_, ?_⟩
  · have e := pre_app a x.size hs
    have hx : pre a x.size = x := by
      refine ext_bt _ _ (pre_size a _ hs) fun k hk => ?_
      rw [pre_size a _ hs] at hk
      rw [bt_pre a _ k hs hk]
      have := congrArg (fun z => bt z k) h
      simp only [bt_append, if_pos hk, if_pos (show k < a.size by omega)] at this
      exact this
    rw [hx] at e; exact e
  · have e := pre_app a x.size hs
    have hx : pre a x.size = x := by
      refine ext_bt _ _ (pre_size a _ hs) fun k hk => ?_
      rw [pre_size a _ hs] at hk
      rw [bt_pre a _ k hs hk]
      have := congrArg (fun z => bt z k) h
      simp only [bt_append, if_pos hk, if_pos (show k < a.size by omega)] at this
      exact this
    rw [hx] at e
    refine (app_left x _ _ ?_).symm
    rw [← app_assoc, ← e, h]
/-- Wherever bytes are cut, the front is whole commands and a beginning of one more, and from that on the rest is scanned. -/
theorem AllR.cut : ∀ (l : List Cmd) (x u v : ByteArray), AllR (u ++ v) l x → ∃ a b left, l = a ++ b ∧ AllR u a left ∧ AllR (left ++ v) b x
  | [], x, u, v, h => by
    obtain ⟨_, hs, hx⟩ := h
    rw [show btsL [] = ⟨#[]⟩ from rfl, nil_app] at hs
    refine ⟨[], [], u, rfl, ⟨fun _ h => (List.not_mem_nil h).elim, by rw [show btsL [] = ⟨#[]⟩ from rfl, nil_app], ?_⟩, ⟨fun _ h => (List.not_mem_nil h).elim, by rw [hs, show btsL [] = ⟨#[]⟩ from rfl, nil_app], hx⟩⟩
    rcases hx with hx | ⟨hx, d, t, hd, ht, he⟩
    · left; rw [← hs, size_app] at hx; omega
    · by_cases h0 : u.size = 0
      · exact .inl h0
      · exact .inr ⟨h0, d, v ++ t, hd, by rw [size_app]; omega, by rw [he, ← hs, app_assoc]⟩
  | c :: l, x, u, v, h => by
    obtain ⟨hl, hs, hx⟩ := h
    have hc := hl c (by simp)
    rw [show btsL (c :: l) = btC c ++ btsL l from rfl, app_assoc] at hs
    by_cases hz : (btC c).size ≤ u.size
    · obtain ⟨z, rfl, hz2⟩ := app_cut u v (btC c) (btsL l ++ x) hs hz
      obtain ⟨a, b, left, rfl, h1, h2⟩ := AllR.cut l x z v ⟨fun d hd => hl d (by simp [hd]), hz2.symm, hx⟩
      exact ⟨c :: a, b, left, rfl, h1.ahead (m := [c]) (fun d hd => by simp at hd; rw [hd]; exact hc) |> fun h => by
        rw [show btsL [c] = btC c from app_nil _] at h; exact h, h2⟩
    · obtain ⟨z, hz2, hz3⟩ := app_cut (btC c) (btsL l ++ x) u v hs.symm (by omega)
      have hzs : z.size ≠ 0 := by
        have := congrArg ByteArray.size hz2
        rw [size_app] at this; omega
      exact ⟨[], c :: l, u, rfl, ⟨fun _ h => (List.not_mem_nil h).elim, by rw [show btsL [] = ⟨#[]⟩ from rfl, nil_app], stop_pre c hc u z hz2 hzs⟩, ⟨hl, by rw [hs]; rw [show btsL (c :: l) = btC c ++ btsL l from rfl, app_assoc], hx⟩⟩
theorem stop_size {s : ByteArray} (h : Stop s) : s.size < 8 := by
  rcases h with h | ⟨_, d, t, hd, ht, he⟩
  · omega
  · have := btC_size d
    rw [he, size_app] at this; omega
theorem stop_next {s : ByteArray} (h : Stop s) : (s.size = 0 ∧ NxR s d0 ⟨#[]⟩ 6) ∨ (s.size ≠ 0 ∧ NxR s d0 ⟨#[]⟩ 3) := by
  rcases h with h | h
  · have e : s = ⟨#[]⟩ := of_size_zero s h
    exact .inl ⟨h, .inr ⟨rfl, rfl, .inl ⟨rfl, e⟩⟩⟩
  · exact .inr ⟨h.1, .inr ⟨rfl, rfl, .inr (.inl ⟨rfl, h⟩)⟩⟩
end Vt
end Go.Proofs.YteafbfgmdknaeaaDoor
