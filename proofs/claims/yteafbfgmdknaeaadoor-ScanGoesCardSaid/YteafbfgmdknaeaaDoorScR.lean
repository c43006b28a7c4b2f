/- What wants more, by the reference: five ends. -/
import Derived.Test.YteafbfgmdknaeaaDoorScQ
set_option linter.unusedVariables false
namespace Go.Proofs.YteafbfgmdknaeaaDoor
open Go.RowKit Go.PlainAid Gl
namespace Vt
/-- The five ends that the reference tries. -/
def tails : List ByteArray := [⟨#[91, 65]⟩, ⟨#[65]⟩, ⟨#[59, 49, 72]⟩, ⟨#[49, 72]⟩, ⟨#[72]⟩]
def moreS (s : ByteArray) : Bool := decide (nextE s = 3) || (decide (bt s 0 = 27) && tails.any fun x => wholeB (s ++ x))
theorem ext_pad (s t : ByteArray) (h : s.size ≤ t.size) (hb : ∀ k, k < s.size → bt t k = bt s k) : pre t s.size = s :=
  ext_bt _ _ (pre_size t _ h) fun k hk => by
    rw [pre_size t _ h] at hk
    rw [bt_pre t _ k h hk, hb k hk]
/-- Bytes that want more are a beginning of a sign that is shown. -/
theorem more_shown (s : ByteArray) (h1 : 1 ≤ s.size) (hm : moreB s = true) : ∃ r t, Wd.shw r = true ∧ t.size ≠ 0 ∧ putS r = s ++ t := by
  obtain ⟨n, hn, h4, ht⟩ := (moreB_try s h1).1 hm
  have hi := (tryB_iff s n h1 hn h4).1 ht
  have gen : ∀ c : UInt8, okAt (pad s c (n - s.size)) 0 n → 160 ≤ valAt (pad s c (n - s.size)) 0 n → ∃ r t, Wd.shw r = true ∧ t.size ≠ 0 ∧ putS r = s ++ t := fun c ho hv => by
    obtain ⟨v1, v2, v3⟩ := put_of_ok _ 0 n ho
    have hz : (pad s c (n - s.size)).size = n := by rw [pad_size]; omega
    have e : putS (valAt (pad s c (n - s.size)) 0 n) = pad s c (n - s.size) := ext_bt _ _ (by rw [v2, hz]) fun k hk => by
      rw [v3 k (by omega), Nat.zero_add]
    have hp := pre_app (pad s c (n - s.size)) s.size (by omega)
    rw [ext_pad s _ (by omega) (fun k hk => by rw [bt_pad, if_pos hk])] at hp
    refine ⟨_, suf (pad s c (n - s.size)) s.size, ?_, by rw [suf_size]; omega, e.trans hp⟩
    unfold Wd.shw
    rw [v1]
    simp
    omega
  have hl := lo1_hi1 (bt s 0)
  rcases hi with ⟨rfl, a, b⟩ | ⟨rfl, a, b, c⟩ | ⟨rfl, a, b, c, d⟩
  · have z : s.size = 1 := by omega
    have ho : okAt (pad s 191 (2 - s.size)) 0 2 := by
      have e0 : bt (pad s 191 (2 - s.size)) 0 = bt s 0 := by rw [bt_pad, if_pos (by omega)]
      have e1 : bt (pad s 191 (2 - s.size)) 1 = 191 := by rw [bt_pad, if_neg (by omega), if_pos (by omega)]; rfl
      refine .inr (.inl ⟨rfl, by rw [pad_size]; omega, by rw [e0]; exact a, by rw [e0]; exact b, by rw [Nat.zero_add, e1]; omega, by rw [Nat.zero_add, e1]; omega⟩)
    refine gen 191 ho ?_
    have e0 : bt (pad s 191 (2 - s.size)) 0 = bt s 0 := by rw [bt_pad, if_pos (by omega)]
    have e1 : bt (pad s 191 (2 - s.size)) 1 = 191 := by rw [bt_pad, if_neg (by omega), if_pos (by omega)]; rfl
    unfold valAt
    rw [if_neg (by omega), if_pos rfl, Nat.zero_add, e0, e1]
    omega
  · have hv : ∀ t : ByteArray, okAt t 0 3 → 160 ≤ valAt t 0 3 := fun t ho => by
      have := lo1_hi1 (bt t 0)
      unfold valAt
      rw [if_neg (by omega), if_neg (by omega), if_pos rfl]
      rcases ho with ho | ho | ho | ho
      · omega
      · omega
      · simp only [Nat.zero_add] at ho ⊢; omega
      · omega
    unfold tryB at ht
    have hz : ∀ c, (pad s c (3 - s.size)).size = 3 := fun c => by rw [pad_size]; omega
    rw [Bool.or_eq_true, whB_iff, whB_iff, hz, hz] at ht
    rcases ht with ht | ht
    · exact gen 128 ht (hv _ ht)
    · exact gen 191 ht (hv _ ht)
  · have hv : ∀ t : ByteArray, okAt t 0 4 → 160 ≤ valAt t 0 4 := fun t ho => by
      have := lo1_hi1 (bt t 0)
      unfold valAt
      rw [if_neg (by omega), if_neg (by omega), if_neg (by omega)]
      rcases ho with ho | ho | ho | ho
      · omega
      · omega
      · omega
      · simp only [Nat.zero_add] at ho ⊢; omega
    unfold tryB at ht
    have hz : ∀ c, (pad s c (4 - s.size)).size = 4 := fun c => by rw [pad_size]; omega
    rw [Bool.or_eq_true, whB_iff, whB_iff, hz, hz] at ht
    rcases ht with ht | ht
    · exact gen 128 ht (hv _ ht)
    · exact gen 191 ht (hv _ ht)
theorem moreS_more (s : ByteArray) (h1 : 1 ≤ s.size) (h : moreS s = true) : More s := by
  unfold moreS at h
  rw [Bool.or_eq_true, Bool.and_eq_true, decide_eq_true_iff, decide_eq_true_iff, List.any_eq_true] at h
  rcases h with h | ⟨_, x, hx, hw⟩
  · have hm : moreB s = true := by
      unfold nextE at h
      rw [if_neg (by omega)] at h
      cases hq : moreB s
      · rw [hq] at h; simp at h
      · rfl
    obtain ⟨r, t, hs, ht, e⟩ := more_shown s h1 hm
    have hc : isC 1 0 0 r = true := by unfold isC; rw [if_pos rfl, hs]; rfl
    exact ⟨by omega, (1, 0, 0, r), t, hc, ht, (bts_text hc).trans e⟩
  · obtain ⟨c, hc, e⟩ := (whole_iff _).1 hw
    refine ⟨by omega, c, x, hc, ?_, e⟩
    simp [tails] at hx
    rcases hx with rfl | rfl | rfl | rfl | rfl
    all_goals decide
/-- A whole command behind one of the five ends. -/
theorem tail_yes (p : List Int) (x : List Int) (c : Cmd) (hx : strOfNums x ∈ tails) (hc : isR c = true) (hk : c.1 ≠ 1) (h : btL c.1 c.2.1 c.2.2.1 = 27 :: (p ++ x)) : moreS (strOfNums (27 :: p)) = true := by
  unfold moreS
  rw [Bool.or_eq_true, Bool.and_eq_true, decide_eq_true_iff, decide_eq_true_iff, List.any_eq_true]
  refine .inr ⟨bt_strOf _ 0 _ rfl (by omega), _, hx, (whole_iff _).2 ⟨c, hc, ?_⟩⟩
  rw [strOf_app]
  exact (bts_form hc hk).trans (by rw [h]; rfl)
theorem t1 : strOfNums [91, 65] ∈ tails := by unfold tails; simp [strOfNums]
theorem t2 : strOfNums [65] ∈ tails := by unfold tails; simp [strOfNums]
theorem t3 : strOfNums [59, 49, 72] ∈ tails := by unfold tails; simp [strOfNums]
theorem t4 : strOfNums [49, 72] ∈ tails := by unfold tails; simp [strOfNums]
theorem t5 : strOfNums [72] ∈ tails := by unfold tails; simp [strOfNums]
end Vt
end Go.Proofs.YteafbfgmdknaeaaDoor
