/- How the program reads a command, in plain mathematics: what it tells is what the chapter says. -/
import Derived.Test.YteafbfgmdknaeaaDoorScS
set_option linter.unusedVariables false
namespace Go.Proofs.YteafbfgmdknaeaaDoor
open Go.RowKit Go.PlainAid Gl
namespace Vt
/-- What a reader tells: a value and what is left, or why it gives up. -/
abbrev PR (α : Type) : Type := ByteArray → Except Int (α × ByteArray)
def yes {α : Type} (v : α) : PR α := fun t => .ok (v, t)
def no {α : Type} (e : Int) : PR α := fun _ => .error e
def bnd {α β : Type} (f : PR α) (g : α → PR β) : PR β := fun s => match f s with | .ok (v, t) => g v t | .error e => .error e
def tkP : PR Int := fun s => if s.size = 0 then .error 3 else .ok (bt s 0, suf s 1)
def lp : Nat → Int → PR (Int × Int)
  | 0, _ => no 2
  | k + 1, n => bnd tkP fun b => if b < 48 ∨ 57 < b then yes (n, b) else if 80 < 10 * n + (b - 48) then no 2 else lp k (10 * n + (b - 48))
def numP (f : Int) : PR (Int × Int) := if f < 49 ∨ 57 < f then no 2 else lp 2 (f - 48)
def plP (row : Int) : PR Cmd := if 24 < row then no 2 else bnd tkP fun b => bnd (numP b) fun q => if q.2 = 72 then yes (2, row - 1, q.1 - 1, 0) else no 2
def mvC (b n : Int) : Cmd := (3 + (b - 65), n, 0, 0)
def nbP (b : Int) : PR Cmd := bnd (numP b) fun q => if 65 ≤ q.2 ∧ q.2 ≤ 68 then (if q.1 = 1 then no 2 else yes (mvC q.2 q.1)) else if q.2 = 59 then plP q.1 else no 2
def sqP : PR Cmd := bnd tkP fun a => if a = 91 then bnd tkP (fun b => if b = 75 then yes (7, 0, 0, 0) else if b = 74 then yes (8, 0, 0, 0) else if 65 ≤ b ∧ b ≤ 68 then yes (mvC b 1) else nbP b) else no 2
def txP : PR Cmd := fun s => if nextE s ≠ 0 then .error (nextE s) else if (nextR s = 65533 ∧ nextN s = 1) ∨ Wd.shw (nextR s) = false then .error 2 else .ok ((1, 0, 0, nextR s), suf s (nextN s))
def ctP : PR Cmd := bnd tkP fun b => if b = 27 then sqP else if b = 13 then yes (9, 0, 0, 0) else if b = 10 then yes (10, 0, 0, 0) else if b = 8 then yes (11, 0, 0, 0) else if b = 7 then yes (12, 0, 0, 0) else no 2
def cmP : PR Cmd := fun s => if 32 ≤ bt s 0 then txP s else ctP s
/-! Where bytes are cut. -/
def Cut {α : Type} (f : PR α) : Prop := ∀ x y v r, f (x ++ y) = .ok (v, r) → (∃ z, f x = .ok (v, z) ∧ r = z ++ y) ∨ f x = .error 3
def Ext {α : Type} (f : PR α) : Prop := ∀ x y v z, f x = .ok (v, z) → f (x ++ y) = .ok (v, z ++ y)
theorem suf_app (x y : ByteArray) (n : Nat) (h : n ≤ x.size) : suf (x ++ y) n = suf x n ++ y := by
  apply ext_list
  rw [suf_data, ByteArray.data_append, ByteArray.data_append, Array.toList_append, Array.toList_append, suf_data, List.drop_append_of_le_length (by rw [size_list]; exact h)]
theorem tk_app (x y : ByteArray) (h : x.size ≠ 0) : tkP (x ++ y) = .ok (bt x 0, suf x 1 ++ y) := by
  unfold tkP
  rw [if_neg (by rw [size_app]; omega), bt_append, if_pos (by omega), suf_app x y 1 (by omega)]
theorem tk_ne (x : ByteArray) (h : x.size ≠ 0) : tkP x = .ok (bt x 0, suf x 1) := by unfold tkP; rw [if_neg h]
theorem tk_nil (x : ByteArray) (h : x.size = 0) : tkP x = .error 3 := by unfold tkP; rw [if_pos h]
theorem cut_tk : Cut tkP := by
  intro x y v r h
  by_cases h0 : x.size = 0
  · exact .inr (tk_nil x h0)
  · rw [tk_app x y h0] at h
    injection h with h; injection h with h1 h2
    subst h1 h2
    exact .inl ⟨_, tk_ne x h0, rfl⟩
theorem cut_yes {α : Type} (v : α) : Cut (yes v) := by
  intro x y u r h
  injection h with h; injection h with h1 h2
  subst h1 h2
  exact .inl ⟨_, rfl, rfl⟩
theorem cut_no {α : Type} (e : Int) : Cut (no e : PR α) := fun x y u r h => by cases h
theorem cut_bnd {α β : Type} {f : PR α} {g : α → PR β} (hf : Cut f) (hg : ∀ v, Cut (g v)) : Cut (bnd f g) := by
  intro x y u r h
  unfold bnd at h ⊢
  cases hx : f (x ++ y) with
  | error e => rw [hx] at h; cases h
  | ok p =>
    obtain ⟨v, t⟩ := p
    rw [hx] at h
    rcases hf x y v t hx with ⟨z, e, rfl⟩ | e
    · rw [e]; exact hg v z y u r h
    · rw [e]; exact .inr rfl
theorem cut_ite {α : Type} {p : Prop} [Decidable p] {f g : PR α} (hf : Cut f) (hg : Cut g) : Cut (if p then f else g) := by split <;> assumption
theorem cut_lp : ∀ k n, Cut (lp k n)
  | 0, _ => cut_no _
  | k + 1, n => cut_bnd cut_tk fun b => cut_ite (cut_yes _) (cut_ite (cut_no _) (cut_lp k _))
theorem cut_num (f : Int) : Cut (numP f) := cut_ite (cut_no _) (cut_lp 2 _)
theorem cut_pl (f : Int) : Cut (plP f) := cut_ite (cut_no _) (cut_bnd cut_tk fun b => cut_bnd (cut_num b) fun q => cut_ite (cut_yes _) (cut_no _))
theorem cut_nb (f : Int) : Cut (nbP f) := cut_bnd (cut_num f) fun q => cut_ite (cut_ite (cut_no _) (cut_yes _)) (cut_ite (cut_pl _) (cut_no _))
theorem cut_sq : Cut sqP := cut_bnd cut_tk fun b => cut_ite (cut_bnd cut_tk fun c => cut_ite (cut_yes _) (cut_ite (cut_yes _) (cut_ite (cut_yes _) (cut_nb _)))) (cut_no _)
theorem cut_ct : Cut ctP := cut_bnd cut_tk fun b => cut_ite cut_sq (cut_ite (cut_yes _) (cut_ite (cut_yes _) (cut_ite (cut_yes _) (cut_ite (cut_yes _) (cut_no _)))))
/-! What is put is read. -/
theorem strOf_cons (x : Int) (l : List Int) : strOfNums (x :: l) = strOfNums [x] ++ strOfNums l := (strOf_app [x] l).symm
theorem strOf_nil : strOfNums [] = ⟨#[]⟩ := rfl
theorem tk_one (x : Int) (t : ByteArray) (h : 0 ≤ x ∧ x ≤ 255) : tkP (strOfNums [x] ++ t) = .ok (x, t) := by
  have h0 : bt (strOfNums [x]) 0 = x := bt_strOf _ 0 _ rfl h
  have h1 : (strOfNums [x]).size = 1 := strOfNums_size [x]
  rw [tk_app _ _ (by omega), h0]
  have : suf (strOfNums [x]) 1 = ⟨#[]⟩ := of_size_zero _ (by rw [suf_size]; omega)
  rw [this, nil_app]
theorem bnd_one {β : Type} (g : Int → PR β) (x : Int) (l : List Int) (t : ByteArray) (h : 0 ≤ x ∧ x ≤ 255) : bnd tkP g (strOfNums (x :: l) ++ t) = g x (strOfNums l ++ t) := by
  unfold bnd
  rw [strOf_cons, app_assoc, tk_one x _ h]
theorem dg_cut (n : Int) (h : 1 ≤ n ∧ n ≤ 80) : (n < 10 ∧ dg n = [48 + n]) ∨ (10 ≤ n ∧ dg n = [48 + n / 10, 48 + n % 10]) := by
  by_cases h1 : n < 10
  · exact .inl ⟨h1, dg1 n h1⟩
  · exact .inr ⟨by omega, dg2 n h1⟩
theorem num_dg (n b : Int) (h : 1 ≤ n ∧ n ≤ 80) (hb : 0 ≤ b ∧ b ≤ 255) (hn : b < 48 ∨ 57 < b) : ∃ f r, dg n = f :: r ∧ 49 ≤ f ∧ f ≤ 57 ∧ ∀ l t, numP f (strOfNums (r ++ b :: l) ++ t) = .ok ((n, b), strOfNums l ++ t) := by
  rcases dg_cut n h with ⟨h1, e⟩ | ⟨h1, e⟩
  · refine ⟨_, _, e, by omega, by omega, fun l t => ?_⟩
    unfold numP
    rw [if_neg (by omega), List.nil_append]
    show bnd tkP _ _ = _
    rw [bnd_one _ _ _ _ hb, if_pos hn, show 48 + n - 48 = n by omega]
    rfl
  · refine ⟨_, _, e, by omega, by omega, fun l t => ?_⟩
    unfold numP
    rw [if_neg (by omega)]
    show bnd tkP _ (strOfNums ((48 + n % 10) :: b :: l) ++ t) = _
    rw [bnd_one _ _ _ _ (by omega), if_neg (by omega), if_neg (by omega)]
    show bnd tkP _ _ = _
    rw [bnd_one _ _ _ _ hb, if_pos hn, show 10 * (48 + n / 10 - 48) + (48 + n % 10 - 48) = n by omega]
    rfl
theorem bnd_ok {α β : Type} {f : PR α} {g : α → PR β} {s t : ByteArray} {v : α} (h : f s = .ok (v, t)) : bnd f g s = g v t := by unfold bnd; rw [h]
theorem ct_put (k a b r : Int) (h : isC k a b r = true) (hk : k ≠ 1) (t : ByteArray) : ctP (strOfNums (btL k a b) ++ t) = .ok ((k, a, b, r), t) := by
  unfold ctP
  rcases (isC_iff k a b r).1 h with c | ⟨rfl, c1, c2, c3, c4, rfl⟩ | ⟨c1, c2, c3, c4, rfl, rfl⟩ | ⟨c1, c2, rfl, rfl, rfl⟩
  · omega
  · obtain ⟨f, p, e, f1, f2, hp⟩ := num_dg (a + 1) 59 (by omega) (by omega) (by omega)
    obtain ⟨g, q, e', g1, g2, hq⟩ := num_dg (b + 1) 72 (by omega) (by omega) (by omega)
    rw [btL_go, e, e', bnd_one _ _ _ _ (by omega), if_pos rfl]
    unfold sqP
    rw [bnd_one _ _ _ _ (by omega), if_pos rfl, show (f :: p) ++ 59 :: (g :: q ++ [72]) = f :: (p ++ 59 :: (g :: q ++ [72])) from rfl, bnd_one _ _ _ _ (by omega), if_neg (by omega), if_neg (by omega), if_neg (by omega)]
    unfold nbP
    rw [bnd_ok (hp _ _)]
    dsimp only
    rw [if_neg (by omega), if_pos rfl]
    unfold plP
    rw [if_neg (by omega), show g :: q ++ [72] = g :: (q ++ [72]) from rfl, bnd_one _ _ _ _ (by omega), bnd_ok (hq _ _)]
    dsimp only
    rw [if_pos rfl, strOf_nil, nil_app, show a + 1 - 1 = a by omega, show b + 1 - 1 = b by omega]
    rfl
  · rw [btL_move k a 0 (by omega), bnd_one _ _ _ _ (by omega), if_pos rfl]
    unfold sqP
    rw [bnd_one _ _ _ _ (by omega), if_pos rfl]
    unfold dgo
    by_cases h1 : 1 < a
    · obtain ⟨f, p, e, f1, f2, hp⟩ := num_dg a (62 + k) (by omega) (by omega) (by omega)
      rw [if_pos h1, e, show (f :: p) ++ [62 + k] = f :: (p ++ [62 + k]) from rfl, bnd_one _ _ _ _ (by omega), if_neg (by omega), if_neg (by omega), if_neg (by omega)]
      unfold nbP
      rw [bnd_ok (hp _ _)]
      simp only
      rw [if_pos (by omega), if_neg (by omega), strOf_nil, nil_app]
      unfold mvC yes
      rw [show 3 + (62 + k - 65) = k by omega]
    · obtain rfl : a = 1 := by omega
      rw [if_neg h1, List.nil_append, bnd_one _ _ _ _ (by omega), if_neg (by omega), if_neg (by omega), if_pos (by omega), strOf_nil, nil_app]
      unfold mvC yes
      rw [show 3 + (62 + k - 65) = k by omega]
  · rcases btL_one k 0 0 ⟨c1, c2⟩ with ⟨rfl, e⟩ | ⟨rfl, e⟩ | ⟨rfl, e⟩ | ⟨rfl, e⟩ | ⟨rfl, e⟩ | ⟨rfl, e⟩
    · rw [e, bnd_one _ _ _ _ (by omega), if_pos rfl]
      unfold sqP
      rw [bnd_one _ _ _ _ (by omega), if_pos rfl, bnd_one _ _ _ _ (by omega), if_pos rfl, strOf_nil, nil_app]; rfl
    · rw [e, bnd_one _ _ _ _ (by omega), if_pos rfl]
      unfold sqP
      rw [bnd_one _ _ _ _ (by omega), if_pos rfl, bnd_one _ _ _ _ (by omega), if_neg (by omega), if_pos rfl, strOf_nil, nil_app]; rfl
    all_goals (rw [e, bnd_one _ _ _ _ (by omega)]; rw [strOf_nil, nil_app]; rfl)
theorem bnd_no {α β : Type} {f : PR α} {g : α → PR β} {s : ByteArray} {e : Int} (h : f s = .error e) : bnd f g s = .error e := by unfold bnd; rw [h]
theorem bnd_inv {α β : Type} {f : PR α} {g : α → PR β} {s t : ByteArray} {u : β} (h : bnd f g s = .ok (u, t)) : ∃ v x, f s = .ok (v, x) ∧ g v x = .ok (u, t) := by
  unfold bnd at h
  cases e : f s with
  | error e' => rw [e] at h; cases h
  | ok p => obtain ⟨v, x⟩ := p; rw [e] at h; exact ⟨v, x, rfl, h⟩
theorem bnd_err {α β : Type} {f : PR α} {g : α → PR β} {s : ByteArray} {k : Int} (h : bnd f g s = .error k) : f s = .error k ∨ ∃ v x, f s = .ok (v, x) ∧ g v x = .error k := by
  unfold bnd at h
  cases e : f s with
  | error e' => rw [e] at h; injection h with h; subst h; exact .inl rfl
  | ok p => obtain ⟨v, x⟩ := p; rw [e] at h; exact .inr ⟨v, x, rfl, h⟩
theorem tk_inv {s t : ByteArray} {b : Int} (h : tkP s = .ok (b, t)) : s = strOfNums [b] ++ t ∧ 0 ≤ b ∧ b ≤ 255 := by
  unfold tkP at h
  split at h
  · cases h
  · injection h with h; injection h with h1 h2
    subst h1 h2
    refine ⟨?_, bt_nonneg s 0, bt_le s 0⟩
    have e : pre s 1 = strOfNums [bt s 0] := by
      refine ext_bt _ _ (by rw [pre_size s 1 (by omega), strOfNums_size]; rfl) fun k hk => ?_
      rw [pre_size s 1 (by omega)] at hk
      obtain rfl : k = 0 := by omega
      rw [bt_pre s 1 0 (by omega) (by omega), bt_strOf _ 0 _ rfl ⟨bt_nonneg s 0, bt_le s 0⟩]
    rw [← e]
    exact pre_app s 1 (by omega)
theorem tk_err {s : ByteArray} {k : Int} (h : tkP s = .error k) : k = 3 ∧ s = ⟨#[]⟩ := by
  unfold tkP at h
  split at h
  · rename_i h0
    injection h with h
    exact ⟨h.symm, of_size_zero s h0⟩
  · cases h
/-- What a number is read from: its digits, and the byte behind it. -/
def NumR (d : List Int) (s : ByteArray) (R : Except Int ((Int × Int) × ByteArray)) : Prop :=
  (∃ n b ds t, R = .ok ((n, b), t) ∧ d ++ ds = dg n ∧ s = strOfNums ds ++ (strOfNums [b] ++ t) ∧ 1 ≤ n ∧ n ≤ 80 ∧ 0 ≤ b ∧ b ≤ 255 ∧ (b < 48 ∨ 57 < b)) ∨ (R = .error 3 ∧ ∃ n ds, d ++ ds = dg n ∧ s = strOfNums ds ∧ 1 ≤ n ∧ n ≤ 80) ∨ R = .error 2
theorem lp_at (k : Nat) (n : Int) (s : ByteArray) : lp (k + 1) n s = bnd tkP (fun b => if b < 48 ∨ 57 < b then yes (n, b) else if 80 < 10 * n + (b - 48) then no 2 else lp k (10 * n + (b - 48))) s := rfl
theorem lp_inv (k : Nat) (n : Int) (s : ByteArray) (h1 : 1 ≤ n ∧ n ≤ 80) (hk : 2 ≤ k ∨ 1 ≤ k ∧ 10 ≤ n) : NumR (dg n) s (lp k n s) := by
  have one : ∀ k n s, 1 ≤ n ∧ n ≤ 80 → (∀ b t, 48 ≤ b → b ≤ 57 → 10 * n + (b - 48) ≤ 80 → s = strOfNums [b] ++ t → NumR (dg n ++ [b]) t (lp k (10 * n + (b - 48)) t)) → NumR (dg n) s (lp (k + 1) n s) := by
    intro k n s h1 hr
    rw [lp_at]
    cases e : tkP s with
    | error k =>
      obtain ⟨rfl, rfl⟩ := tk_err e
      rw [bnd_no e]
      exact .inr (.inl ⟨rfl, n, [], by simp, rfl, h1⟩)
    | ok p =>
      obtain ⟨b, t⟩ := p
      obtain ⟨hs, b0, b1⟩ := tk_inv e
      rw [bnd_ok e]
      by_cases hb : b < 48 ∨ 57 < b
      · rw [if_pos hb]
        exact .inl ⟨n, b, [], t, rfl, by simp, by rw [strOf_nil, nil_app]; exact hs, h1.1, h1.2, b0, b1, hb⟩
      · rw [if_neg hb]
        by_cases h8 : 80 < 10 * n + (b - 48)
        · rw [if_pos h8]; exact .inr (.inr rfl)
        · rw [if_neg h8]
          rcases hr b t (by omega) (by omega) (by omega) hs with ⟨m, c, ds, u, e1, e2, e3, e4⟩ | ⟨e1, m, ds, e2, e3, e4⟩ | e1
          · exact .inl ⟨m, c, b :: ds, u, e1, by rw [← e2]; simp, by rw [hs, e3, strOf_cons b ds, app_assoc], e4⟩
          · exact .inr (.inl ⟨e1, m, b :: ds, by rw [← e2]; simp, by rw [hs, e3, strOf_cons b ds], e4⟩)
          · exact .inr (.inr e1)
  rcases hk with hk | ⟨hk, hn⟩
  · obtain ⟨k, rfl⟩ : ∃ j, k = j + 1 := ⟨k - 1, by omega⟩
    refine one k n s h1 fun b t hb hb' h8 hs => ?_
    obtain ⟨k, rfl⟩ : ∃ j, k = j + 1 := ⟨k - 1, by omega⟩
    have e : dg n ++ [b] = dg (10 * n + (b - 48)) := by
      rw [dg1 n (by omega), dg2 _ (by omega), show (10 * n + (b - 48)) / 10 = n by omega, show 48 + (10 * n + (b - 48)) % 10 = b by omega]
      rfl
    rw [e]
    refine one k _ t (by omega) fun c u hc hc' h9 _ => ?_
    omega
  · obtain ⟨k, rfl⟩ : ∃ j, k = j + 1 := ⟨k - 1, by omega⟩
    refine one k n s h1 fun c u hc hc' h9 _ => ?_
    omega
theorem num_inv (f : Int) (s : ByteArray) (R : Except Int ((Int × Int) × ByteArray)) (h : numP f s = R) : NumR [f] s R := by
  subst h
  unfold numP
  by_cases hf : f < 49 ∨ 57 < f
  · rw [if_pos hf]; exact .inr (.inr rfl)
  · rw [if_neg hf]
    have := lp_inv 2 (f - 48) s (by omega) (.inl (by omega))
    rw [dg1 _ (by omega), show 48 + (f - 48) = f by omega] at this
    exact this
/-- What a reader tells is so: a right command's bytes stand ahead of what is left; or they are a beginning. -/
def Told (p : List Int) (s : ByteArray) (R : Except Int (Cmd × ByteArray)) : Prop :=
  (∃ c t, R = .ok (c, t) ∧ isR c = true ∧ strOfNums p ++ s = btC c ++ t) ∨ (R = .error 3 ∧ moreS (strOfNums p ++ s) = true) ∨ R = .error 2
theorem Told.ok {p : List Int} {s t : ByteArray} (c : Cmd) (hc : isR c = true) (h : strOfNums p ++ s = btC c ++ t) : Told p s (.ok (c, t)) := .inl ⟨c, t, rfl, hc, h⟩
theorem Told.no {p : List Int} {s : ByteArray} : Told p s (no 2 s) := .inr (.inr rfl)
theorem form_bt (k a b r : Int) (h : isR (k, a, b, r) = true) (hk : k ≠ 1) : btC (k, a, b, r) = strOfNums (btL k a b) := bts_form h hk
theorem isR_one (k : Int) (h : 7 ≤ k ∧ k ≤ 12) : isR (k, 0, 0, 0) = true := (isC_iff k 0 0 0).2 (.inr (.inr (.inr ⟨h.1, h.2, rfl, rfl, rfl⟩)))
theorem isR_mv (k a : Int) (hk : 3 ≤ k ∧ k ≤ 6) (h : 1 ≤ a ∧ a ≤ 80) : isR (k, a, 0, 0) = true := (isC_iff k a 0 0).2 (.inr (.inr (.inl ⟨hk.1, hk.2, h.1, h.2, rfl, rfl⟩)))
theorem mv_told (n b : Int) (ds : List Int) (t : ByteArray) (hn : 1 ≤ n ∧ n ≤ 80) (hb : 65 ≤ b ∧ b ≤ 68) (hd : ds = dgo n) : Told (27 :: 91 :: (ds ++ [b])) t (yes (mvC b n) t) := by
  refine Told.ok _ (isR_mv _ n (by omega) hn) ?_
  unfold mvC
  rw [form_bt _ _ _ _ (isR_mv _ n (by omega) hn) (by omega), btL_move _ n 0 (by omega), hd, show 62 + (3 + (b - 65)) = b by omega]
theorem pl_told (row : Int) (h : 1 ≤ row ∧ row ≤ 80) (s : ByteArray) : Told (27 :: 91 :: (dg row ++ [59])) s (plP row s) := by
  unfold plP
  by_cases hr : 24 < row
  · rw [if_pos hr]; exact Told.no
  rw [if_neg hr]
  cases e : tkP s with
  | error k =>
    obtain ⟨rfl, rfl⟩ := tk_err e
    rw [bnd_no e]
    refine .inr (.inl ⟨rfl, ?_⟩)
    rw [app_nil]
    have := g1 (row - 1) (by omega)
    rw [show row - 1 + 1 = row by omega] at this
    exact this
  | ok p =>
    obtain ⟨b, t⟩ := p
    obtain ⟨hs, b0, b1⟩ := tk_inv e
    rw [bnd_ok e]
    rcases num_inv b t _ rfl with ⟨n, c, ds, u, e1, e2, e3, n1, n2, c0, c1, c2⟩ | ⟨e1, n, ds, e2, e3, n1, n2⟩ | e1
    · rw [bnd_ok e1]
      dsimp only
      by_cases hc : c = 72
      · rw [if_pos hc]
        subst hc
        have hq := isC_go (row - 1) (n - 1) (by omega) (by omega)
        refine Told.ok _ hq ?_
        rw [form_bt _ _ _ _ hq (by decide), btL_go, show row - 1 + 1 = row by omega, show n - 1 + 1 = n by omega, ← e2, hs, e3]
        rw [← app_assoc, ← app_assoc, ← app_assoc, strOf_app, strOf_app, strOf_app]
        simp
      · rw [if_neg hc]; exact Told.no
    · rw [bnd_no e1]
      refine .inr (.inl ⟨rfl, ?_⟩)
      rw [hs, e3, ← app_assoc, strOf_app, strOf_app]
      have := g2 (row - 1) (n - 1) (by omega) (by omega)
      rw [show row - 1 + 1 = row by omega, show n - 1 + 1 = n by omega, ← e2] at this
      simpa using this
    · rw [bnd_no e1]; exact .inr (.inr rfl)
theorem m34 (n : Int) (h : 1 ≤ n ∧ n ≤ 80) : moreS (strOfNums (27 :: 91 :: dg n)) = true := by
  rcases dg_cut n h with ⟨h1, e⟩ | ⟨h1, e⟩
  · rw [e]; exact m3 n (by omega)
  · rw [e]; exact m4 n (by omega)
theorem nb_told (f : Int) (s : ByteArray) : Told (27 :: 91 :: [f]) s (nbP f s) := by
  unfold nbP
  rcases num_inv f s _ rfl with ⟨n, c, ds, u, e1, e2, e3, n1, n2, c0, c1, c2⟩ | ⟨e1, n, ds, e2, e3, n1, n2⟩ | e1
  · rw [bnd_ok e1]
    dsimp only
    have hcut : ∀ R, Told (27 :: 91 :: (dg n ++ [c])) u R → Told (27 :: 91 :: [f]) s R := fun R hR => by
      have e : strOfNums (27 :: 91 :: [f]) ++ s = strOfNums (27 :: 91 :: (dg n ++ [c])) ++ u := by
        rw [e3, ← e2, ← app_assoc, ← app_assoc, strOf_app, strOf_app]; simp
      unfold Told at hR ⊢
      rw [e]; exact hR
    refine hcut _ ?_
    by_cases hc : 65 ≤ c ∧ c ≤ 68
    · rw [if_pos hc]
      by_cases h1 : n = 1
      · rw [if_pos h1]; exact Told.no
      · rw [if_neg h1]
        exact mv_told n c _ u ⟨n1, n2⟩ hc (by unfold dgo; rw [if_pos (by omega)])
    · rw [if_neg hc]
      by_cases h5 : c = 59
      · subst h5
        rw [if_pos rfl]
        exact pl_told n ⟨n1, n2⟩ u
      · rw [if_neg h5]; exact Told.no
  · rw [bnd_no e1]
    refine .inr (.inl ⟨rfl, ?_⟩)
    rw [e3, strOf_app]
    have := m34 n ⟨n1, n2⟩
    rw [← e2] at this
    simpa using this
  · rw [bnd_no e1]; exact .inr (.inr rfl)
theorem sq_told (s : ByteArray) : Told [27] s (sqP s) := by
  unfold sqP
  cases e : tkP s with
  | error k =>
    obtain ⟨rfl, rfl⟩ := tk_err e
    rw [bnd_no e]
    exact .inr (.inl ⟨rfl, by rw [app_nil]; exact m1⟩)
  | ok p =>
    obtain ⟨a, t⟩ := p
    obtain ⟨hs, -, -⟩ := tk_inv e
    rw [bnd_ok e]
    by_cases ha : a = 91
    · subst ha
      rw [if_pos rfl]
      cases e' : tkP t with
      | error k =>
        obtain ⟨rfl, rfl⟩ := tk_err e'
        rw [bnd_no e']
        refine .inr (.inl ⟨rfl, ?_⟩)
        rw [hs, app_nil, strOf_app]
        exact m2
      | ok p =>
        obtain ⟨b, u⟩ := p
        obtain ⟨ht, b0, b1⟩ := tk_inv e'
        rw [bnd_ok e']
        have hcut : ∀ R, Told [27, 91, b] u R → Told [27] s R := fun R hR => by
          have e : strOfNums [27] ++ s = strOfNums [27, 91, b] ++ u := by rw [hs, ht, ← app_assoc, ← app_assoc, strOf_app, strOf_app]; simp
          unfold Told at hR ⊢
          rw [e]; exact hR
        refine hcut _ ?_
        by_cases h1 : b = 75
        · subst h1; rw [if_pos rfl]; exact Told.ok (7, 0, 0, 0) (isR_one 7 (by omega)) (by rw [form_bt _ _ _ _ (isR_one 7 (by omega)) (by decide)]; rfl)
        rw [if_neg h1]
        by_cases h2 : b = 74
        · subst h2; rw [if_pos rfl]; exact Told.ok (8, 0, 0, 0) (isR_one 8 (by omega)) (by rw [form_bt _ _ _ _ (isR_one 8 (by omega)) (by decide)]; rfl)
        rw [if_neg h2]
        by_cases h3 : 65 ≤ b ∧ b ≤ 68
        · rw [if_pos h3]; exact mv_told 1 b [] u (by omega) h3 rfl
        · rw [if_neg h3]; exact nb_told b u
    · rw [if_neg ha]; exact Told.no
theorem nil_pre (s : ByteArray) : strOfNums [] ++ s = s := nil_app s
theorem ct_told (s : ByteArray) (h : s.size ≠ 0) : Told [] s (ctP s) := by
  unfold ctP
  rw [bnd_ok (tk_ne s h)]
  obtain ⟨hs, -, -⟩ := tk_inv (tk_ne s h)
  generalize bt s 0 = b at *
  generalize suf s 1 = t at *
  have hcut : ∀ R, Told [b] t R → Told [] s R := fun R hR => by
    unfold Told at hR ⊢
    rw [nil_pre, hs]; exact hR
  refine hcut _ ?_
  by_cases h0 : b = 27
  · subst h0; rw [if_pos rfl]; exact sq_told t
  rw [if_neg h0]
  by_cases h1 : b = 13
  · subst h1; rw [if_pos rfl]; exact Told.ok (9, 0, 0, 0) (isR_one 9 (by omega)) (by rw [form_bt _ _ _ _ (isR_one 9 (by omega)) (by decide)]; rfl)
  rw [if_neg h1]
  by_cases h1 : b = 10
  · subst h1; rw [if_pos rfl]; exact Told.ok (10, 0, 0, 0) (isR_one 10 (by omega)) (by rw [form_bt _ _ _ _ (isR_one 10 (by omega)) (by decide)]; rfl)
  rw [if_neg h1]
  by_cases h1 : b = 8
  · subst h1; rw [if_pos rfl]; exact Told.ok (11, 0, 0, 0) (isR_one 11 (by omega)) (by rw [form_bt _ _ _ _ (isR_one 11 (by omega)) (by decide)]; rfl)
  rw [if_neg h1]
  by_cases h1 : b = 7
  · subst h1; rw [if_pos rfl]; exact Told.ok (12, 0, 0, 0) (isR_one 12 (by omega)) (by rw [form_bt _ _ _ _ (isR_one 12 (by omega)) (by decide)]; rfl)
  rw [if_neg h1]
  exact Told.no
/-! Text; the whole. -/
theorem tx_told (s : ByteArray) (h : s.size ≠ 0) : Told [] s (txP s) := by
  unfold txP
  by_cases he : nextE s = 0
  · rw [if_neg (by omega)]
    by_cases hb : (nextR s = 65533 ∧ nextN s = 1) ∨ Wd.shw (nextR s) = false
    · rw [if_pos hb]; exact .inr (.inr rfl)
    · rw [if_neg hb]
      have hm : moreB s = false := by
        unfold nextE at he
        rw [if_neg h] at he
        cases e : moreB s
        · rfl
        · rw [e] at he; simp at he
      obtain ⟨n1, n2, -⟩ := next_ok s (by omega) hm
      by_cases hn : ∃ n, okAt s 0 n
      · obtain ⟨n, hn⟩ := hn
        obtain ⟨d1, d2⟩ := dec_ok s 0 n hn
        obtain ⟨p1, p2, p3⟩ := put_of_ok s 0 n hn
        have hle : n ≤ s.size := by unfold okAt at hn; omega
        rw [n1, n2, d1, d2] at hb ⊢
        have hs : Wd.shw (valAt s 0 n) = true := by
          cases e : Wd.shw (valAt s 0 n)
          · exact absurd (.inr e) hb
          · rfl
        have hc : isC 1 0 0 (valAt s 0 n) = true := (isC_iff 1 0 0 _).2 (.inl ⟨rfl, hs, rfl, rfl⟩)
        refine Told.ok (1, 0, 0, valAt s 0 n) hc ?_
        rw [nil_pre, show btC (1, 0, 0, valAt s 0 n) = putS (valAt s 0 n) from bts_text hc]
        have e : putS (valAt s 0 n) = pre s n := by
          refine ext_bt _ _ (by rw [p2, pre_size s n hle]) fun k hk => ?_
          rw [p2] at hk
          rw [bt_pre s n k hle hk, p3 k hk, Nat.zero_add]
        rw [e]
        exact pre_app s n hle
      · obtain ⟨d1, d2⟩ := dec_bad s 0 (by omega) (fun n hh => hn ⟨n, hh⟩)
        exact absurd (.inl ⟨n1.trans d1, n2.trans d2⟩) hb
  · rw [if_pos he]
    unfold nextE at he ⊢
    rw [if_neg h] at he ⊢
    cases e : moreB s
    · rw [e] at he; simp at he
    · refine .inr (.inl ⟨rfl, ?_⟩)
      rw [nil_pre]
      unfold moreS nextE
      rw [if_neg h, e]
      rfl
theorem cm_told (s : ByteArray) (h : s.size ≠ 0) : Told [] s (cmP s) := by
  unfold cmP
  split
  · exact tx_told s h
  · exact ct_told s h
theorem bt_app0 (x y : ByteArray) (h : x.size ≠ 0) : bt (x ++ y) 0 = bt x 0 := by rw [bt_append, if_pos (by omega)]
theorem cm_put (c : Cmd) (hc : isR c = true) (t : ByteArray) : cmP (btC c ++ t) = .ok (c, t) := by
  obtain ⟨k, a, b, r⟩ := c
  have h1 := btC_one _ hc
  have h' : isC k a b r = true := hc
  unfold cmP
  rw [bt_app0 _ _ (by omega)]
  by_cases hk : k = 1
  · subst hk
    rcases (isC_iff 1 a b r).1 h' with ⟨-, hs, rfl, rfl⟩ | c | c | c
    · have e : btC (1, 0, 0, r) = putS r := bts_text h'
      have hf := text_first r hs
      have hv := (shw_vld hs).1
      obtain ⟨n1, n2, n3⟩ := next_put r hv t
      rw [e, if_pos hf]
      unfold txP
      rw [n1, n2, n3, if_neg (by omega), if_neg, suf_append]
      rintro (⟨rfl, h⟩ | h)
      · exact absurd h (by decide +kernel)
      · rw [hs] at h; cases h
    all_goals omega
  · have e := form_bt k a b r hc hk
    have hf := bts_first k a b r h' hk
    rw [show bts k a b r = btC (k, a, b, r) from rfl] at hf
    rw [if_neg (by omega), e]
    exact ct_put k a b r h' hk t
theorem cm_more (c : Cmd) (hc : isR c = true) (x y : ByteArray) (hx : x.size ≠ 0) (hy : y.size ≠ 0) (h : btC c = x ++ y) : cmP x = .error 3 := by
  have hp := cm_put c hc ⟨#[]⟩
  rw [app_nil, h] at hp
  have hf := bt_app0 x y hx
  rw [← h] at hf
  obtain ⟨k, a, b, r⟩ := c
  have h' : isC k a b r = true := hc
  unfold cmP at hp ⊢
  by_cases hk : k = 1
  · subst hk
    rcases (isC_iff 1 a b r).1 h' with ⟨-, hs, rfl, rfl⟩ | c | c | c
    · have e : btC (1, 0, 0, r) = putS r := bts_text h'
      have hv := (shw_vld hs).1
      have h0 := text_first r hs
      rw [e] at h hf
      have hz := congrArg ByteArray.size h
      rw [size_app] at hz
      have hxp : x = pre (putS r) x.size := by
        obtain ⟨q, _⟩ := app_inj _ _ _ _ (h.symm.trans (pre_app (putS r) x.size (by omega))) (by rw [pre_size _ _ (by omega)])
        exact q
      have hm := put_more r hv x.size (by omega) (by omega)
      rw [← hxp] at hm
      rw [if_pos (by omega)]
      unfold txP
      rw [hm, if_pos (by omega)]
    all_goals omega
  · have h0 := bts_first k a b r h' hk
    rw [show bts k a b r = btC (k, a, b, r) from rfl] at h0
    rw [if_neg (by rw [bt_app0 x y hx]; omega)] at hp
    rw [if_neg (by omega)]
    rcases cut_ct x y _ _ hp with ⟨z, _, e⟩ | e
    · have := congrArg ByteArray.size e
      rw [size_app] at this
      have h0 : (⟨#[]⟩ : ByteArray).size = 0 := rfl
      omega
    · exact e
/-- What the program's Next tells. -/
def nxP (s : ByteArray) : Cmd × ByteArray × Int := if s.size = 0 then (d0, ⟨#[]⟩, 6) else match cmP s with
  | .ok (c, t) => (c, t, 0)
  | .error e => (d0, ⟨#[]⟩, e)
theorem nxP_is (s : ByteArray) : NxR s (nxP s).1 (nxP s).2.1 (nxP s).2.2 := by
  unfold nxP
  by_cases h : s.size = 0
  · rw [if_pos h]
    exact .inr ⟨rfl, rfl, .inl ⟨rfl, of_size_zero s h⟩⟩
  rw [if_neg h]
  rcases cm_told s h with ⟨c, t, e, hc, hs⟩ | ⟨e, hm⟩ | e
  · rw [nil_pre] at hs
    rw [e]
    exact .inl ⟨rfl, hc, hs⟩
  · rw [nil_pre] at hm
    rw [e]
    exact .inr ⟨rfl, rfl, .inr (.inl ⟨rfl, moreS_more s (by omega) hm⟩)⟩
  · rw [e]
    refine .inr ⟨rfl, rfl, .inr (.inr ⟨rfl, h, ?_, ?_⟩)⟩
    · rintro d t hd rfl
      rw [cm_put d hd t] at e
      cases e
    · intro d t hd hq
      by_cases ht : t.size = 0
      · rw [of_size_zero t ht, app_nil] at hq
        have := cm_put d hd ⟨#[]⟩
        rw [app_nil, hq, e] at this
        cases this
      · rw [cm_more d hd s t h ht hq] at e
        injection e with e; omega
theorem nxP_nxS (s : ByteArray) : nxP s = nxS s := (nx_one (nxP_is s)).symm
end Vt
end Go.Proofs.YteafbfgmdknaeaaDoor
