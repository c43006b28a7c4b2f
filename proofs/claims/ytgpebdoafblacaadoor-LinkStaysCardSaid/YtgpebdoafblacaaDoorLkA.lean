/- Links in memory: rows of commands that have room; the program's size, Is. -/
import Derived.Test.YtgpebdoafblacaaDoorLkQ
import Derived.Test.YtgpebdoafblacaaDoorLaS
import Derived.Test.YtgpebdoafblacaaDoorVtJ
import Derived.Test.YtgpebdoafblacaaDoorVtL
import Derived.BigGuardPart
import Derived.BigQuiet
import Derived.Deep.QuietTactic
import Derived.Deep.RegionHeld3
set_option linter.unusedVariables false
namespace Go.Proofs.YtgpebdoafblacaaDoor
open Go.RowKit Gl L Vt Lk
/-- v is a row of these commands, and has room for them. -/
def Rk (w : World) (v : Value) (l : List Cmd) : Prop := ∃ A cap, v = .slice A l.length cap ∧ l.length ≤ cap ∧ Rw w v 4 l.length (flatC l)
theorem Rk.rw {w : World} {v : Value} {l : List Cmd} (h : Rk w v l) : Rw w v 4 l.length (flatC l) := by obtain ⟨_, _, _, _, h⟩ := h; exact h
theorem Rk.below {w w' : World} {v : Value} {l : List Cmd} (h : Rk w v l) (hb : Below w.heap.size w w') : Rk w' v l := by
  obtain ⟨A, cap, e, h1, h2⟩ := h
  exact ⟨A, cap, e, h1, h2.below hb⟩
theorem Rk.alloc {w : World} {v : Value} {l : List Cmd} (h : Rk w v l) (o : Obj) : Rk (w.alloc o) v l := h.below ((Below.refl _ _).alloc (Nat.le_refl _) _)
/-- Blocks from B on may change. -/
theorem Rk.low {w w' : World} {v : Value} {l : List Cmd} (h : Rk w v l) (hb : Below w.heap.size w w') : Rk w' v l := h.below hb
theorem Rk.nil (w : World) (A : Option Addr) (cap : Nat) (h : A = none → cap = 0) : Rk w (.slice A 0 cap) [] := ⟨A, cap, rfl, Nat.zero_le _, rfl, A, cap, rfl, .inl ⟨rfl, h⟩⟩
theorem Rk.one (w : World) (k a b r : Int) (t : TypeId) : Rk (w.alloc (.cells #[.int .i64 k, .int .i64 a, .int .i64 b, .int .i32 r] t)) (.slice (some ⟨w.heap.size, 0, none⟩) 1 1) [(k, a, b, r)] :=
  ⟨_, 1, rfl, Nat.le_refl _, Rw.lit w #[.int .i64 k, .int .i64 a, .int .i64 b, .int .i32 r] t 4 1 1 (by simp)⟩
theorem Rk.oneAt {w : World} {n : Nat} {k a b r : Int} {t : TypeId} (h : w.heap[n]? = some (.cells #[.int .i64 k, .int .i64 a, .int .i64 b, .int .i32 r] t (0, 0))) : Rk w (.slice (some ⟨n, 0, none⟩) 1 1) [(k, a, b, r)] := by
  obtain ⟨⟨c0, c1, c2, c3⟩, -, -⟩ := blk4 h
  refine ⟨_, 1, rfl, Nat.le_refl _, rfl, _, 1, rfl, .inr ⟨n, 0, rfl, fun j u hu => ?_⟩⟩
  match j, hu with
  | 0, hu => cases hu; exact c0
  | 1, hu => cases hu; exact c1
  | 2, hu => cases hu; exact c2
  | 3, hu => cases hu; exact c3
theorem flatC_cons (c : Cmd) (l : List Cmd) : (flatC (c :: l)).drop 4 = flatC l := by
  obtain ⟨a, b, d, e⟩ := c
  rfl
theorem flatC_first (c : Cmd) (l : List Cmd) : (flatC (c :: l)).take 4 = flatC [c] := by
  obtain ⟨a, b, d, e⟩ := c
  rfl
theorem Rk.tail {w : World} {b off cap n : Nat} {c : Cmd} {t : List Cmd} (h : Rk w (.slice (some ⟨b, off, none⟩) n cap) (c :: t)) (c' : Nat) (hc : t.length ≤ c') : Rk w (.slice (some ⟨b, off + 4, none⟩) t.length c') t := by
  obtain ⟨A, cap, e, h1, h2⟩ := h
  cases e
  have h3 := h2.suf (m := 1) (by simp) c'
  rw [flatC_cons] at h3
  exact ⟨_, _, rfl, hc, h3⟩
theorem Rk.first {w : World} {A : Option Addr} {n cap : Nat} {c : Cmd} {t : List Cmd} (h : Rk w (.slice A n cap) (c :: t)) (h1 : 1 ≤ cap) : Rk w (.slice A 1 cap) [c] := by
  obtain ⟨A', cap', e, h1, h2⟩ := h
  cases e
  have h3 := h2.pre (m := 1) (by simp)
  rw [flatC_first] at h3
  exact ⟨_, _, rfl, by assumption, h3⟩
theorem Rk.cells {w : World} {A : Option Addr} {n cap : Nat} {k a b r : Int} {t : List Cmd} (h : Rk w (.slice A n cap) ((k, a, b, r) :: t)) : n = t.length + 1 ∧ t.length + 1 ≤ cap ∧ ∃ g off, A = some ⟨g, off, none⟩ ∧
    w.cell? ⟨g, off, none⟩ = some (.int .i64 k) ∧ w.cell? ⟨g, off + 1, none⟩ = some (.int .i64 a) ∧ w.cell? ⟨g, off + 2, none⟩ = some (.int .i64 b) ∧ w.cell? ⟨g, off + 3, none⟩ = some (.int .i32 r) := by
  obtain ⟨A', cap', e, h1, h2⟩ := h
  cases e
  refine ⟨by simp, h1, ?_⟩
  obtain ⟨_, A'', cap'', e, h3⟩ := h2
  cases e
  rcases h3 with ⟨h, _⟩ | ⟨g, off, rfl, hc⟩
  · simp at h
  · exact ⟨g, off, rfl, hc 0 _ rfl, hc 1 _ rfl, hc 2 _ rfl, hc 3 _ rfl⟩
/-- A link as the program has it. -/
def lv (k : Lnk) (v : Value) : Value := .agg #[.int .i64 k.room, v, .int .i64 k.sent, .int .i64 k.pad, .bool k.off]
set_option maxHeartbeats 2000000 in
set_option maxHeartbeats 4000000 in
theorem size_any (room sent pad : Int) (off : Bool) (l : List Cmd) (A : Option Addr) (cap : Nat) (w : World) (F : Forms w 0) (hr : Rk w (.slice A l.length cap) l) (hl : l.length ≤ 100000) (hs : 0 ≤ sent ∧ sent ≤ 8) :
    Calls Tryd.prog 33 #[.agg #[.int .i64 room, .slice A l.length cap, .int .i64 sent, .int .i64 pad, .bool off]] w fun e w' => e = .returned (.int .i64 (costL l - sent)) ∧ Below w.heap.size w w' := by
  have hb := costL_bd l
  have HC := Lib.hid (fun wz hb => vcost_any (.slice A l.length cap) l wz (F.below (w' := wz) hb) (hr.rw.below hb) hl)
  clear F hr
  have hz := IntWalk.i64_in ((costL l : Int) - sent) (by omega)
  go_enter Tryd.func33, Tryd.ntmps33
  go_wp2
  go_region_held3 (fun w' => w'.cell? ⟨w.heap.size, 1, none⟩ = some (.slice A l.length cap) ∧ w'.cell? ⟨w.heap.size, 2, none⟩ = some (.int .i64 sent) ∧ Below w.heap.size w w') (first | exact ⟨keepC (by assumption) (And.left (by assumption)), keepC (by assumption) (And.left (And.right (by assumption))), Below.trans (And.right (And.right (by assumption))) (Below.mono (by assumption) (Below.size (And.right (And.right (by assumption)))))⟩ | (go_keep; done) | exact ⟨by go_keep, by go_keep, Below.drew ((Below.refl _ _).alloc (Nat.le_refl _) _)⟩)
    (first | (go_at_call 32; refine (HC.out _ (And.right (And.right (by assumption)))).mono ?_; rintro e w' ⟨rfl, hb⟩))
  all_goals go_wp2
  all_goals go_ret
  all_goals exact ⟨rfl, And.right (And.right (by assumption))⟩
/-- A command was begun of which there is a byte left, or none was begun. -/
def snt : List Cmd → Int → Prop
  | [], s => s = 0
  | c :: _, s => 0 ≤ s ∧ s < (szC c : Int)
instance (l : List Cmd) (s : Int) : Decidable (snt l s) := match l with
  | [] => inferInstanceAs (Decidable (s = 0))
  | c :: _ => inferInstanceAs (Decidable (0 ≤ s ∧ s < (szC c : Int)))
set_option maxHeartbeats 4000000 in
theorem sent_any (room sent pad : Int) (off : Bool) (l : List Cmd) (A : Option Addr) (cap : Nat) (w : World) (F : Forms w 0) (hr : Rk w (.slice A l.length cap) l) (hl : l.length ≤ 100000) :
    Calls Tryd.prog 37 #[.agg #[.int .i64 room, .slice A l.length cap, .int .i64 sent, .int .i64 pad, .bool off]] w fun e w' => e = .returned (.bool (decide (snt l sent))) ∧ Below w.heap.size w w' := by
  cases l with
  | nil =>
    by_cases h : sent = 0
    · subst h
      go_enter Tryd.func37, Tryd.ntmps37
      go_wp2
      go_ret
      exact ⟨rfl, (Below.refl _ _).alloc (Nat.le_refl _) _⟩
    · have b1 : (sent == (0 : Int)) = false := by simp [h]
      go_enter Tryd.func37, Tryd.ntmps37
      go_wp2
      go_ret
      refine ⟨?_, (Below.refl _ _).alloc (Nat.le_refl _) _⟩
      rw [show decide (snt [] sent) = false from decide_eq_false h]
      simp
  | cons c t =>
    obtain ⟨k, a, b, r⟩ := c
    obtain ⟨hn, hcap, g, o, rfl, e0, e1, e2, e3⟩ := hr.cells
    have hne : (((t.length : Int) + 1) == 0) = false := by simp; omega
    have hnf : decide (((t.length : Int) + 1) = 0) = false := by simp; omega
    have HC := Lib.hid (fun wz hb u => vcost_any u [(k, a, b, r)] wz (F.below (w' := wz) hb))
    have hg := World.block_lt_of_cell? w _ e0
    simp only [List.length_cons] at hl ⊢
    clear F hr hn
    by_cases h : 0 ≤ sent
    · have hq : decide ((0 : Int) ≤ sent) = true := decide_eq_true h
      have hv : decide (snt ((k, a, b, r) :: t) sent) = decide (sent < (szC (k, a, b, r) : Int)) := by
        show decide (0 ≤ sent ∧ sent < (szC (k, a, b, r) : Int)) = _
        simp [h]
      have hco : ((costL [(k, a, b, r)] : Nat) : Int) = (szC (k, a, b, r) : Int) := rfl
      rw [hco] at HC
      generalize hzz : ((szC (k, a, b, r) : Nat) : Int) = z at *
      rw [hv]
      clear hv hco hzz
      go_enter Tryd.func37, Tryd.ntmps37
      go_wp2
      go_region_held3 (fun w' => w'.cell? ⟨w.heap.size, 1, none⟩ = some (.slice (some ⟨g, o, none⟩) (t.length + 1) cap) ∧ w'.cell? ⟨w.heap.size, 2, none⟩ = some (.int .i64 sent) ∧ w'.cell? ⟨g, o, none⟩ = some (.int .i64 k) ∧ w'.cell? ⟨g, o + 1, none⟩ = some (.int .i64 a) ∧ w'.cell? ⟨g, o + 2, none⟩ = some (.int .i64 b) ∧ w'.cell? ⟨g, o + 3, none⟩ = some (.int .i32 r) ∧ Below w.heap.size w w')
        (first | exact keep6 (by assumption) (by assumption) | exact keep6 ((Below.refl _ _).alloc (Nat.le_refl _) _) (by assumption) | (go_keep; done) | exact ⟨by go_keep, by go_keep, by go_keep, by go_keep, by go_keep, by go_keep, Below.drew ((Below.refl _ _).alloc (Nat.le_refl _) _)⟩)
        (first | (go_at_call 32; (have hS := And.right (And.right (And.right (And.right (And.right (And.right (by assumption))))))); refine (HC.out _ (by assumption) _ (Rk.oneAt (by first | exact heap_alloc_new _ _ | exact heap_alloc_new1 _ _ _ | exact heap_alloc_new2 _ _ _ _)).rw (by simp)).mono ?_; rintro e w' ⟨rfl, hb⟩))
      all_goals go_wp2
      all_goals go_ret
      all_goals exact ⟨rfl, And.right (And.right (And.right (And.right (And.right (And.right (by assumption))))))⟩
    · have hq : decide ((0 : Int) ≤ sent) = false := decide_eq_false h
      have hv : decide (snt ((k, a, b, r) :: t) sent) = false := decide_eq_false fun hh => h hh.1
      rw [hv]
      clear hv
      go_enter Tryd.func37, Tryd.ntmps37
      go_wp2
      go_quiet (fail)
      go_wp2
      go_ret
      exact ⟨rfl, by repeat (first | (with_reducible exact Below.refl _ _) | refine Below.alloc ?_ (by simp) _ | refine Below.dN ?_ _ | refine Below.drew ?_)⟩
theorem rt_iff (k : Lnk) : rt k ↔ (8 ≤ k.room ∧ k.room ≤ 48 ∧ 0 ≤ k.pad ∧ k.pad ≤ 2) ∧ (∀ c ∈ k.l, isR c = true) ∧ snt k.l k.sent ∧ (costL k.l : Int) - k.sent ≤ k.room := by
  obtain ⟨room, l, sent, pad, off⟩ := k
  cases l with
  | nil =>
    rw [rt_nil rfl]
    show _ ↔ _ ∧ _ ∧ sent = 0 ∧ ((costL [] : Nat) : Int) - sent ≤ room
    have : costL [] = 0 := rfl
    constructor
    · rintro ⟨h1, h2, h3, h4, h5⟩
      exact ⟨⟨h1, h2, h3, h4⟩, (fun c hc => by cases hc), h5, by show ((costL [] : Nat) : Int) - sent ≤ room; dsimp only at *; omega⟩
    · rintro ⟨⟨h1, h2, h3, h4⟩, _, h5, _⟩
      exact ⟨h1, h2, h3, h4, h5⟩
  | cons c t =>
    rw [rt_cons rfl]
    show _ ↔ _ ∧ _ ∧ (0 ≤ sent ∧ sent < (szC c : Int)) ∧ _
    constructor
    · rintro ⟨h1, h2, h3, h4, h5, h6, h7, h8⟩
      exact ⟨⟨h1, h2, h3, h4⟩, h6, ⟨h5, h7⟩, h8⟩
    · rintro ⟨⟨h1, h2, h3, h4⟩, h6, ⟨h5, h7⟩, h8⟩
      exact ⟨h1, h2, h3, h4, h5, h6, h7, h8⟩
theorem all_next {l : List Cmd} {k : Nat} (hk : k < l.length) (h : ∀ c ∈ l.take k, isR c = true) (h2 : isR (l.getD k d0) = true) : ∀ c ∈ l.take (k + 1), isR c = true := by
  intro c hc
  rw [List.take_add_one, List.getElem?_eq_getElem hk] at hc
  simp only [Option.toList, List.mem_append, List.mem_singleton] at hc
  rcases hc with hc | rfl
  · exact h c hc
  · simpa [List.getD, hk] using h2
theorem getD_in {l : List Cmd} {k : Nat} (hk : k < l.length) : l.getD k d0 ∈ l := by simp [List.getD, hk]
set_option maxRecDepth 100000 in
set_option maxHeartbeats 8000000 in
theorem lis_any (room sent pad : Int) (off : Bool) (l : List Cmd) (A : Option Addr) (cap : Nat) (w : World) (F : Forms w 0) (hr : Rk w (.slice A l.length cap) l) (hl : l.length ≤ 100000) :
    Calls Tryd.prog 17 #[.agg #[.int .i64 room, .slice A l.length cap, .int .i64 sent, .int .i64 pad, .bool off]] w fun e w' => e = .returned (.bool (decide (rt ⟨room, l, sent, pad, off⟩))) ∧ Below w.heap.size w w' := by
  by_cases hf : 8 ≤ room ∧ room ≤ 48 ∧ 0 ≤ pad ∧ pad ≤ 2
  case neg =>
    have hn : decide (rt ⟨room, l, sent, pad, off⟩) = false := decide_eq_false fun h => hf ((rt_iff _).1 h).1
    rw [hn]
    clear hn F hr
    by_cases h1 : room < 8
    · go_enter Tryd.func17, Tryd.ntmps17
      go_wp2
      go_ret
      exact ⟨rfl, (Below.refl _ _).alloc (Nat.le_refl _) _⟩
    by_cases h2 : 48 < room
    · go_enter Tryd.func17, Tryd.ntmps17
      go_wp2
      go_ret
      exact ⟨rfl, (Below.refl _ _).alloc (Nat.le_refl _) _⟩
    by_cases h3 : pad < 0
    · go_enter Tryd.func17, Tryd.ntmps17
      go_wp2
      go_ret
      exact ⟨rfl, (Below.refl _ _).alloc (Nat.le_refl _) _⟩
    have h4 : 2 < pad := by omega
    go_enter Tryd.func17, Tryd.ntmps17
    go_wp2
    go_ret
    exact ⟨rfl, (Below.refl _ _).alloc (Nat.le_refl _) _⟩
  obtain ⟨h1, h2, h3, h4⟩ := id hf
  have h1' : ¬ room < 8 := by omega
  have h2' : ¬ 48 < room := by omega
  have h3' : ¬ pad < 0 := by omega
  have h4' : ¬ 2 < pad := by omega
  have HF := Lib.hid F
  have HR := Lib.hid hr
  have HI := Lib.hid (rt_iff ⟨room, l, sent, pad, off⟩)
  have HH := Lib.hid hf
  clear F hr h1 h2 h3 h4 hf
  obtain ⟨hc, hC⟩ : ∃ x : True, Hid _ := ⟨trivial, Lib.hid (cmds_row HR.out.rw)⟩
  have hb0 := Lib.hid ((Below.refl w.heap.size w).alloc (Nat.le_refl _) (.cells #[.int .i64 room, .slice A l.length cap, .int .i64 sent, .int .i64 pad, .bool off] 24))
  have hg0 := Lib.hid (heap_alloc_new w (.cells #[.int .i64 room, .slice A l.length cap, .int .i64 sent, .int .i64 pad, .bool off] 24))
  have hz0 : (w.alloc (.cells #[.int .i64 room, .slice A l.length cap, .int .i64 sent, .int .i64 pad, .bool off] 24)).heap.size = w.heap.size + 1 := by simp
  go_enter Tryd.func17, Tryd.ntmps17
  go_wp2
  generalize hw0 : w.alloc (.cells #[.int .i64 room, .slice A l.length cap, .int .i64 sent, .int .i64 pad, .bool off] 24) = w0 at *
  clear hw0
  go_loopw [26] (fun i wr => ∃ k : Nat, k ≤ l.length ∧ i = .int .i64 k ∧ (∀ c ∈ l.take k, isR c = true) ∧ Below w0.heap.size w0 wr) (fun i _ => l.length - (intOf i).toNat)
  case atStart => exact ⟨0, by omega, rfl, fun c hc => by simp at hc, Below.refl _ _⟩
  case round =>
    obtain ⟨k, hk, rfl, ha, hw⟩ := hrel
    have HA := Lib.hid ha
    have HW := Lib.hid hw
    have HB := Lib.hid (hb0.out.trans (hw.mono hb0.out.size))
    have hg := carry hw hg0.out
    clear ha hw
    by_cases hlt : k < l.length
    · obtain ⟨A', cap', e, hcc⟩ := hC.out
      cases e
      rcases hcc with h0 | ⟨g, o, rfl, hcc⟩
      · omega
      obtain ⟨e0, e1, e2, e3⟩ := hcc k hlt
      replace e0 := keepC HB.out e0
      replace e1 := keepC HB.out e1
      replace e2 := keepC HB.out e2
      replace e3 := keepC HB.out e3
      have g0 := World.block_lt_of_cell? wr _ e0
      clear hcc
      have hT := Lib.hid (fun wz hb => vis_any (cK l k) (cA l k) (cB l k) (cR l k) wz (HF.out.below (w' := wz) hb))
      by_cases hi : isC (cK l k) (cA l k) (cB l k) (cR l k) = true
      · go_wp2_with fail
        refine (hT.out _ (HB.out.alloc HB.out.size _)).mono ?_
        rintro e w1 ⟨rfl, hw1⟩
        rw [hi]
        have HW1 := Lib.hid ((HW.out.alloc HW.out.size _).trans (hw1.mono (HW.out.alloc HW.out.size _).size))
        go_wp2
        go_roundw
        case rel => exact ⟨k + 1, by omega, by go_num, all_next hlt HA.out hi, HW1.out⟩
        case measure => simp [intOf]; omega
      · have hi : isC (cK l k) (cA l k) (cB l k) (cR l k) = false := by simpa using hi
        have hn : decide (rt ⟨room, l, sent, pad, off⟩) = false := decide_eq_false fun h => by
          have := (HI.out.1 h).2.1 _ (getD_in hlt)
          rw [show isR (l.getD k d0) = false from hi] at this
          cases this
        go_wp2_with fail
        refine (hT.out _ (HB.out.alloc HB.out.size _)).mono ?_
        rintro e w1 ⟨rfl, hw1⟩
        rw [hi]
        have HW1 := Lib.hid ((HB.out.alloc HB.out.size _).trans (hw1.mono (HB.out.alloc HB.out.size _).size))
        go_wp2
        go_ret
        exact ⟨ret_bool hn.symm, HW1.out⟩
    · obtain rfl : k = l.length := by omega
      rw [List.take_length] at HA
      clear hlt
      have HS := Lib.hid (fun wz hb => sent_any room sent pad off l A cap wz (HF.out.below (w' := wz) hb) (HR.out.below hb) hl)
      have HZ := Lib.hid (fun wz hb hs => size_any room sent pad off l A cap wz (HF.out.below (w' := wz) hb) (HR.out.below hb) hl hs)
      obtain ⟨⟨c0, c1, c2, c3, c4⟩, -, hz⟩ := blk5 hg
      have hbb := HB.out
      clear hg
      by_cases hs : snt l sent
      · have hv : decide (rt ⟨room, l, sent, pad, off⟩) = decide (((costL l : Nat) : Int) - sent ≤ room) := by
          have := HI.out
          by_cases hc : ((costL l : Nat) : Int) - sent ≤ room
          · rw [decide_eq_true hc, decide_eq_true (this.2 ⟨HH.out, HA.out, hs, hc⟩)]
          · rw [decide_eq_false hc, decide_eq_false fun h => hc (this.1 h).2.2.2]
        have hsb : 0 ≤ sent ∧ sent ≤ 8 := by
          cases l with
          | nil => have : sent = 0 := hs; omega
          | cons c t => have h1 : 0 ≤ sent ∧ sent < (szC c : Int) := hs; have := szC_le c; omega
        have hv2 := Lib.hid hv
        rw [decide_eq_true hs] at HS
        clear hv
        go_wp2
        go_region_held3 (fun w' => w'.cell? ⟨w.heap.size, 0, none⟩ = some (.int .i64 room) ∧ w'.cell? ⟨w.heap.size, 1, none⟩ = some (.slice A l.length cap) ∧ w'.cell? ⟨w.heap.size, 2, none⟩ = some (.int .i64 sent) ∧ w'.cell? ⟨w.heap.size, 3, none⟩ = some (.int .i64 pad) ∧ w'.cell? ⟨w.heap.size, 4, none⟩ = some (.bool off) ∧ Below w.heap.size w w')
          (first | exact keep5 (by assumption) (by assumption) | (go_keep; done) | exact ⟨by go_keep, by go_keep, by go_keep, by go_keep, by go_keep, Below.drew HB.out⟩)
          (first | (go_at_call 37; refine (HS.out _ (And.right (And.right (And.right (And.right (And.right (by assumption))))))).mono ?_; rintro e w' ⟨rfl, hb⟩)
                 | (go_at_call 33; refine (HZ.out _ (And.right (And.right (And.right (And.right (And.right (by assumption)))))) hsb).mono ?_; rintro e w' ⟨rfl, hb⟩))
        all_goals go_wp2
        all_goals go_ret
        all_goals exact ⟨ret_bool hv2.out.symm, And.right (And.right (And.right (And.right (And.right (by assumption)))))⟩
      · have hv2 : Hid (decide (rt ⟨room, l, sent, pad, off⟩) = false) := Lib.hid (decide_eq_false fun h => hs (HI.out.1 h).2.2.1)
        rw [decide_eq_false hs] at HS
        go_wp2
        first | go_region_with (first | (go_at_call 37; refine (HS.out _ (Below.drew HB.out)).mono ?_; rintro e w' ⟨rfl, hb⟩; have HB2 := Lib.hid ((Below.drew HB.out).trans (hb.mono (Below.drew HB.out).size)))) | fail
        all_goals go_wp2
        all_goals go_ret
        all_goals exact ⟨ret_bool hv2.out.symm, HB2.out⟩
end Go.Proofs.YtgpebdoafblacaaDoor
