/- Of no program: from a walk of a statement to its row; rows that came in. -/
import Derived.ProofKit
import Derived.OpenShut
import Derived.LaidMore
import Derived.Lay
import Derived.Lib.LaidTab
import Derived.Deep.Slices
import Derived.SevenTiedAt
import Derived.Stop.Joined
import Derived.Deep.DeepHandedRow
import Derived.Lib.SmallJoins
import Derived.Deep.Strs
import Derived.ChangeSame
import Derived.Test.YtogfnhhgbmnbpaaMLb
import Derived.Test.YtogfnhhgbmnbpaaRows
set_option linter.unusedVariables false
/- From a walk of a statement to its row: the arguments read as they did, nothing that was there has turned. Lemmas of no statement. -/
namespace Go.Proofs.Ytogfnhhgbmnbpaa
open Go.ChangeShapes Go.WideShapes Go.ChangeAt Go.RowKit L
section
variable {H : Type} {enc : TypeId × Value → H} {P : Program}
theorem trodAll_stays (hl : laidOutB P = true) {W W' : World} (hb : Below W.heap.size W W') (sp : Nat → Bool) : ∀ (ts : List TypeId) (vs : List Value) (ds : List (DataW H)) (ps : List MemPlace),
    (∀ t ∈ ts, P.readableRec t = true ∧ t < P.types.size) → DataW.TrodAll enc P W 0 (fun _ => true) true ts vs ds ps → (∀ x ∈ ps, x.block < W.heap.size) → (∀ x ∈ ps, sp x.block = true) →
    DataW.TrodAll enc P W' 0 sp true ts vs ds ps := by
  intro ts
  induction ts with
  | nil =>
    intro vs ds ps _ h _ _
    obtain ⟨rfl, rfl, rfl⟩ := trodAll_nil h
    exact trodAll_mk0
  | cons t ts ih =>
    intro vs ds ps hr h hlt hsp
    obtain ⟨v, vs', d, ds', p, q, rfl, rfl, rfl, hd, hrest⟩ := trodAll_cons h
    have hr' := hr t (List.mem_cons_self ..)
    refine trodAll_cons_mk (WideElems.Trod_stays hl hr'.1 hr'.2 hd (fun x hx => hb.same (hlt x (List.mem_append_left _ hx))) (fun x hx => hsp x (List.mem_append_left _ hx))) ?_
    exact ih vs' ds' q (fun t ht => hr t (List.mem_cons_of_mem _ ht)) hrest (fun x hx => hlt x (List.mem_append_right _ hx)) (fun x hx => hsp x (List.mem_append_right _ hx))
theorem post_law {f : Func} {s : ChangeSpec} {fresh handsOn again : Bool} {W W' : World} {args : Array Value} {ds gs : List (DataW H)} {before : List MemPlace} {tb : TypeId}
    (hl : laidOutB P = true) (hr : (f.params.toList.all fun t => P.readableRec t && decide (t < P.types.size)) = true) (hvars : s.vars = []) (hbool : P.underlying tb = some .bool) (hret : f.resultTypes = #[tb])
    (hW : DataW.Whole enc P f.params.toList s.vars false W args.toList ds gs before)
    (hres : (s.fn H (ds ++ gs)).results = [.lit (.bool true)]) (hargs : (s.fn H (ds ++ gs)).args = ds) (hvs : (s.fn H (ds ++ gs)).vars = [])
    (hb : Below W.heap.size W W') : s.post enc P f false fresh handsOn again W args (.bool true) W' := by
  have hlt : ∀ p ∈ before, p.block < W.heap.size := fun p hp => hW.lt p hp
  have hold : ∀ p ∈ before, (fun b => decide (b < W.heap.size)) p.block = true := fun p hp => by simpa using hlt p hp
  have hW2 := hW
  obtain ⟨p, q, hA, hV, hpq, hz, hn⟩ := hW
  rw [hvars] at hV
  obtain ⟨rfl, rfl⟩ := trodVars_none hV
  rw [List.append_nil] at hpq
  subst hpq
  have hr' : ∀ t ∈ f.params.toList, P.readableRec t = true ∧ t < P.types.size := fun t ht => by simpa using List.all_eq_true.1 hr t ht
  have ha : ∀ sp : Nat → Bool, (∀ x ∈ before, sp x.block = true) → DataW.TrodAll enc P W' 0 sp true f.params.toList args.toList (s.fn H (ds ++ [])).args before := fun sp hsp => by
    rw [hargs]
    exact trodAll_stays hl hb sp _ _ _ _ hr' hA hlt hsp
  have hrs : ∀ (b : Nat) (sp : Nat → Bool) (hd : Bool), DataW.TrodAll enc P W' b sp hd f.resultTypes.toList ((Value.bool true).resultList f.resultTypes.size) (s.fn H (ds ++ [])).results [] := fun b sp hd => by
    rw [hret, hres]
    exact trodAll_mk1 (shut_bool hbool true)
  have hvv : ∀ sp : Nat → Bool, DataW.TrodVars enc P W' sp s.vars (s.fn H (ds ++ [])).vars [] := fun sp => by rw [hvars, hvs]; rfl
  refine ⟨ds, [], before, [], before, [], hW2, hrs _ _ _, ha _ hold, hvv _, World.keptBut_mono (fun x hx => ⟨hx, by simpa using hx⟩) (hb.frame (· ∈ before)), fun _ => ?_⟩
  refine ⟨ok_one hret rfl (okWide_bool_mk hbool _), _, _, ([] ++ before) ++ [], ⟨[] ++ before, [], trodAll_append (ha _ (fun _ _ => rfl)) (hrs _ _ _), hvv _, rfl, ?_, ?_⟩, ?_⟩
  · intro b off hp
    have hin : MemPlace.cell b off ∈ before := by simpa using hp
    rw [hb.frozen (hlt _ hin)]
    exact hz b off hin
  · intro ha; cases ha
  · intro x hp _
    simpa using hp
/-- A slice of integers that came in is a row. -/
theorem open_row {t e : TypeId} {k : IntKind} {base : Nat} {W : World} {v : Value} {d : DataW H} {p : List MemPlace} (ht : P.underlying t = some (.slice e)) (he : P.underlying e = some (.int k)) (hc : P.cellsOf e = 1)
    (hok : Value.okWide P W .any base t v) (h : DataW.Trod enc P W 0 (fun _ => true) true t v d p) : ∃ xs : List Int, IsRow W v k xs ∧ xs.length ≤ maxLen ∧ ∀ n ∈ xs, (Lit.int k n).wf = true := by
  obtain ⟨a0, len, cap, rfl⟩ := okWide_slice ht hok
  obtain ⟨fuel, hf⟩ := h
  rcases open_ints ht he hc hf with ⟨hcs, _⟩ | ⟨a, len', cap', zs, hcs, _, hl, hm, hz, _, hcell, hwz⟩
  · simp [Value.cells] at hcs
    obtain ⟨rfl, rfl, rfl⟩ := hcs
    exact ⟨[], ⟨none, 0, rfl, .inl rfl⟩, by simp, fun n hn => by cases hn⟩
  · simp [Value.cells] at hcs
    obtain ⟨rfl, rfl, rfl⟩ := hcs
    have hzl : zs.length = cap := by simpa using hz
    refine ⟨zs.take len, ⟨some a, cap, by rw [List.length_take, Nat.min_eq_left (by omega)], ?_⟩, by rw [List.length_take]; omega, fun n hn => hwz n (List.mem_of_mem_take hn)⟩
    by_cases h0 : len = 0
    · left; rw [h0]; rfl
    · right
      obtain ⟨b, off, path⟩ := a
      have hp : path = none := by
        have := hcell 0 (by omega)
        cases path with
        | none => rfl
        | some _ =>
          simp [World.cell?, Addr.add] at this
          split at this <;> cases this
      subst hp
      refine ⟨b, off, rfl, fun j hj => ?_⟩
      rw [List.length_take] at hj
      have hcj := hcell j (by omega)
      have e1 : (⟨b, off, none⟩ : Addr).add j = ⟨b, off + j, none⟩ := by unfold Addr.add; split <;> simp_all
      rw [e1] at hcj
      rw [hcj, List.getD_eq_getElem?_getD, List.getD_eq_getElem?_getD, List.getElem?_take, if_pos (by omega)]
/-- A slice that came in and is nil has no room. -/
theorem row_nil {t e : TypeId} {base : Nat} {W : World} {v : Value} {d : DataW H} {p : List MemPlace} (ht : P.underlying t = some (.slice e))
    (hok : Value.okWide P W .any base t v) (h : DataW.Trod enc P W 0 (fun _ => true) true t v d p) : ∀ c, v = .slice none 0 c → c = 0 := by
  obtain ⟨a0, len, cap, rfl⟩ := okWide_slice ht hok
  obtain ⟨fuel, hf⟩ := h
  intro c hc
  rcases Deep.open_slice ht hf with ⟨hcs, _⟩ | ⟨a, len', cap', m, n, D, Pl, hcs, _⟩
  · simp [Value.cells] at hcs hc
    omega
  · simp [Value.cells] at hcs hc
    rw [hc.1] at hcs
    cases hcs.1
/-- The reach of a string that came in, by its place. -/
theorem reach_of {ts : List TypeId} {ds : List (DataW H)} (h : (DataW.weightsEach P ts ds).all (· ≤ reachBytes) = true) (j : Nat) (t : TypeId) (bs : List UInt8) (ht : ts[j]? = some t) (hd : ds[j]? = some (.lit (.string bs))) :
    bs.length ≤ 140737488351232 := by
  have gen : ∀ (ts : List TypeId) (ds : List (DataW H)) (j : Nat), ts[j]? = some t → ds[j]? = some (.lit (.string bs)) → bs.length ∈ DataW.weightsEach P ts ds := by
    intro ts
    induction ts with
    | nil => intro ds j ht; simp at ht
    | cons t' ts ih =>
      intro ds j ht hd
      cases ds with
      | nil => simp at hd
      | cons d ds =>
        cases j with
        | zero =>
          simp at hd
          subst hd
          simp [DataW.weightsEach, DataW.weights]
        | succ j =>
          have := ih ds j (by simpa using ht) (by simpa using hd)
          simp [DataW.weightsEach, this]
  have h2 : bs.length ≤ reachBytes := of_decide_eq_true (List.all_eq_true.1 h _ (gen ts ds j ht hd))
  exact h2
/-- Pairs of numbers, as cells. -/
def prs (k0 k1 : IntKind) (l : List (Int × Int)) : List Value := l.flatMap fun a => [.int k0 a.1, .int k1 a.2]
theorem prs_len (k0 k1 : IntKind) (l : List (Int × Int)) : (prs k0 k1 l).length = l.length * 2 := by
  induction l with
  | nil => rfl
  | cons a l ih => have e : prs k0 k1 (a :: l) = .int k0 a.1 :: .int k1 a.2 :: prs k0 k1 l := rfl; rw [e]; simp [ih]; omega
theorem prs_at (k0 k1 : IntKind) (l : List (Int × Int)) (i : Nat) (x : Int × Int) (h : l[i]? = some x) : (prs k0 k1 l)[i * 2]? = some (.int k0 x.1) ∧ (prs k0 k1 l)[i * 2 + 1]? = some (.int k1 x.2) := by
  induction l generalizing i with
  | nil => simp at h
  | cons a l ih =>
    have e : prs k0 k1 (a :: l) = .int k0 a.1 :: .int k1 a.2 :: prs k0 k1 l := rfl
    cases i with
    | zero => simp at h; subst h; rw [e]; exact ⟨rfl, rfl⟩
    | succ i =>
      obtain ⟨h1, h2⟩ := ih i (by simpa using h)
      rw [e, show (i + 1) * 2 = i * 2 + 1 + 1 by omega]
      exact ⟨by simpa using h1, by simpa using h2⟩
theorem addr_plain {w : World} {a : Addr} {u : Value} (h : w.cell? a = some u) : ∃ b off, a = ⟨b, off, none⟩ := by
  obtain ⟨b, off, path⟩ := a
  cases path with
  | none => exact ⟨b, off, rfl⟩
  | some _ =>
    exfalso
    simp only [World.cell?] at h
    split at h <;> simp at h
/-- A slice of pairs of numbers that came in. -/
theorem open_pairs {t s : TypeId} {f0 f1 : Field} {k0 k1 : IntKind} {base : Nat} {W : World} {v : Value} {d : DataW H} {p : List MemPlace} (ht : P.underlying t = some (.slice s)) (hs : P.underlying s = some (.struct #[f0, f1]))
    (h0 : P.underlying f0.type = some (.int k0)) (h1 : P.underlying f1.type = some (.int k1)) (hc : P.cellsOf s = 2) (c0 : P.cellsOf f0.type = 1) (c1 : P.cellsOf f1.type = 1) (o0 : f0.offset = 0) (o1 : f1.offset = 1)
    (hok : Value.okWide P W .any base t v) (hh : DataW.Trod enc P W 0 (fun _ => true) true t v d p) : ∃ l : List (Int × Int), Rw W v 2 l.length (prs k0 k1 l) ∧ l.length ≤ maxLen := by
  obtain ⟨A0, len0, cap0, rfl⟩ := okWide_slice ht hok
  obtain ⟨fuel, h⟩ := hh
  rcases Deep.open_slice ht h with ⟨hcs, _⟩ | ⟨a, len, cap, m, n, D, Pl, hcs, _, hl, hmx, hm, hx, hi⟩
  · simp [Value.cells] at hcs
    obtain ⟨rfl, rfl, rfl⟩ := hcs
    exact ⟨[], ⟨rfl, none, 0, rfl, .inl ⟨rfl, fun _ => rfl⟩⟩, Nat.zero_le _⟩
  · simp [Value.cells] at hcs
    obtain ⟨rfl, rfl, rfl⟩ := hcs
    have hmm : len0 ≤ m := by rw [hm]; split <;> omega
    have hcc : ∀ i, ∃ c : Int × Int, i < len0 → W.cell? ((a.add (i * 2)).add 0) = some (.int k0 c.1) ∧ W.cell? ((a.add (i * 2)).add 1) = some (.int k1 c.2) := fun i => by
      by_cases hil : i < len0
      · obtain ⟨cs', hcl, ht'⟩ := hi i (by omega)
        obtain ⟨y0, y1, n', hx', hl', g0, g1⟩ := trod_struct2 hs ht'
        rw [hc] at hl' hcl
        rw [c0] at g0
        rw [c1] at g1
        rw [o0] at g0
        rw [o1] at g1
        obtain ⟨z0, e0, _⟩ := DataW.trod_int h0 g0
        obtain ⟨z1, e1, _⟩ := DataW.trod_int h1 g1
        match cs', hl' with
        | [x0, x1], _ =>
          simp at e0 e1
          obtain ⟨_, _, hat⟩ := World.cells?_some hcl
          refine ⟨(z0, z1), fun _ => ⟨?_, ?_⟩⟩
          · have := hat 0 (by omega); simp [e0, e1] at this; exact this
          · have := hat 1 (by omega); simp [e0, e1] at this; exact this
      · exact ⟨(0, 0), fun h => absurd h hil⟩
    refine ⟨(List.range len0).map fun i => (hcc i).choose, ?_, by simp; omega⟩
    have hlen : ((List.range len0).map fun i => (hcc i).choose).length = len0 := by simp
    rw [hlen]
    refine ⟨by rw [prs_len, hlen], some a, _, rfl, ?_⟩
    by_cases hz : len0 = 0
    · exact .inl ⟨hz, fun h => by cases h⟩
    · obtain ⟨b, off, rfl⟩ := addr_plain (w := W) (a := a) (by simpa [Addr.add] using ((hcc 0).choose_spec (by omega)).1)
      refine .inr ⟨b, off, rfl, fun j u hu => ?_⟩
      have hj : j < len0 * 2 := by
        have := (List.getElem?_eq_some_iff.1 hu).1
        rw [prs_len, hlen] at this; exact this
      have hj2 : j / 2 < len0 := by omega
      obtain ⟨f1', f2'⟩ := prs_at k0 k1 ((List.range len0).map fun i => (hcc i).choose) (j / 2) ((hcc (j / 2)).choose) (by simp [hj2])
      have hsp := (hcc (j / 2)).choose_spec hj2
      generalize (hcc (j / 2)).choose = c at hsp f1' f2'
      obtain ⟨q1, q2⟩ := hsp
      rw [add_none, add_none] at q1 q2
      rcases (show j = j / 2 * 2 ∨ j = j / 2 * 2 + 1 by omega) with e | e
      · rw [e] at hu ⊢
        rw [f1'] at hu
        rw [← Option.some.inj hu]
        simpa using q1
      · rw [e] at hu ⊢
        rw [f2'] at hu
        rw [← Option.some.inj hu]
        simpa [Nat.add_assoc] using q2
end
end Go.Proofs.Ytogfnhhgbmnbpaa
