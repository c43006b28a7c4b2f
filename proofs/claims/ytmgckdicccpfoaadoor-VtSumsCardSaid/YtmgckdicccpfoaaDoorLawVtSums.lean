/- VtSums: for every input the law returns true and each argument reads as it did. Condition: the tables of unicode/utf8 as the program lays them (the card ties them). -/
import Derived.Test.YtmgckdicccpfoaaDoorVtY
import Derived.Test.YtmgckdicccpfoaaDoorCrd
import Derived.Test.YtmgckdicccpfoaaDoorTabV
import Derived.SevenTiedAt
set_option linter.unusedVariables false
namespace Go.Proofs.YtmgckdicccpfoaaDoor
namespace lawVtSums
open Go.ChangeShapes Go.WideShapes Go.ChangeAt Go.WideMaps Go.WideElems Go.RowKit L
open Go.ChangeMaps (open_string)
theorem own : ownKnob Tryd.prog.godebug = none := by kernel_rfl
theorem laidOut : laidOutB Tryd.prog = true := by kernel_rfl
set_option maxRecDepth 100000 in
theorem lifted (os : Os) (started : os.Started) (H : Type) (enc : TypeId × Value → H) :
    ReturnsInHanded {} Tryd.checked os 7 .any (fun w args => (Rows.vtSumsSpec.pre enc Tryd.prog Tryd.f7 Rows.vtSumsRow.domain false w args ∧ laidMetH Tryd.prog Rows.vtSumsRow.laid w) ∧ sizedMet enc Tryd.prog Tryd.f7 (OpenSpec.ofChange Rows.vtSumsSpec) false w args)
      (Rows.vtSumsSpec.post enc Tryd.prog Tryd.f7 false true false false) := by
  refine returnsInHanded_of_change_and (C := Tryd.checked) (X := fun w _ => laidMetH Tryd.prog Rows.vtSumsRow.laid w) (fun _ _ _ hh h => h.of_heap hh) own started (by kernel_rfl) Tryd.func7
    (ChangeSpec.witness_shaped (enc := enc) (C := Tryd.checked) (os := os) (X := fun w _ => laidMetH Tryd.prog Rows.vtSumsRow.laid w) false (World.laidAll Tryd.prog os Rows.vtSumsRow.laid) #[.slice none 0 0, .slice none 0 0, .agg #[.int .i64 0, .int .i64 0, .int .i64 0, .int .i32 0]] 8 (World.laidAll_os _ _ _)
      (World.shaped_of_ZipB (by kernel_rfl) (by kernel_rfl)) (by kernel_rfl) (by kernel_rfl) (by kernel_rfl)
      (by rw [MakeChecks.laidMetH_plain _ _ _ (by kernel_rfl)]; exact laidMet_laidAll _ (by kernel_rfl) (by kernel_rfl))) ?_
  intro W base args ds gs before hval0 hW _ hz0 hL _
  have hval : ∀ (j : Nat) t v, Tryd.f7.params[j]? = some t → args[j]? = some v → Value.okWide Tryd.prog W .any base t v := hval0
  have hz : (DataW.weightsEach Tryd.prog (Tryd.f7.params.toList ++ Rows.vtSumsSpec.plain.varTypes Tryd.prog) (ds ++ gs)).all (· ≤ reachBytes) = true := hz0
  have hW' := hW
  obtain ⟨p, q, hA0, hV, rfl, hfz, hnd⟩ := hW
  have hA : DataW.TrodAll enc Tryd.prog W 0 (fun _ => true) true Tryd.f7.params.toList args.toList ds p := hA0
  rw [Tryd.params7] at hA hval hz
  obtain ⟨v0, vs0, d0, ds0, p0, q0, hargs, rfl, rfl, h0, r0⟩ := trodAll_cons hA
  obtain ⟨v1, vs1, d1, ds1, p1, q1, rfl, rfl, rfl, h1, r1⟩ := trodAll_cons r0
  obtain ⟨v2, vs2, d2, ds2, p2, q2, rfl, rfl, rfl, h2, r2⟩ := trodAll_cons r1
  obtain ⟨rfl, rfl, rfl⟩ := trodAll_nil r2
  obtain rfl : args = #[v0, v1, v2] := by cases args; simp_all
  obtain ⟨rfl, rfl⟩ := trodVars_none hV
  clear hA0 hval0 hz0
  obtain ⟨L0, hr0, hx0⟩ := TabV.open_cmds (hval 0 29 v0 rfl rfl) h0
  obtain ⟨L1, hr1, hx1⟩ := TabV.open_cmds (hval 1 29 v1 rfl rfl) h1
  obtain ⟨a2_0, a2_1, a2_2, a2_3, y2_0, y2_1, y2_2, y2_3, n2, rfl, rfl, rfl, t2_0, t2_1, t2_2, t2_3⟩ := Go.Joins.open_agg4 Tryd.underlying23 (by kernel_rfl) (by kernel_rfl) (hval 2 23 v2 rfl rfl) h2
  obtain ⟨x2_0, e2_0, _, wf2_0⟩ := DataW.trod_int Tryd.underlying3 t2_0
  simp only [List.cons.injEq, and_true] at e2_0
  subst e2_0
  have bd2_0 : -9223372036854775808 ≤ x2_0 ∧ x2_0 ≤ 9223372036854775807 := by simpa [Lit.wf, IntKind.min, IntKind.max, IntKind.signed, IntKind.bits] using wf2_0
  obtain ⟨x2_1, e2_1, _, wf2_1⟩ := DataW.trod_int Tryd.underlying3 t2_1
  simp only [List.cons.injEq, and_true] at e2_1
  subst e2_1
  have bd2_1 : -9223372036854775808 ≤ x2_1 ∧ x2_1 ≤ 9223372036854775807 := by simpa [Lit.wf, IntKind.min, IntKind.max, IntKind.signed, IntKind.bits] using wf2_1
  obtain ⟨x2_2, e2_2, _, wf2_2⟩ := DataW.trod_int Tryd.underlying3 t2_2
  simp only [List.cons.injEq, and_true] at e2_2
  subst e2_2
  have bd2_2 : -9223372036854775808 ≤ x2_2 ∧ x2_2 ≤ 9223372036854775807 := by simpa [Lit.wf, IntKind.min, IntKind.max, IntKind.signed, IntKind.bits] using wf2_2
  obtain ⟨x2_3, e2_3, _, wf2_3⟩ := DataW.trod_int Tryd.underlying21 t2_3
  simp only [List.cons.injEq, and_true] at e2_3
  subst e2_3
  have bd2_3 : -2147483648 ≤ x2_3 ∧ x2_3 ≤ 2147483647 := by simpa [Lit.wf, IntKind.min, IntKind.max, IntKind.signed, IntKind.bits] using wf2_3
  have T := tabs_of hL
  simp only [List.append_nil] at hW'
  refine (sums_law v0 v1 L0 L1 x2_0 x2_1 x2_2 x2_3 W hr0 hx0 hr1 hx1 T).mono fun e W' ⟨he, hb⟩ => ?_
  subst he
  exact ⟨_, rfl, post_law laidOut (by kernel_rfl) rfl Tryd.underlying4 rfl hW' rfl rfl rfl hb⟩
theorem said : Rows.VtSumsSaid :=
  OpenClaim.holds_of_wide 7 Tryd.f7 rfl rfl rfl rfl rfl rfl rfl ⟨rfl, rfl, rfl, rfl, rfl⟩ rfl rfl rfl rfl rfl (by kernel_rfl) Tryd.func7 (by kernel_rfl)
    (of_decide_eq_true (by kernel_rfl)) (by unfold Func.isWrapper; first | (rw [if_pos (by decide +kernel)]; kernel_rfl) | (rw [if_neg (by decide +kernel)]; exact ⟨rfl, rfl⟩))
    (fun os started H enc _ => lifted os started H enc)
theorem plain (f : FuncId) (fn : Func) (hf : Tryd.pinned.checked.prog.funcNamed Rows.vtSumsRow.func = some f) (hfn : Tryd.pinned.checked.prog.funcs[f]? = some fn) :
    false = Tryd.pinned.checked.prog.looks [] ∧ ∀ (j : Nat) t, fn.params[j]? = some t → Tryd.pinned.checked.prog.wantsStandIn t = false := by
  obtain rfl : f = 7 := Option.some.inj ((show Tryd.prog.funcNamed Rows.vtSumsRow.func = some 7 by kernel_rfl).symm.trans hf) |>.symm
  obtain rfl : fn = Tryd.f7 := (Option.some.inj (Tryd.func7.symm.trans hfn)).symm
  refine ⟨by kernel_rfl, fun j t ht => ?_⟩
  rw [Tryd.params7] at ht
  have hm : t ∈ [29, 29, 23] := by simpa using Array.mem_of_getElem? ht
  have hall : ([29, 29, 23].all fun u => !Tryd.prog.wantsStandIn u) = true := by kernel_rfl
  exact (show Tryd.prog.wantsStandIn t = false by simpa using List.all_eq_true.1 hall t hm)
theorem card : Rows.VtSumsCardSaid :=
  Claim7.holds_tied_plain_at .later [] _ _ _ _ said (fun _ h => by cases h) (by kernel_rfl) (fun _ h => by cases h) vtSums_row_tie rfl ⟨rfl, rfl⟩ (by kernel_rfl) rfl plain (by kernel_rfl)
end lawVtSums
end Go.Proofs.YtmgckdicccpfoaaDoor
