/- The statements' example of links. -/
import Derived.Test.YtgpebdoafblacaaDoorLkN
import Derived.Test.YtgpebdoafblacaaDoorLkO
import Derived.Test.YtgpebdoafblacaaDoorSeF
import Derived.BigGuardPart
set_option linter.unusedVariables false
namespace Go.Proofs.YtgpebdoafblacaaDoor
open Go.RowKit Go.PlainAid Gl L Vt Lk
theorem Stb.rk (v : Value) (l : List Cmd) : Stb fun w => Rk w v l := fun w w' h hb => h.below hb
theorem La.row {B : Nat} {W w : World} {Ts : List (World → Prop)} (h : La B W w Ts) {v : Value} {l : List Cmd} (hr : Rk w v l) : La B W w ((fun w' => Rk w' v l) :: Ts) := h.add _ hr (Stb.rk v l)
namespace Lk
def cR : Cmd := (7, 0, 0, 0)
def cS : Cmd := (1, 0, 0, 97)
theorem e0 : nw 8 = ⟨8, [], 0, 0, false⟩ ∧ nwE 8 = 0 := by decide +kernel
theorem e1 : ofr ⟨8, [], 0, 0, false⟩ (7, 0, 0, 0) = ⟨8, [(7, 0, 0, 0)], 0, 0, false⟩ ∧ ofE ⟨8, [], 0, 0, false⟩ (7, 0, 0, 0) = 0 := by decide +kernel
theorem e2 : ofr ⟨8, [(7, 0, 0, 0)], 0, 0, false⟩ (1, 0, 0, 97) = ⟨8, [(7, 0, 0, 0), (1, 0, 0, 97)], 0, 0, false⟩ ∧ ofE ⟨8, [(7, 0, 0, 0)], 0, 0, false⟩ (1, 0, 0, 97) = 0 := by decide +kernel
theorem e3 : ofr ⟨8, [(7, 0, 0, 0), (1, 0, 0, 97)], 0, 0, false⟩ (2, 9, 9, 0) = ⟨0, [], 0, 0, false⟩ ∧ ofE ⟨8, [(7, 0, 0, 0), (1, 0, 0, 97)], 0, 0, false⟩ (2, 9, 9, 0) = 5 := by decide +kernel
theorem e4 : ofr ⟨8, [(7, 0, 0, 0), (1, 0, 0, 97)], 0, 0, false⟩ (0, 0, 0, 0) = ⟨0, [], 0, 0, false⟩ ∧ ofE ⟨8, [(7, 0, 0, 0), (1, 0, 0, 97)], 0, 0, false⟩ (0, 0, 0, 0) = 1 := by decide +kernel
theorem s5 : (sd ⟨8, [(7, 0, 0, 0), (1, 0, 0, 97)], 0, 0, false⟩ 2).1.data = #[27, 91] ∧ (sd ⟨8, [(7, 0, 0, 0), (1, 0, 0, 97)], 0, 0, false⟩ 2).2 = ⟨8, [(7, 0, 0, 0), (1, 0, 0, 97)], 2, 0, false⟩ := by decide +kernel
theorem s6 : (sd ⟨8, [(7, 0, 0, 0), (1, 0, 0, 97)], 2, 0, false⟩ 9).1.data = #[75] ∧ (sd ⟨8, [(7, 0, 0, 0), (1, 0, 0, 97)], 2, 0, false⟩ 9).2 = ⟨8, [(1, 0, 0, 97)], 0, 1, false⟩ := by decide +kernel
theorem s7 : (sd ⟨8, [(1, 0, 0, 97)], 0, 1, false⟩ 9).1.data = #[] ∧ (sd ⟨8, [(1, 0, 0, 97)], 0, 1, false⟩ 9).2 = ⟨8, [(1, 0, 0, 97)], 0, 1, false⟩ := by decide +kernel
theorem t8 : (tk ⟨8, [(1, 0, 0, 97)], 0, 1, false⟩).pad = 0 := by decide +kernel
theorem s8 : (sd ⟨8, [(1, 0, 0, 97)], 0, 0, false⟩ 9).1.data = #[97] ∧ (sd ⟨8, [(1, 0, 0, 97)], 0, 0, false⟩ 9).2 = ⟨8, [], 0, 0, false⟩ := by decide +kernel
theorem d9 : dp ⟨8, [(7, 0, 0, 0), (1, 0, 0, 97)], 2, 0, false⟩ = ⟨8, [(7, 0, 0, 0)], 2, 0, false⟩ ∧ gn ⟨8, [(7, 0, 0, 0), (1, 0, 0, 97)], 2, 0, false⟩ = [(1, 0, 0, 97)] := by decide +kernel
theorem h10 : (hd ⟨8, [(7, 0, 0, 0), (1, 0, 0, 97)], 2, 0, false⟩ true).off = true := by decide +kernel
theorem s10 : (sd ⟨8, [(7, 0, 0, 0), (1, 0, 0, 97)], 2, 0, true⟩ 9).1.data = #[] ∧ (sd ⟨8, [(7, 0, 0, 0), (1, 0, 0, 97)], 2, 0, true⟩ 9).2 = ⟨8, [(7, 0, 0, 0), (1, 0, 0, 97)], 2, 0, true⟩ := by decide +kernel
theorem e11 : nw 7 = ⟨0, [], 0, 0, false⟩ ∧ nwE 7 = 4 := by decide +kernel
theorem r12 : (rs ⟨8, [(7, 0, 0, 0)], 2, 0, false⟩).data = #[75] := by decide +kernel
theorem i13 : rt ⟨8, [(7, 0, 0, 0)], 2, 0, false⟩ := by decide +kernel
theorem i14 : ¬ rt ⟨0, [], 0, 0, false⟩ := by decide +kernel
theorem of_data {s : ByteArray} {a : Array UInt8} (h : s.data = a) : s = ⟨a⟩ := by cases s; cases h; rfl
end Lk
set_option maxRecDepth 100000 in
set_option maxHeartbeats 16000000 in
theorem linked_any (w : World) (F : Forms w 0) : Calls Tryd.prog 15 #[] w fun e w' => e = .returned (.bool true) ∧ Below w.heap.size w w' := by
  have V := Lib.hid (La.start w)
  go_enter Tryd.func15, Tryd.ntmps15
  simp only [List.append]
  go_wp2_with fail
  refine (lnew_any 8 _).mono ?_
  rintro e w1 ⟨rfl, hb⟩
  rw [e0.1, e0.2]
  replace V := Lib.hid (V.out.call hb)
  clear hb
  replace V := Lib.hid (V.out.box #[.int .i64 8, .slice none 0 0, .int .i64 0, .int .i64 0, .bool false] 24)
  have gp := V.out.at 0 rfl
  obtain ⟨⟨pa, pb, pc, pd, pe⟩, -, pz⟩ := blk5 gp
  clear gp
  go_wp2_with fail
  clear pa pb pc pd pe pz
  refine (loffer_any 8 0 0 false 7 0 0 0 [] none 0 _ (F.below V.out.below) (Rk.nil _ none 0 (fun _ => rfl)) (by decide)).mono ?_
  rintro e w2 ⟨ho, hb⟩
  rw [e1.1, e1.2] at ho
  obtain ⟨A2, q2, rfl, hk⟩ := ho
  dsimp only at hk ⊢
  replace V := Lib.hid (V.out.call hb)
  clear hb
  replace V := Lib.hid (V.out.row (hk))
  clear hk
  replace V := Lib.hid (V.out.box #[.int .i64 8, .slice A2 1 q2, .int .i64 0, .int .i64 0, .bool false] 24)
  have gp := V.out.at 0 rfl
  obtain ⟨⟨pa, pb, pc, pd, pe⟩, -, pz⟩ := blk5 gp
  clear gp
  go_wp2_with fail
  clear pa pb pc pd pe pz
  refine (loffer_any 8 0 0 false 1 0 0 97 [(7, 0, 0, 0)] A2 q2 _ (F.below V.out.below) (V.out.at 1 rfl) (by decide)).mono ?_
  rintro e w3 ⟨ho, hb⟩
  rw [e2.1, e2.2] at ho
  obtain ⟨A3, q3, rfl, hk⟩ := ho
  dsimp only at hk ⊢
  replace V := Lib.hid (V.out.call hb)
  clear hb
  replace V := Lib.hid (V.out.row (hk))
  clear hk
  replace V := Lib.hid (V.out.box #[.int .i64 8, .slice A3 2 q3, .int .i64 0, .int .i64 0, .bool false] 24)
  have gp := V.out.at 0 rfl
  obtain ⟨⟨pa, pb, pc, pd, pe⟩, -, pz⟩ := blk5 gp
  clear gp
  go_wp2_with fail
  clear pa pb pc pd pe pz
  refine (loffer_any 8 0 0 false 2 9 9 0 [(7, 0, 0, 0), (1, 0, 0, 97)] A3 q3 _ (F.below V.out.below) (V.out.at 1 rfl) (by decide)).mono ?_
  rintro e w4 ⟨ho, hb⟩
  rw [e3.1, e3.2] at ho
  obtain ⟨A4, q4, rfl, hk⟩ := ho
  dsimp only at hk ⊢
  replace V := Lib.hid (V.out.call hb)
  clear hb
  replace V := Lib.hid (V.out.row (hk))
  clear hk
  replace V := Lib.hid (V.out.box #[.int .i64 0, .slice A4 0 q4, .int .i64 0, .int .i64 0, .bool false] 24)
  have gp := V.out.at 2 rfl
  obtain ⟨⟨pa, pb, pc, pd, pe⟩, -, pz⟩ := blk5 gp
  clear gp
  go_wp2_with fail
  clear pa pb pc pd pe pz
  refine (loffer_any 8 0 0 false 0 0 0 0 [(7, 0, 0, 0), (1, 0, 0, 97)] A3 q3 _ (F.below V.out.below) (V.out.at 3 rfl) (by decide)).mono ?_
  rintro e w5 ⟨ho, hb⟩
  rw [e4.1, e4.2] at ho
  obtain ⟨A5, q5, rfl, hk⟩ := ho
  dsimp only at hk ⊢
  replace V := Lib.hid (V.out.call hb)
  clear hb
  replace V := Lib.hid (V.out.row (hk))
  clear hk
  replace V := Lib.hid (V.out.box #[.int .i64 0, .slice A5 0 q5, .int .i64 0, .int .i64 0, .bool false] 24)
  have gp := V.out.at 4 rfl
  obtain ⟨⟨pa, pb, pc, pd, pe⟩, -, pz⟩ := blk5 gp
  clear gp
  go_wp2_with fail
  clear pa pb pc pd pe pz
  have hrow := V.out.at 5 rfl
  refine (lsend_any 8 0 0 false 2 [(7, 0, 0, 0), (1, 0, 0, 97)] A3 q3 _ (F.below V.out.below) hrow (by decide)).mono ?_
  rintro e w6 ⟨ho, hb⟩
  rw [of_data s5.1, s5.2] at ho
  obtain ⟨A6, q6, rfl, hk⟩ := ho
  dsimp only at hk ⊢
  replace hk := hk.below hb
  clear hrow
  replace V := Lib.hid (V.out.call hb)
  clear hb
  replace V := Lib.hid (V.out.row (hk))
  clear hk
  replace V := Lib.hid (V.out.box #[.int .i64 8, .slice A6 2 q6, .int .i64 2, .int .i64 0, .bool false] 24)
  have gp := V.out.at 0 rfl
  obtain ⟨⟨pa, pb, pc, pd, pe⟩, -, pz⟩ := blk5 gp
  clear gp
  go_wp2_with fail
  clear pa pb pc pd pe pz
  have hrow := V.out.at 1 rfl
  refine (lsend_any 8 2 0 false 9 [(7, 0, 0, 0), (1, 0, 0, 97)] A6 q6 _ (F.below V.out.below) hrow (by decide)).mono ?_
  rintro e w7 ⟨ho, hb⟩
  rw [of_data s6.1, s6.2] at ho
  obtain ⟨A7, q7, rfl, hk⟩ := ho
  dsimp only at hk ⊢
  replace hk := hk.below hb
  clear hrow
  replace V := Lib.hid (V.out.call hb)
  clear hb
  replace V := Lib.hid (V.out.row (hk))
  clear hk
  replace V := Lib.hid (V.out.box #[.int .i64 8, .slice A7 1 q7, .int .i64 0, .int .i64 1, .bool false] 24)
  have gp := V.out.at 0 rfl
  obtain ⟨⟨pa, pb, pc, pd, pe⟩, -, pz⟩ := blk5 gp
  clear gp
  go_wp2_with fail
  clear pa pb pc pd pe pz
  have hrow := V.out.at 1 rfl
  refine (lsend_any 8 0 1 false 9 [(1, 0, 0, 97)] A7 q7 _ (F.below V.out.below) hrow (by decide)).mono ?_
  rintro e w8 ⟨ho, hb⟩
  rw [of_data s7.1, s7.2] at ho
  obtain ⟨A8, q8, rfl, hk⟩ := ho
  dsimp only at hk ⊢
  replace hk := hk.below hb
  clear hrow
  replace V := Lib.hid (V.out.call hb)
  clear hb
  replace V := Lib.hid (V.out.row (hk))
  clear hk
  replace V := Lib.hid (V.out.box #[.int .i64 8, .slice A8 1 q8, .int .i64 0, .int .i64 1, .bool false] 24)
  have gp := V.out.at 0 rfl
  obtain ⟨⟨pa, pb, pc, pd, pe⟩, -, pz⟩ := blk5 gp
  clear gp
  go_wp2_with fail
  clear pa pb pc pd pe pz
  refine (ltick_any 8 0 1 false [(1, 0, 0, 97)] A8 q8 _ (F.below V.out.below) (V.out.at 1 rfl) (by decide)).mono ?_
  rintro e w9 ⟨rfl, hb⟩
  rw [t8]
  replace V := Lib.hid (V.out.call hb)
  clear hb
  go_wp2_with fail
  have hrow := V.out.at 1 rfl
  refine (lsend_any 8 0 0 false 9 [(1, 0, 0, 97)] A8 q8 _ (F.below V.out.below) hrow (by decide)).mono ?_
  rintro e w10 ⟨ho, hb⟩
  rw [of_data s8.1, s8.2] at ho
  obtain ⟨A10, q10, rfl, hk⟩ := ho
  dsimp only at hk ⊢
  replace hk := hk.below hb
  clear hrow
  replace V := Lib.hid (V.out.call hb)
  clear hb
  replace V := Lib.hid (V.out.row (hk))
  clear hk
  replace V := Lib.hid (V.out.box #[.int .i64 8, .slice A10 0 q10, .int .i64 0, .int .i64 0, .bool false] 24)
  have gp := V.out.at 6 rfl
  obtain ⟨⟨pa, pb, pc, pd, pe⟩, -, pz⟩ := blk5 gp
  clear gp
  go_wp2_with fail
  clear pa pb pc pd pe pz
  refine (ldrop_any 8 2 0 false [(7, 0, 0, 0), (1, 0, 0, 97)] A6 q6 _ (F.below V.out.below) (V.out.at 7 rfl) (by decide)).mono ?_
  rintro e w11 ⟨ho, hb⟩
  rw [d9.1, d9.2] at ho
  obtain ⟨AZ, qZ, AG, qG, rfl, hk, hg⟩ := ho
  dsimp only at hk hg ⊢
  replace V := Lib.hid (V.out.call hb)
  clear hb
  replace V := Lib.hid (V.out.row (hk))
  replace V := Lib.hid (V.out.row (hg))
  clear hk hg
  replace V := Lib.hid (V.out.box #[.int .i64 8, .slice AZ 1 qZ, .int .i64 2, .int .i64 0, .bool false] 24)
  have gp := V.out.at 9 rfl
  obtain ⟨⟨pa, pb, pc, pd, pe⟩, -, pz⟩ := blk5 gp
  clear gp
  go_wp2_with fail
  clear pa pb pc pd pe pz
  refine (lhold_any 8 2 0 false true [(7, 0, 0, 0), (1, 0, 0, 97)] A6 q6 _ (F.below V.out.below) (V.out.at 10 rfl) (by decide)).mono ?_
  rintro e w12 ⟨rfl, hb⟩
  rw [h10]
  replace V := Lib.hid (V.out.call hb)
  clear hb
  go_wp2_with fail
  have hrow := V.out.at 10 rfl
  refine (lsend_any 8 2 0 true 9 [(7, 0, 0, 0), (1, 0, 0, 97)] A6 q6 _ (F.below V.out.below) hrow (by decide)).mono ?_
  rintro e w13 ⟨ho, hb⟩
  rw [of_data s10.1, s10.2] at ho
  obtain ⟨A13, q13, rfl, hk⟩ := ho
  dsimp only at hk ⊢
  replace hk := hk.below hb
  clear hrow
  replace V := Lib.hid (V.out.call hb)
  clear hb
  replace V := Lib.hid (V.out.row (hk))
  clear hk
  replace V := Lib.hid (V.out.box #[.int .i64 8, .slice A13 2 q13, .int .i64 2, .int .i64 0, .bool true] 24)
  go_wp2_with fail
  refine (lnew_any 7 _).mono ?_
  rintro e w14 ⟨rfl, hb⟩
  rw [e11.1, e11.2]
  replace V := Lib.hid (V.out.call hb)
  clear hb
  replace V := Lib.hid (V.out.box #[.int .i64 0, .slice none 0 0, .int .i64 0, .int .i64 0, .bool false] 24)
  have gp := V.out.at 10 rfl
  obtain ⟨⟨da, db, dc, dd, de⟩, -, dz⟩ := blk5 gp
  clear gp
  have gp := V.out.at 6 rfl
  obtain ⟨⟨ya, yb, yc, yd, ye⟩, -, yz⟩ := blk5 gp
  clear gp
  have gp := V.out.at 3 rfl
  obtain ⟨⟨za, zb, zc, zd, ze⟩, -, zz⟩ := blk5 gp
  clear gp
  go_wp2_with fail
  refine (lrest_any 8 2 0 false [(7, 0, 0, 0)] AZ qZ _ (F.below V.out.below) (V.out.at 5 rfl) (by decide)).mono ?_
  rintro e wr1 ⟨rfl, hb⟩
  rw [of_data r12]
  replace V := Lib.hid (V.out.call hb)
  clear hb
  clear da db dc dd de dz ya yb yc yd ye yz za zb zc zd ze zz
  have gp := V.out.at 3 rfl
  obtain ⟨⟨za, zb, zc, zd, ze⟩, -, zz⟩ := blk5 gp
  clear gp
  go_wp2_with fail
  replace V := Lib.hid (V.out.make (.cells #[.int .i64 1, .int .i64 0, .int .i64 0, .int .i32 97] 26))
  refine (rsame_any (.slice AG 1 qG) _ [(1, 0, 0, 97)] [(1, 0, 0, 97)] _ (show Rk _ (.slice AG 1 qG) [(1, 0, 0, 97)] from V.out.at 4 rfl).rw (Rk.oneAt (heap_alloc_new _ _)).rw (by decide) (by decide)).mono ?_
  rintro e wr2 ⟨rfl, hb⟩
  rw [decide_eq_true (rfl : ([(1, 0, 0, 97)] : List Cmd) = [(1, 0, 0, 97)])]
  replace V := Lib.hid (V.out.call hb)
  clear hb
  clear za zb zc zd ze zz
  have gp := V.out.at 3 rfl
  obtain ⟨⟨za, zb, zc, zd, ze⟩, -, zz⟩ := blk5 gp
  clear gp
  go_wp2_with fail
  refine (lis_any 8 2 0 false [(7, 0, 0, 0)] AZ qZ _ (F.below V.out.below) (V.out.at 5 rfl) (by decide)).mono ?_
  rintro e wr3 ⟨rfl, hb⟩
  rw [decide_eq_true i13]
  replace V := Lib.hid (V.out.call hb)
  clear hb
  clear za zb zc zd ze zz
  go_wp2_with fail
  refine (lis_any 0 0 0 false [] none 0 _ (F.below V.out.below) (Rk.nil _ none 0 (fun _ => rfl)) (by decide)).mono ?_
  rintro e wr4 ⟨rfl, hb⟩
  rw [decide_eq_false i14]
  replace V := Lib.hid (V.out.call hb)
  clear hb
  go_wp2
  go_ret
  exact ⟨rfl, V.out.below⟩
end Go.Proofs.YtgpebdoafblacaaDoor
