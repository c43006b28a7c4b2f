/- Lines with a point: the statements' example. -/
import Derived.Test.YtogfnhhgbmnbpaaGaF
import Derived.Test.YtogfnhhgbmnbpaaGaH
set_option linter.unusedVariables false
namespace Go.Proofs.Ytogfnhhgbmnbpaa
open Go.RowKit Go.PlainAid Gl L Gp
theorem Rr.of_blk {w : World} {b : Nat} {t : TypeId} {l : List Int} (h : w.heap[b]? = some (.cells (ints .i32 l).toArray t (0, 0))) : Rr w (.slice (some ⟨b, 0, none⟩) l.length l.length) l := by
  refine ⟨⟨by simp [ints], _, _, rfl, .inr ⟨b, 0, rfl, fun j u hu => ?_⟩⟩, _, _, rfl, Nat.le_refl _⟩
  rw [cell_of_row w b (0 + j) _ t (0, 0) h]
  simpa using hu
theorem Rr.litr {w : World} {b b' n : Nat} {t : TypeId} {l : List Int} {cs : Array Value} (h : w.heap[b]? = some (.cells cs t (0, 0))) (hc : cs = (ints .i32 l).toArray) (hn : l.length = n) (e : b = b') : Rr w (.slice (some ⟨b', 0, none⟩) n n) l := by
  subst hc hn e; exact Rr.of_blk h
namespace Gp
theorem s1 (A : Option Addr) (ca : Nat) (w : World) (hr : Rr w (.slice A 3 ca) [97, 98, 99]) : Calls Try.prog 9 #[.slice A 3 ca, .int .i64 1] w fun e w' => (∃ U V c d, e = .returned (.tuple #[.agg #[.slice U 1 c, .slice V 2 d], .int .i64 0]) ∧ Gr w' U V c d [97] [98, 99]) ∧ Below w.heap.size w w' := by
  have h := gof_any A ca [97, 98, 99] 1 [97] [98, 99] w hr (by decide) (by decide +kernel)
  rw [show ofE [97, 98, 99] 1 = 0 by decide +kernel] at h
  exact h
theorem s2 (A B : Option Addr) (ca cb : Nat) (C : Option Addr) (cc : Nat) (w : World) (h : Gr w A B ca cb [97] [98, 99]) (hc : Rr w (.slice C 1 cc) [120]) : Calls Try.prog 20 #[.agg #[.slice A 1 ca, .slice B 2 cb], .slice C 1 cc] w fun e w' => (∃ U V c d, e = .returned (.tuple #[.agg #[.slice U 2 c, .slice V 2 d], .int .i64 0]) ∧ Gr w' U V c d [97, 120] [98, 99]) ∧ Below w.heap.size w w' := by
  have h := gin_any A B C ca cb cc [97] [98, 99] [120] [97, 120] [98, 99] w h.1 h.2 hc (by decide) (by decide) (by decide) (by decide +kernel)
  rw [show inE ([97], [98, 99]) [120] = 0 by decide +kernel] at h
  exact h
theorem s3 (A B : Option Addr) (ca cb : Nat) (w : World) (h : Gr w A B ca cb [97, 120] [98, 99]) : Calls Try.prog 22 #[.agg #[.slice A 2 ca, .slice B 2 cb], .int .i64 (-2)] w fun e w' => (∃ U V c d Z k, e = .returned (.tuple #[.agg #[.slice U 0 c, .slice V 2 d], .slice Z 2 k]) ∧ Gr w' U V c d [] [98, 99] ∧ Rr w' (.slice Z 2 k) [97, 120]) ∧ Below w.heap.size w w' :=
  gcut_any A B ca cb [97, 120] [98, 99] (-2) [] [98, 99] [97, 120] w h.1 h.2 (by decide) (by decide) (by decide) (by decide +kernel) (by decide +kernel)
theorem s4 (A B : Option Addr) (ca cb : Nat) (w : World) (h : Gr w A B ca cb [97, 120] [98, 99]) : Calls Try.prog 22 #[.agg #[.slice A 2 ca, .slice B 2 cb], .int .i64 9] w fun e w' => (∃ U V c d Z k, e = .returned (.tuple #[.agg #[.slice U 2 c, .slice V 0 d], .slice Z 2 k]) ∧ Gr w' U V c d [97, 120] [] ∧ Rr w' (.slice Z 2 k) [98, 99]) ∧ Below w.heap.size w w' :=
  gcut_any A B ca cb [97, 120] [98, 99] 9 [97, 120] [] [98, 99] w h.1 h.2 (by decide) (by decide) (by decide) (by decide +kernel) (by decide +kernel)
theorem s5 (A : Option Addr) (ca : Nat) (w : World) (hr : Rr w (.slice A 1 ca) [97]) : Calls Try.prog 9 #[.slice A 1 ca, .int .i64 2] w fun e w' => (∃ U V c d, e = .returned (.tuple #[.agg #[.slice U 0 c, .slice V 0 d], .int .i64 1]) ∧ Gr w' U V c d [] []) ∧ Below w.heap.size w w' := by
  have h := gof_any A ca [97] 2 [] [] w hr (by decide) (by decide +kernel)
  rw [show ofE [97] 2 = 1 by decide +kernel] at h
  exact h
theorem s6 (A B : Option Addr) (ca cb : Nat) (C : Option Addr) (cc : Nat) (w : World) (h : Gr w A B ca cb [97] [98, 99]) (hc : Rr w (.slice C 1 cc) [-1]) : Calls Try.prog 20 #[.agg #[.slice A 1 ca, .slice B 2 cb], .slice C 1 cc] w fun e w' => (∃ U V c d, e = .returned (.tuple #[.agg #[.slice U 0 c, .slice V 0 d], .int .i64 1]) ∧ Gr w' U V c d [] []) ∧ Below w.heap.size w w' := by
  have h := gin_any A B C ca cb cc [97] [98, 99] [-1] [] [] w h.1 h.2 hc (by decide) (by decide) (by decide) (by decide +kernel)
  rw [show inE ([97], [98, 99]) [-1] = 1 by decide +kernel] at h
  exact h
theorem s7 (A B : Option Addr) (ca cb : Nat) (w : World) (h : Gr w A B ca cb [] [98, 99]) : Calls Try.prog 18 #[.agg #[.slice A 0 ca, .slice B 2 cb], .int .i64 9] w fun e w' => (∃ U V c d, e = .returned (.agg #[.slice U 2 c, .slice V 0 d]) ∧ Gr w' U V c d [98, 99] []) ∧ Below w.heap.size w w' :=
  ggo_any A B ca cb [] [98, 99] 9 [98, 99] [] w h.1 h.2 (by decide) (by decide) (by decide +kernel)
theorem s8 (A B : Option Addr) (ca cb : Nat) (w : World) (h : Gr w A B ca cb [97, 120] [98, 99]) : Calls Try.prog 16 #[.agg #[.slice A 2 ca, .slice B 2 cb]] w fun e w' => (∃ V c, e = .returned (.slice V 4 c) ∧ Rr w' (.slice V 4 c) [97, 120, 98, 99]) ∧ Below w.heap.size w w' :=
  gtext_any A B ca cb [97, 120] [98, 99] w h.1 h.2 (by decide) (by decide) [97, 120, 98, 99] rfl
theorem s9 (A B : Option Addr) (ca cb : Nat) (w : World) (h : Rr w (.slice A 4 ca) [97, 120, 98, 99]) (h' : Rr w (.slice B 4 cb) [97, 120, 98, 99]) : Calls Try.prog 15 #[.slice A 4 ca, .slice B 4 cb] w fun e w' => e = .returned (.bool true) ∧ Below w.heap.size w w' := by
  have h := same_any _ _ [97, 120, 98, 99] [97, 120, 98, 99] w h.row h'.row (by decide) (by decide)
  rw [show decide (([97, 120, 98, 99] : List Int) = [97, 120, 98, 99]) = true by decide +kernel] at h
  exact h
theorem s10 (A B : Option Addr) (ca cb : Nat) (w : World) (h : Rr w (.slice A 2 ca) [97, 120]) (h' : Rr w (.slice B 2 cb) [97, 120]) : Calls Try.prog 15 #[.slice A 2 ca, .slice B 2 cb] w fun e w' => e = .returned (.bool true) ∧ Below w.heap.size w w' := by
  have h := same_any _ _ [97, 120] [97, 120] w h.row h'.row (by decide) (by decide)
  rw [show decide (([97, 120] : List Int) = [97, 120]) = true by decide +kernel] at h
  exact h
theorem s11 (A B : Option Addr) (ca cb : Nat) (w : World) (h : Rr w (.slice A 2 ca) [98, 99]) (h' : Rr w (.slice B 2 cb) [98, 99]) : Calls Try.prog 15 #[.slice A 2 ca, .slice B 2 cb] w fun e w' => e = .returned (.bool true) ∧ Below w.heap.size w w' := by
  have h := same_any _ _ [98, 99] [98, 99] w h.row h'.row (by decide) (by decide)
  rw [show decide (([98, 99] : List Int) = [98, 99]) = true by decide +kernel] at h
  exact h
theorem s12 (A B : Option Addr) (ca cb : Nat) (w : World) (h : Gr w A B ca cb [97, 120] [98, 99]) : Calls Try.prog 13 #[.agg #[.slice A 2 ca, .slice B 2 cb]] w fun e w' => e = .returned (.bool true) ∧ Below w.heap.size w w' := by
  have h := gis_any A B ca cb [97, 120] [98, 99] w h.1 h.2 (by decide) (by decide)
  rw [show rt ([97, 120], [98, 99]) = true by decide +kernel] at h
  exact h
theorem s13 (A B : Option Addr) (ca cb : Nat) (w : World) (h : Gr w A B ca cb [-1] []) : Calls Try.prog 13 #[.agg #[.slice A 1 ca, .slice B 0 cb]] w fun e w' => e = .returned (.bool false) ∧ Below w.heap.size w w' := by
  have h := gis_any A B ca cb [-1] [] w h.1 h.2 (by decide) (by decide)
  rw [show rt ([-1], []) = false by decide +kernel] at h
  exact h
end Gp
set_option maxRecDepth 100000 in
set_option maxHeartbeats 16000000 in
theorem gapped_any (w : World) : Calls Try.prog 11 #[] w fun e w' => e = .returned (.bool true) ∧ Below w.heap.size w w' := by
  have V := Lib.hid (La.start w)
  go_enter Try.func11, Try.ntmps11
  simp only [List.append]
  replace V := Lib.hid (V.out.box #[.int .i32 97, .int .i32 98, .int .i32 99] 21)
  go_wp2_with fail
  refine (s1 _ _ _ (Rr.litr (V.out.at 0 rfl) rfl rfl rfl)).mono ?_
  rintro e w1 ⟨⟨U1, V1, p1, q1, rfl, hg⟩, hb⟩
  replace V := Lib.hid (V.out.call hb)
  clear hb
  replace V := Lib.hid (V.out.add _ hg (Stb.gr _ _ _ _ _ _))
  clear hg
  replace V := Lib.hid (V.out.box #[.slice U1 1 p1, .slice V1 2 q1] 24)
  replace V := Lib.hid (V.out.box #[.int .i32 120] 21)
  go_wp2_with fail
  refine (s2 U1 V1 p1 q1 _ _ _ (V.out.at 2 rfl) (Rr.litr (V.out.at 0 rfl) rfl rfl (one_size _ _))).mono ?_
  rintro e w2 ⟨⟨U2, V2, p2, q2, rfl, hg⟩, hb⟩
  replace V := Lib.hid (V.out.call hb)
  clear hb
  replace V := Lib.hid (V.out.add _ hg (Stb.gr _ _ _ _ _ _))
  clear hg
  replace V := Lib.hid (V.out.box #[.slice U2 2 p2, .slice V2 2 q2] 24)
  go_wp2_with fail
  refine (s3 U2 V2 p2 q2 _ (V.out.at 1 rfl)).mono ?_
  rintro e w3 ⟨⟨U3, V3, p3, q3, Z3, k3, rfl, hg, hz⟩, hb⟩
  replace V := Lib.hid (V.out.call hb)
  clear hb
  replace V := Lib.hid (V.out.add _ hg (Stb.gr _ _ _ _ _ _))
  replace V := Lib.hid (V.out.add _ hz (Stb.rr _ _))
  clear hg hz
  replace V := Lib.hid (V.out.box #[.slice U3 0 p3, .slice V3 2 q3] 24)
  have gp := V.out.at 3 rfl
  obtain ⟨⟨pa, pb⟩, -, pz⟩ := blk2 gp
  clear gp
  go_wp2_with fail
  clear pa pb pz
  refine (s4 U2 V2 p2 q2 _ (V.out.at 4 rfl)).mono ?_
  rintro e w4 ⟨⟨U4, V4, p4, q4, Z4, k4, rfl, hg, hz⟩, hb⟩
  replace V := Lib.hid (V.out.call hb)
  clear hb
  replace V := Lib.hid (V.out.add _ hg (Stb.gr _ _ _ _ _ _))
  replace V := Lib.hid (V.out.add _ hz (Stb.rr _ _))
  clear hg hz
  replace V := Lib.hid (V.out.box #[.slice U4 2 p4, .slice V4 0 q4] 24)
  replace V := Lib.hid (V.out.box #[.int .i32 97] 21)
  go_wp2_with fail
  refine (s5 _ _ _ (Rr.litr (V.out.at 0 rfl) rfl rfl (one_size _ _))).mono ?_
  rintro e w5 ⟨⟨U5, V5, p5, q5, rfl, hg⟩, hb⟩
  replace V := Lib.hid (V.out.call hb)
  clear hb
  replace V := Lib.hid (V.out.add _ hg (Stb.gr _ _ _ _ _ _))
  clear hg
  replace V := Lib.hid (V.out.box #[.slice U5 0 p5, .slice V5 0 q5] 24)
  have gp := V.out.at 12 rfl
  obtain ⟨⟨pa, pb⟩, -, pz⟩ := blk2 gp
  clear gp
  replace V := Lib.hid (V.out.box #[.int .i32 (-1)] 21)
  go_wp2_with fail
  clear pa pb pz
  refine (s6 U1 V1 p1 q1 _ _ _ (V.out.at 14 rfl) (Rr.litr (V.out.at 0 rfl) rfl rfl (one_size _ _))).mono ?_
  rintro e w6 ⟨⟨U6, V6, p6, q6, rfl, hg⟩, hb⟩
  replace V := Lib.hid (V.out.call hb)
  clear hb
  replace V := Lib.hid (V.out.add _ hg (Stb.gr _ _ _ _ _ _))
  clear hg
  replace V := Lib.hid (V.out.box #[.slice U6 0 p6, .slice V6 0 q6] 24)
  have gp := V.out.at 9 rfl
  obtain ⟨⟨pa, pb⟩, -, pz⟩ := blk2 gp
  clear gp
  go_wp2_with fail
  clear pa pb pz
  refine (s7 U3 V3 p3 q3 _ (V.out.at 11 rfl)).mono ?_
  rintro e w7 ⟨⟨U7, V7, p7, q7, rfl, hg⟩, hb⟩
  replace V := Lib.hid (V.out.call hb)
  clear hb
  replace V := Lib.hid (V.out.add _ hg (Stb.gr _ _ _ _ _ _))
  clear hg
  replace V := Lib.hid (V.out.box #[.slice U7 2 p7, .slice V7 0 q7] 24)
  have gp := V.out.at 14 rfl
  obtain ⟨⟨pa, pb⟩, -, pz⟩ := blk2 gp
  clear gp
  go_wp2_with fail
  clear pa pb pz
  refine (s8 U2 V2 p2 q2 _ (V.out.at 15 rfl)).mono ?_
  rintro e w8 ⟨⟨U8, p8, rfl, hg⟩, hb⟩
  replace V := Lib.hid (V.out.call hb)
  clear hb
  replace V := Lib.hid (V.out.add _ hg (Stb.rr _ _))
  clear hg
  replace V := Lib.hid (V.out.box #[.int .i32 97, .int .i32 120, .int .i32 98, .int .i32 99] 21)
  go_wp2_with fail
  refine (s9 U8 _ p8 _ _ (V.out.at 1 rfl) (Rr.litr (V.out.at 0 rfl) rfl rfl rfl)).mono ?_
  rintro e w9 ⟨rfl, hb⟩
  replace V := Lib.hid (V.out.call hb)
  clear hb
  replace V := Lib.hid (V.out.box #[.int .i32 97, .int .i32 120] 21)
  go_wp2_with fail
  refine (s10 Z3 _ k3 _ _ (V.out.at 15 rfl) (Rr.litr (V.out.at 0 rfl) rfl rfl rfl)).mono ?_
  rintro e w10 ⟨rfl, hb⟩
  replace V := Lib.hid (V.out.call hb)
  clear hb
  replace V := Lib.hid (V.out.box #[.int .i32 98, .int .i32 99] 21)
  go_wp2_with fail
  refine (s11 Z4 _ k4 _ _ (V.out.at 13 rfl) (Rr.litr (V.out.at 0 rfl) rfl rfl rfl)).mono ?_
  rintro e w11 ⟨rfl, hb⟩
  replace V := Lib.hid (V.out.call hb)
  clear hb
  have gp := V.out.at 15 rfl
  obtain ⟨⟨pa, pb⟩, -, pz⟩ := blk2 gp
  clear gp
  have gq := V.out.at 12 rfl
  obtain ⟨⟨qa, qb⟩, -, qz⟩ := blk2 gq
  clear gq
  replace V := Lib.hid (V.out.box #[.int .i32 97, .int .i32 120] 21)
  go_wp2_with fail
  clear pa pb pz qa qb qz
  refine (s10 U4 _ p4 _ _ (V.out.at 15 rfl).1 (Rr.litr (V.out.at 0 rfl) rfl rfl rfl)).mono ?_
  rintro e w12 ⟨rfl, hb⟩
  replace V := Lib.hid (V.out.call hb)
  clear hb
  have gp := V.out.at 13 rfl
  obtain ⟨⟨pa, pb⟩, -, pz⟩ := blk2 gp
  clear gp
  have gq := V.out.at 5 rfl
  obtain ⟨⟨qa, qb⟩, -, qz⟩ := blk2 gq
  clear gq
  replace V := Lib.hid (V.out.box #[.int .i32 98, .int .i32 99] 21)
  go_wp2_with fail
  clear pa pb pz qa qb qz
  refine (s11 U7 _ p7 _ _ (V.out.at 7 rfl).1 (Rr.litr (V.out.at 0 rfl) rfl rfl rfl)).mono ?_
  rintro e w13 ⟨rfl, hb⟩
  replace V := Lib.hid (V.out.call hb)
  clear hb
  have gp := V.out.at 20 rfl
  obtain ⟨⟨pa, pb⟩, -, pz⟩ := blk2 gp
  clear gp
  go_wp2_with fail
  clear pa pb pz
  refine (s12 U2 V2 p2 q2 _ (V.out.at 21 rfl)).mono ?_
  rintro e w14 ⟨rfl, hb⟩
  replace V := Lib.hid (V.out.call hb)
  clear hb
  replace V := Lib.hid (V.out.box #[.int .i32 (-1)] 21)
  go_wp2_with fail
  refine (s13 _ none _ 0 _ ⟨(Rr.litr (V.out.at 0 rfl) rfl rfl rfl), Rr.nil _⟩).mono ?_
  rintro e w15 ⟨rfl, hb⟩
  replace V := Lib.hid (V.out.call hb)
  clear hb
  go_wp2
  go_ret
  exact ⟨rfl, V.out.below⟩
end Go.Proofs.Ytogfnhhgbmnbpaa
