/- The walk of TermFills: it returns true, and turns nothing that was there. -/
import Derived.Test.YtkkioajmfkcloaaDoorTmM
set_option linter.unusedVariables false
namespace Go.Proofs.YtkkioajmfkcloaaDoor
open Go.RowKit Gl L Wd Gd Tm Vt
theorem below_dN1 (w : World) : Below w.heap.size w w.drew := ⟨rfl, rfl, rfl, Nat.le_refl _, fun _ _ => rfl⟩
theorem below_dNN (w : World) (n : Nat) : Below w.heap.size w (w.drewN n) := ⟨rfl, rfl, rfl, Nat.le_refl _, fun _ _ => rfl⟩
theorem isR_text (r : Int) : isR (1, 0, 0, r) = shw r := by unfold isR isC; simp
theorem doT_text (t : Trm) (r : Int) : doT t (1, 0, 0, r) = tx t r := rfl
theorem Rn.setO {w : World} {tb gb g off n cap : Nat} {l : List (Int × Int)} (h : Rn w tb gb (.slice (some ⟨g, off, none⟩) n cap) l) {b : Nat} (hb : g ≠ b) (o : Nat) (u : Value) : Rn (w.setCell ⟨b, o, none⟩ u) tb gb (.slice (some ⟨g, off, none⟩) n cap) l := by
  obtain ⟨g', off', cap', he, hc, h1, h2, h⟩ := h
  injection he with e1 e2 e3
  injection e1 with e1
  injection e1 with e1 e4
  subst e1 e4 e2 e3
  exact ⟨g, off, cap, rfl, hc, h1, h2, fun j x hx => by rw [World.cell?_of_block (w := w) (w' := w.setCell ⟨b, o, none⟩ u) (a := ⟨g, off + j, none⟩) (Below.heap_setCell _ _ _ _ hb)]; exact h j x hx⟩
def FH (W w : World) (tb cb gb nw nh : Nat) (X' : Int) (kd : Nat) (bw : Bool) (L' L : List (Int × Int)) (v5 : Value) (g2 o2 p2 : Nat) (r : Int) : Prop := FR W w tb cb gb nw nh X' kd bw L' L v5 (.slice (some ⟨g2, o2, none⟩) L.length p2) r
theorem FH.below {W w : World} {tb cb gb nw nh : Nat} {X' : Int} {kd : Nat} {bw : Bool} {L' L : List (Int × Int)} {v5 : Value} {g2 o2 p2 : Nat} {r : Int} (h : FH W w tb cb gb nw nh X' kd bw L' L v5 g2 o2 p2 r) : Below W.heap.size W w := FR.below h
theorem keepF {W w w' : World} {tb cb gb nw nh : Nat} {X' : Int} {kd : Nat} {bw : Bool} {L' L : List (Int × Int)} {v5 : Value} {g2 o2 p2 : Nat} {r : Int} (h : FH W w tb cb gb nw nh X' kd bw L' L v5 g2 o2 p2 r) (hb : Below w.heap.size w w') :
    w'.cell? ⟨gb, 0, none⟩ = some (.int .i64 nw) ∧ w'.cell? ⟨gb, 1, none⟩ = some (.int .i64 nh) ∧ w'.cell? ⟨gb, 2, none⟩ = some (.slice (some ⟨g2, o2, none⟩) L.length p2) ∧ FH W w' tb cb gb nw nh X' kd bw L' L v5 g2 o2 p2 r := by
  have h' : FH W w' tb cb gb nw nh X' kd bw L' L v5 g2 o2 p2 r := FR.call h hb
  obtain ⟨a, b, c, -⟩ := blk3 (FR.g h')
  exact ⟨a, b, c, h'⟩
def Cel3 (w : World) (gb nw nh : Nat) (v : Value) : Prop := w.cell? ⟨gb, 0, none⟩ = some (.int .i64 nw) ∧ w.cell? ⟨gb, 1, none⟩ = some (.int .i64 nh) ∧ w.cell? ⟨gb, 2, none⟩ = some v
theorem keep3 {w w' : World} {gb nw nh : Nat} {v : Value} (h : w.cell? ⟨gb, 0, none⟩ = some (.int .i64 nw) ∧ w.cell? ⟨gb, 1, none⟩ = some (.int .i64 nh) ∧ w.cell? ⟨gb, 2, none⟩ = some v) (hb : Below w.heap.size w w') :
    w'.cell? ⟨gb, 0, none⟩ = some (.int .i64 nw) ∧ w'.cell? ⟨gb, 1, none⟩ = some (.int .i64 nh) ∧ w'.cell? ⟨gb, 2, none⟩ = some v := by
  obtain ⟨a, b, c⟩ := h
  have z := World.block_lt_of_cell? w _ a
  exact ⟨by rw [old_cell hb _ _ z]; exact a, by rw [old_cell hb _ _ z]; exact b, by rw [old_cell hb _ _ z]; exact c⟩
theorem keep3s {w : World} {gb nw nh : Nat} {v : Value} (h : w.cell? ⟨gb, 0, none⟩ = some (.int .i64 nw) ∧ w.cell? ⟨gb, 1, none⟩ = some (.int .i64 nh) ∧ w.cell? ⟨gb, 2, none⟩ = some v) {b o : Nat} {u : Value} (hn : gb ≠ b) :
    (w.setCell ⟨b, o, none⟩ u).cell? ⟨gb, 0, none⟩ = some (.int .i64 nw) ∧ (w.setCell ⟨b, o, none⟩ u).cell? ⟨gb, 1, none⟩ = some (.int .i64 nh) ∧ (w.setCell ⟨b, o, none⟩ u).cell? ⟨gb, 2, none⟩ = some v := by
  obtain ⟨a, b', c⟩ := h
  exact ⟨by rw [World.cell?_of_block (Below.heap_setCell _ _ _ _ hn)]; exact a, by rw [World.cell?_of_block (Below.heap_setCell _ _ _ _ hn)]; exact b', by rw [World.cell?_of_block (Below.heap_setCell _ _ _ _ hn)]; exact c⟩
/-- The new grid, told: a row of neither block. -/
def PutTold (W w : World) (tb cb gb nw nh : Nat) (X' : Int) (kd : Nat) (bw : Bool) (L' L : List (Int × Int)) (v5 : Value) (g2 o2 p2 : Nat) (r : Int) (e : Ending) (w' : World) : Prop := ∃ g8 c8, e = .returned (.tuple #[.agg #[.int .i64 nw, .int .i64 nh, .slice (some ⟨g8, 0, none⟩) L'.length c8], .int .i64 0]) ∧ Below w.heap.size w w' ∧ w.heap.size ≤ g8 ∧ Rn w' tb gb (.slice (some ⟨g8, 0, none⟩) L'.length c8) L'
theorem put_fh {W w : World} {tb cb gb nw nh : Nat} {X' : Int} {kd : Nat} {bw : Bool} {L' L : List (Int × Int)} {v5 : Value} {g2 o2 p2 : Nat} {r : Int} (h : FH W w tb cb gb nw nh X' kd bw L' L v5 g2 o2 p2 r) (hm : L.length ≤ maxLen) (S : Spans w 2) (T : Blk w 0) {km : Nat} (hp : putB nw nh L (km : Nat) (kd : Nat) r = true) (hl : L' = putL nw L (km : Nat) (kd : Nat) r) :
    Calls Tryd.prog 13 #[.agg #[.int .i64 nw, .int .i64 nh, .slice (some ⟨g2, o2, none⟩) L.length p2], .int .i64 km, .int .i64 kd, .int .i32 r] w (PutTold W w tb cb gb nw nh X' kd bw L' L v5 g2 o2 p2 r) := by
  refine (gput_any nw nh km kd r _ L w (FR.rg h).rc.rw hm S T).mono ?_
  rintro e w' ⟨ho, hb⟩
  obtain ⟨v, rfl, hown⟩ := ho.is hp
  rw [← hl] at hown
  have hr := Rn.of_own hown (.inl (lt_of_block (FR.t h))) (.inl (lt_of_block (FR.g h)))
  obtain ⟨g8, c8, rfl, _, hw8⟩ := hown
  exact ⟨g8, c8, rfl, hb, (hw8.lt g8 rfl).1, hr⟩
/-- The first sign: the cursor is in the first column behind it just if it is of one cell. -/
theorem first_x (W H : Nat) (r : Int) (hW : 2 ≤ W) : (wd' r = 1 ∧ tx (nwT W H) r = ⟨W, H, putL W (newL W H) 0 0 r, 1, 0, false⟩) ∨ (wd' r ≠ 1 ∧ ((tx (nwT W H) r).x ≠ 1 ∨ (tx (nwT W H) r).k = true)) := by
  have hw : wd' r = 1 ∨ wd' r = 2 := by unfold wd'; have := cl_len r; omega
  have e1 : rowed (nwT W H) r = nwT W H := if_neg (by
    rintro (h | h)
    · cases h
    · have : (W : Int) < 0 + wd' r := h
      omega)
  unfold tx
  rw [e1]
  unfold adv
  by_cases h : wd' r = 1
  · left
    refine ⟨h, ?_⟩
    rw [if_neg (by show ¬ ((0 : Int) + wd' r = W); omega), h]
    rfl
  · right
    refine ⟨h, ?_⟩
    by_cases h2 : (nwT W H).x + wd' r = (nwT W H).w
    · rw [if_pos h2]; exact .inr rfl
    · rw [if_neg h2]; left; show (0 : Int) + wd' r ≠ 1; omega
set_option maxRecDepth 100000 in
set_option maxHeartbeats 16000000 in
theorem tfills_law (gw gh r : Int) (W : World) (S : Spans W 2) (T : Blk W 0) (F : Forms W 1) (U : Tabs W 3 4) :
    Calls Tryd.prog 4 #[.int .i64 gw, .int .i64 gh, .int .i32 r] W fun e w' => e = .returned (.bool true) ∧ Below W.heap.size W w' := by
  have V := Lib.hid (Lv.start W)
  cases hs : sidesB gw gh
  · have HS := Lib.hid hs
    clear hs
    go_enter Tryd.func4, Tryd.ntmps4
    go_wp2_with fail
    refine (tnew_any gw gh _ (T.below V.out.below)).mono ?_
    rintro e w1 ⟨ho, hb⟩
    obtain rfl := ho.isnt HS.out
    replace V := Lib.hid (((V.out.call hb (Nat.le_refl _)).box (Nat.le_refl _) #[.int .i64 0, .int .i64 0, .slice none 0 0, .int .i64 0, .int .i64 0, .bool false] 26).box (Nat.le_refl _) #[.int .i64 1, .int .i64 0, .int .i64 0, .int .i32 r] 36)
    clear ho hb
    have gp := V.out.bks 1 _ rfl
    dsimp only at gp
    obtain ⟨⟨pa, pb, pc, pd, pe, pf⟩, -, pz⟩ := blk6 gp
    obtain ⟨⟨qa, qb, qc, qd⟩, -, qz⟩ := blk4 (V.out.bks 0 _ rfl)
    dsimp only at qa qb qc qd qz
    clear gp
    go_wp2_with fail
    clear pa pb pc pd pe pf pz qa qb qc qd qz
    refine (tdo_any 0 0 0 0 1 0 0 r false [] none 0 _ (rc_nil _) (by decide +kernel) (by decide) (S.below V.out.below) (T.below V.out.below) (F.below V.out.below)).mono ?_
    rintro e w2 ⟨ho, hb⟩
    obtain rfl := ho.isnt (by rw [decide_eq_false rz]; simp)
    replace V := Lib.hid (((V.out.call hb (Nat.le_refl _)).box (Nat.le_refl _) #[.int .i64 0, .int .i64 0, .slice none 0 0, .int .i64 0, .int .i64 0, .bool false] 26))
    clear ho hb
    go_wp2_with fail
    refine (fed_any _ (S.below V.out.below) (T.below V.out.below) (F.below V.out.below) (U.below V.out.below)).mono ?_
    rintro e w3 ⟨rfl, hb⟩
    replace V := Lib.hid (V.out.call hb (Nat.le_refl _))
    go_wp2
    go_ret
    exact ⟨rfl, V.out.below⟩
  · obtain ⟨nw, rfl⟩ : ∃ n : Nat, gw = n := ⟨gw.toNat, by unfold sidesB at hs; rw [decide_eq_true_iff] at hs; omega⟩
    obtain ⟨nh, rfl⟩ : ∃ n : Nat, gh = n := ⟨gh.toNat, by unfold sidesB at hs; rw [decide_eq_true_iff] at hs; omega⟩
    have hs' : 2 ≤ nw ∧ nw ≤ 80 ∧ 1 ≤ nh ∧ nh ≤ 24 := by unfold sidesB at hs; rw [decide_eq_true_iff] at hs; omega
    obtain ⟨b1, b2, b3, b4⟩ := hs'
    have hnl : (newL nw nh).length ≤ maxLen := by
      unfold newL maxLen
      rw [List.length_replicate]
      have := Nat.mul_le_mul (show (nw : Int).toNat ≤ 80 by omega) (show (nh : Int).toNat ≤ 24 by omega)
      omega
    have HS := Lib.hid hs
    have HFX := Lib.hid (first_x nw nh r b1)
    have HNL := Lib.hid hnl
    clear hs hnl
    obtain ⟨fl, hfl⟩ : ∃ l, newL nw nh = l := ⟨_, rfl⟩
    have HFL := Lib.hid hfl
    have HNE := Lib.hid (show fl ≠ [] by
      rw [← hfl]
      intro h
      have := congrArg List.length h
      unfold newL at this
      rw [List.length_replicate, List.length_nil] at this
      have h2 := Nat.mul_le_mul (show 2 ≤ (nw : Int).toNat by omega) (show 1 ≤ (nh : Int).toNat by omega)
      omega)
    have hnw : nwT nw nh = ⟨nw, nh, fl, 0, 0, false⟩ := by rw [← hfl]; rfl
    have HRT := Lib.hid (nw_rt HS.out)
    rw [hnw] at HRT
    clear hfl
    go_enter Tryd.func4, Tryd.ntmps4
    go_wp2_with fail
    refine (tnew_any nw nh _ (T.below V.out.below)).mono ?_
    rintro e w1 ⟨ho, hb⟩
    rw [hnw] at ho
    obtain ⟨A1, c1, rfl, hk⟩ := ho.is HS.out (rc_nil _)
    dsimp only at hk ⊢
    have HK := Lib.hid hk
    have HV1 := Lib.hid (show Below W.heap.size W w1 from hb)
    replace V := Lib.hid ((((V.out.call hb (Nat.le_refl _)).row (hk.rc (rc_nil _))).box (Nat.le_refl _) #[.int .i64 nw, .int .i64 nh, .slice A1 fl.length c1, .int .i64 0, .int .i64 0, .bool false] 26).box (Nat.le_refl _) #[.int .i64 1, .int .i64 0, .int .i64 0, .int .i32 r] 36)
    clear ho hk
    have gp := V.out.bks 1 _ rfl
    dsimp only at gp
    obtain ⟨⟨pa, pb, pc, pd, pe, pf⟩, -, pz⟩ := blk6 gp
    obtain ⟨⟨qa, qb, qc, qd⟩, -, qz⟩ := blk4 (V.out.bks 0 _ rfl)
    dsimp only at qa qb qc qd qz
    clear gp
    go_wp2_with fail
    clear pa pb pc pd pe pf pz qa qb qc qd qz
    refine (tdo_any nw nh 0 0 1 0 0 r false fl A1 c1 _ (V.out.rws 0 _ rfl) (by rw [← HFL.out]; exact HNL.out) (by omega) (S.below V.out.below) (T.below V.out.below) (F.below V.out.below)).mono ?_
    rintro e w2 ⟨ho, hb2⟩
    rw [decide_eq_true HRT.out, Bool.and_true, isR_text, doT_text, ← hnw] at ho
    replace V := Lib.hid (V.out.call hb2 (Nat.le_refl _))
    cases hsh : shw r
    · rw [hsh] at ho
      obtain rfl := ho.isnt rfl
      replace V := Lib.hid (((V.out.box (Nat.le_refl _) #[.int .i64 0, .int .i64 0, .slice none 0 0, .int .i64 0, .int .i64 0, .bool false] 26)))
      clear ho hb hb2 hsh
      go_wp2_with fail
      refine (fed_any _ (S.below V.out.below) (T.below V.out.below) (F.below V.out.below) (U.below V.out.below)).mono ?_
      rintro e w3 ⟨rfl, hb⟩
      replace V := Lib.hid (V.out.call hb (Nat.le_refl _))
      go_wp2
      go_ret
      exact ⟨rfl, V.out.below⟩
    · have HSH := Lib.hid hsh
      obtain ⟨A2, c2, rfl, hk2⟩ := ho.is hsh (V.out.rws 0 _ rfl)
      clear ho hsh
      rcases HFX.out with ⟨hwd, htx⟩ | ⟨hwd, hx⟩
      · have hb3 := V.out.below.size
        have hkk := hk2
        rw [htx] at hk2 ⊢
        generalize putL nw (newL nw nh) 0 0 r = pl at *
        have HWD := Lib.hid hwd
        have HB2 := Lib.hid hb2
        clear hkk hwd htx hk2
        dsimp only
        replace V := Lib.hid (((V.out.box (Nat.le_refl _) #[.int .i64 nw, .int .i64 nh, .slice A2 pl.length c2, .int .i64 1, .int .i64 0, .bool false] 26)))
        have gp := V.out.bks 0 _ rfl
        dsimp only at gp
        obtain ⟨⟨pa, pb, pc, pd, pe, pf⟩, -, pz⟩ := blk6 gp
        clear gp
        go_wp2_with fail
        clear pa pb pc pd pe pf pz
        refine (new_any nw nh _ (T.below V.out.below)).mono ?_
        rintro e w3 ⟨ho, hb⟩
        rw [HFL.out] at ho
        obtain ⟨v3, rfl, hown⟩ := ho.is HS.out
        obtain ⟨g3, c3, rfl, hc3, hr3⟩ := hown
        have hown : Own (w2.alloc (.cells #[.int .i64 nw, .int .i64 nh, .slice A2 pl.length c2, .int .i64 1, .int .i64 0, .bool false] 26)).heap.size w3 (.slice (some ⟨g3, 0, none⟩) fl.length c3) fl := ⟨g3, c3, rfl, hc3, hr3⟩
        replace V := Lib.hid (V.out.call hb (Nat.le_refl _))
        have gt := V.out.bks 2 _ rfl
        have gc := V.out.bks 1 _ rfl
        dsimp only at gt gc
        have J : Hid (FR W (w3.alloc (.cells #[.int .i64 nw, .int .i64 nh, .slice (some ⟨g3, 0, none⟩) fl.length c3] 24)) w1.heap.size (w1.heap.size + 1) w3.heap.size nw nh 0 0 false fl fl (.slice A1 fl.length c1) (.slice (some ⟨g3, 0, none⟩) fl.length c3) r) := by
          have hW1 := HV1.out.size
          have hq1 : Below w1.heap.size w1 w2 := (((Below.refl _ w1).alloc (Nat.le_refl _) _).alloc (by simp) _).trans (HB2.out.mono (by rw [two_size]; omega))
          have hq2 := hq1.size
          have hq3 : Below w1.heap.size w1 w3 := (hq1.alloc hq2 _).trans (hb.mono (by rw [one_size]; omega))
          have hq4 := hb.size
          rw [one_size] at hq4
          have hq5 := HB2.out.size
          rw [two_size] at hq5
          have hk : Own W.heap.size w1 (.slice A1 fl.length c1) fl := by
            rcases HK.out with ⟨_, h⟩ | h
            · exact absurd h HNE.out
            · exact h
          rw [one_size] at gc
          refine ⟨V.out.below.alloc V.out.below.size _, carryA _ gt, carryA _ gc, heap_alloc_new w3 _, ?_, ?_, by omega, by omega, by omega, by omega, by omega⟩
          · exact (Rn.of_own hk (.inr (Nat.le_refl _)) (.inr (by omega))).below (hq3.alloc (by omega) _)
          · rw [one_size] at hown
            exact (Rn.of_own hown (.inl (by omega)) (.inr (Nat.le_refl _))).below ((Below.refl _ _).alloc (Nat.le_refl _) _)
        clear gt gc hown hr3 hb hc3 V HB2 HK hb3
        obtain ⟨N, hN⟩ : ∃ N, nw * nh = N := ⟨_, rfl⟩
        have hN2 : N ≤ 1920 := by rw [← hN]; exact Nat.mul_le_mul b2 b4
        have hmul : (nw : Int) * (nh : Int) = (N : Int) := by rw [← hN]; exact (Int.natCast_mul _ _).symm
        have hNw := IntWalk.i64_in ((nw : Int) * (nh : Int)) (by rw [hmul]; omega)
        rw [hmul] at hNw
        have HNN := Lib.hid hN
        clear hN
        go_wp2_with fail
        generalize w3.alloc (.cells #[.int .i64 nw, .int .i64 nh, .slice (some ⟨g3, 0, none⟩) fl.length c3] 24) = w4 at *
        generalize w3.heap.size = gb at *
        generalize w1.heap.size = tb at *
        generalize tb + 1 = cb at *
        clear HFX HV1 HNE HRT hnw
        go_loopw [14] (fun i wr => FillRel W tb cb gb nw nh r i wr) (fun i _ => N - (intOf i).toNat)
        case atStart => exact ⟨0, _, _, Nat.zero_le _, rfl, by rw [show fillL nw nh r 0 = fl from HFL.out]; exact J.out⟩
        case round =>
          clear J
          obtain ⟨k, v, v2, hk, rfl, j⟩ := hrel
          rw [HNN.out] at hk
          have JJ := Lib.hid j
          clear j
          by_cases hlt : k < N
          · have hlt' : k < nw * nh := by rw [HNN.out]; exact hlt
            have HNX := Lib.hid (fill_next nw nh r b1 HWD.out k hlt')
            have HRK := Lib.hid (fill_rt nw nh r HS.out HSH.out HWD.out k (by omega))
            have HRS := Lib.hid (fill_rt nw nh r HS.out HSH.out HWD.out (k + 1) (by omega))
            have HMY := Lib.hid (fill_may nw nh r HS.out HSH.out HWD.out k hlt')
            have hLs : (fillL nw nh r (k + 1)) = putL nw (fillL nw nh r k) ((k % nw : Nat) : Int) ((k / nw : Nat) : Int) r := rfl
            have hll : (fillL nw nh r k).length ≤ 1000000 := by
              have h := HRK.out.1.2.1
              rw [fill_all] at h
              dsimp only at h
              rw [hmul] at h
              omega
            have hfa := fill_all nw nh r k
            have hfb := fillT_succ nw nh r k
            rw [hfa] at HNX HRK
            rw [hfb] at HNX HRS
            clear hfa
            generalize (fillT nw nh r k).x = x at *
            generalize (fillT nw nh r k).y = y at *
            generalize (fillT nw nh r k).k = kk at *
            obtain ⟨X', hX⟩ : ∃ X' : Int, (if k % nw + 1 = nw then (nw : Int) - 1 else ((k % nw : Nat) : Int) + 1) = X' := ⟨_, rfl⟩
            have hbw : (((k % nw : Nat) : Int) == (nw : Int) - 1) = decide (k % nw + 1 = nw) := by
              rw [Bool.eq_iff_iff, beq_iff_eq, decide_eq_true_iff]; omega
            have hm1 : (k : Int).tmod (nw : Int) = ((k % nw : Nat) : Int) := by rw [Int.tmod_eq_emod_of_nonneg (by omega)]; norm_cast
            have hm2 : (k : Int) % (nw : Int) = ((k % nw : Nat) : Int) := by norm_cast
            have hd1 : (k : Int).tdiv (nw : Int) = ((k / nw : Nat) : Int) := by rw [Int.tdiv_eq_ediv_of_nonneg (by omega)]; norm_cast
            have hd2 : (k : Int) / (nw : Int) = ((k / nw : Nat) : Int) := by norm_cast
            have hkm : k % nw < nw := Nat.mod_lt _ (by omega)
            have hkd : k / nw ≤ k := Nat.div_le_self _ _
            rw [hX] at HNX HRS hfb
            have HFB := Lib.hid hfb
            have HLS := Lib.hid hLs
            clear hfb hLs hlt' hX
            generalize decide (k % nw + 1 = nw) = bw at *
            generalize k % nw = km at *
            generalize k / nw = kd at *
            generalize fillL nw nh r k = L at *
            generalize fillL nw nh r (k + 1) = L' at *
            obtain ⟨g1, o1, p1, rfl, hp1, -⟩ := JJ.out.rt
            obtain ⟨g2, o2, p2, rfl, hp2, -⟩ := JJ.out.rg
            obtain ⟨⟨pa, pb, pc, pd, pe, pf⟩, ⟨ea, eb, ec, ed, ee, ef⟩, pz⟩ := blk6 JJ.out.t
            obtain ⟨⟨qa, qb, qc, qd⟩, -, qz⟩ := blk4 JJ.out.c
            clear hp1 hp2
            go_wp2_with fail
            clear pa pb pc pd pe pf pz qa qb qc qd qz ea eb ec ed ee ef
            refine (tdo_any nw nh x y 1 0 0 r kk L _ _ _ JJ.out.rt.rc (by unfold maxLen; omega) (by omega) (S.below JJ.out.below) (T.below JJ.out.below) (F.below JJ.out.below)).mono ?_
            rintro e w5 ⟨ho, hb5⟩
            rw [decide_eq_true HRK.out, Bool.and_true, isR_text, doT_text, HNX.out] at ho
            obtain ⟨A5, c5, rfl, hk5⟩ := ho.is HSH.out (JJ.out.rt.rc.below hb5)
            dsimp only at hk5 ⊢
            have hr5 := Rn.of_kp hk5 JJ.out.rt hb5 (lt_of_block JJ.out.t) (lt_of_block JJ.out.g)
            have J5 := Lib.hid (JJ.out.call hb5)
            have J6 := Lib.hid (J5.out.setT (x' := X') (y' := (kd : Int)) (k' := bw) hr5)
            clear hk5 hr5 ho hb5 JJ
            obtain ⟨⟨pa, pb, pc, pd, pe, pf⟩, ⟨ea, eb, ec, ed, ee, ef⟩, pz⟩ := blk6 J5.out.t
            go_wp2_with fail
            clear ea eb ec ed ee ef pz pa pb pc pd pe pf
            generalize hwq : ((((((w5.setCell ⟨tb, 0, none⟩ (.int .i64 nw)).setCell ⟨tb, 1, none⟩ (.int .i64 nh)).setCell ⟨tb, 2, none⟩ (.slice A5 L'.length c5)).setCell ⟨tb, 3, none⟩ (.int .i64 X')).setCell ⟨tb, 4, none⟩ (.int .i64 kd)).setCell ⟨tb, 5, none⟩ (.bool bw)) = wq at J6
            clear J5
            obtain ⟨pa, pb, pc, -, -, -, pz⟩ := blk3 J6.out.g
            have hk0 : (0 : Int) ≤ (km : Int) := by omega
            have hkd0 : (0 : Int) ≤ (kd : Int) := by omega
            have hnz : ¬ nw = 0 := by omega
            have hwk := IntWalk.i64_in (kd : Int) (by omega)
            clear hwq
            have HMC := Lib.hid HMY.out
            have HPUT : Hid (∀ wz : World, FH W wz tb cb gb nw nh X' kd bw L' L (.slice A5 L'.length c5) g2 o2 p2 r → Calls Tryd.prog 13 #[.agg #[.int .i64 nw, .int .i64 nh, .slice (some ⟨g2, o2, none⟩) L.length p2], .int .i64 km, .int .i64 kd, .int .i32 r] wz (PutTold W wz tb cb gb nw nh X' kd bw L' L (.slice A5 L'.length c5) g2 o2 p2 r)) := fun wz h => put_fh h (by unfold maxLen; omega) (S.below h.below) (T.below h.below) HMY.out HLS.out
            have HF0 : Hid (FH W wq.drew tb cb gb nw nh X' kd bw L' L (.slice A5 L'.length c5) g2 o2 p2 r) := FR.call J6.out (below_dN1 _)
            have HF1 : Hid (FH W (wq.alloc (.cells #[.int .i64 0, .int .i64 0, .slice none 0 0] 24)).drew tb cb gb nw nh X' kd bw L' L (.slice A5 L'.length c5) g2 o2 p2 r) := FR.call J6.out ((Below.refl _ _).alloc (Nat.le_refl _) _).drew
            have HD3 : Hid (Cel3 (wq.alloc (.cells #[.int .i64 0, .int .i64 0, .slice none 0 0] 24)).drew gb nw nh (.slice (some ⟨g2, o2, none⟩) L.length p2)) := by have h := keepF HF1.out (Below.refl _ _); exact ⟨h.1, h.2.1, h.2.2.1⟩
            have HW0 := Lib.hid (keepF HF0.out (Below.refl _ _))
            have HC3 : Hid (Cel3 wq.drew gb nw nh (.slice (some ⟨g2, o2, none⟩) L.length p2)) := ⟨HW0.out.1, HW0.out.2.1, HW0.out.2.2.1⟩
            go_region_held3 (fun w' => w'.cell? ⟨gb, 0, none⟩ = some (.int .i64 nw) ∧ w'.cell? ⟨gb, 1, none⟩ = some (.int .i64 nh) ∧ w'.cell? ⟨gb, 2, none⟩ = some (.slice (some ⟨g2, o2, none⟩) L.length p2))
              (first | exact HC3.out | exact HD3.out | exact HS8.out | exact keep3 HS8.out ((Below.refl _ _).alloc (Nat.le_refl _) _) | exact keep3 (by assumption) (by assumption) | exact keep3 (by assumption) ((Below.refl _ _).alloc (Nat.le_refl _) _) | exact keep3s (keep3s (keep3s HS8.out (by omega)) (by omega)) (by omega))
              (first | (go_at_call 13; ((with_reducible refine (HPUT.out _ HF0.out).mono ?_); rintro e w8 ⟨g8, c8, rfl, hb8, hg8, hr8⟩; have hz8 := hb8.size; have HS8 := Lib.hid (keep3 HC3.out hb8)))
                     | (go_at_call 13; ((with_reducible refine (HPUT.out _ HF1.out).mono ?_); rintro e w8 ⟨g8, c8, rfl, hb8, hg8, hr8⟩; have hz8 := hb8.size; have HS8 := Lib.hid (keep3 HD3.out hb8); obtain ⟨na, nb, nc, fa, fb, fc, nz⟩ := blk3 (carry hb8 (show (wq.alloc (.cells #[.int .i64 0, .int .i64 0, .slice none 0 0] 24)).drew.heap[wq.heap.size]? = some (.cells #[.int .i64 0, .int .i64 0, .slice none 0 0] 24 (0, 0)) from heap_alloc_new _ _)))))
            · have J8 := Lib.hid (FR.call J6.out (((Below.refl wq.heap.size wq).drew.trans hb8).alloc hb8.size (.cells #[.int .i64 nw, .int .i64 nh, .slice (some ⟨g8, 0, none⟩) L'.length c8] 24)))
              have HG8 := Lib.hid (heap_alloc_new w8 (.cells #[.int .i64 nw, .int .i64 nh, .slice (some ⟨g8, 0, none⟩) L'.length c8] 24))
              have HR8 := Lib.hid (hr8.below ((Below.refl _ _).alloc (Nat.le_refl _) (.cells #[.int .i64 nw, .int .i64 nh, .slice (some ⟨g8, 0, none⟩) L'.length c8] 24)))
              obtain ⟨⟨pa, pb, pc, pd, pe, pf⟩, -, pz⟩ := blk6 J8.out.t
              go_wp2_with fail
              go_quiet (fail)
              clear pa pb pc pd pe pf pz
              generalize hwz : World.drewN _ _ = wz
              have J9 : Hid (FR W wz tb cb gb nw nh X' kd bw L' L (.slice A5 L'.length c5) (.slice (some ⟨g2, o2, none⟩) L.length p2) r) := by rw [← hwz]; exact J8.out.call (below_dNN _ _)
              have HR9 : Hid (Rn wz tb gb (.slice (some ⟨g8, 0, none⟩) L'.length c8) L') := by rw [← hwz]; exact HR8.out.below (below_dNN _ _)
              obtain ⟨na, nb, nc, -, -, -, nz⟩ := blk3 (show wz.heap[w8.heap.size]? = some (.cells #[.int .i64 nw, .int .i64 nh, .slice (some ⟨g8, 0, none⟩) L'.length c8] 24 (0, 0)) by rw [← hwz]; exact HG8.out)
              obtain ⟨ga, gb', gc, fa, fb, fc, gz⟩ := blk3 J9.out.g
              have J10 := Lib.hid (J9.out.setG HR9.out)
              clear hwz J8 HR8 HG8
              go_wp2
              go_roundw
              case rel => exact ⟨k + 1, .slice A5 L'.length c5, .slice (some ⟨g8, 0, none⟩) L'.length c8, by rw [HNN.out]; omega, by go_num, by rw [← fill_l nw nh r (k + 1), HFB.out]; exact J10.out⟩
              case measure => simp [intOf]; omega
            · have HBW : Below wq.heap.size wq (((w8.setCell ⟨wq.heap.size, 0, none⟩ (.int .i64 nw)).setCell ⟨wq.heap.size, 1, none⟩ (.int .i64 nh)).setCell ⟨wq.heap.size, 2, none⟩ (.slice (some ⟨g8, 0, none⟩) L'.length c8)) := ((((((Below.refl wq.heap.size wq).alloc (Nat.le_refl _) _).drew).trans (hb8.mono (by simp [World.drew]))).setCell (Nat.le_refl _) _).setCell (Nat.le_refl _) _).setCell (Nat.le_refl _) _
              have J8 := Lib.hid (FR.call J6.out HBW)
              have HG8 := Lib.hid (setCell_at (o := 2) (u := .slice (some ⟨g8, 0, none⟩) L'.length c8) (setCell_at (o := 1) (u := .int .i64 nh) (setCell_at (o := 0) (u := .int .i64 nw) (carry hb8 (show (wq.alloc (.cells #[.int .i64 0, .int .i64 0, .slice none 0 0] 24)).drew.heap[wq.heap.size]? = some (.cells #[.int .i64 0, .int .i64 0, .slice none 0 0] 24 (0, 0)) from heap_alloc_new _ _)))))
              have hgn : g8 ≠ wq.heap.size := by
                intro h
                rw [h] at hg8
                have hq : (wq.alloc (.cells #[.int .i64 0, .int .i64 0, .slice none 0 0] 24)).heap.size ≤ wq.heap.size := hg8
                rw [one_size] at hq
                omega
              have HR8 := Lib.hid (((hr8.setO hgn 0 (.int .i64 nw)).setO hgn 1 (.int .i64 nh)).setO hgn 2 (.slice (some ⟨g8, 0, none⟩) L'.length c8))
              obtain ⟨⟨pa, pb, pc, pd, pe, pf⟩, -, pz⟩ := blk6 J8.out.t
              go_wp2_with fail
              go_quiet (fail)
              clear pa pb pc pd pe pf pz
              generalize hwz : World.drewN _ _ = wz
              have J9 : Hid (FR W wz tb cb gb nw nh X' kd bw L' L (.slice A5 L'.length c5) (.slice (some ⟨g2, o2, none⟩) L.length p2) r) := by rw [← hwz]; exact J8.out.call (below_dNN _ _)
              have HR9 : Hid (Rn wz tb gb (.slice (some ⟨g8, 0, none⟩) L'.length c8) L') := by rw [← hwz]; exact HR8.out.below (below_dNN _ _)
              obtain ⟨na, nb, nc, -, -, -, nz⟩ := blk3 (show wz.heap[wq.heap.size]? = some (.cells #[.int .i64 nw, .int .i64 nh, .slice (some ⟨g8, 0, none⟩) L'.length c8] 24 (0, 0)) by rw [← hwz]; exact HG8.out)
              obtain ⟨ga, gb', gc, fa, fb, fc, gz⟩ := blk3 J9.out.g
              have J10 := Lib.hid (J9.out.setG HR9.out)
              clear hwz J8 HR8 HG8
              go_wp2
              go_roundw
              case rel => exact ⟨k + 1, .slice A5 L'.length c5, .slice (some ⟨g8, 0, none⟩) L'.length c8, by rw [HNN.out]; omega, by go_num, by rw [← fill_l nw nh r (k + 1), HFB.out]; exact J10.out⟩
              case measure => simp [intOf]; omega
          · obtain rfl : k = N := by omega
            go_wp2_with fail
            refine (fed_any _ (S.below JJ.out.below) (T.below JJ.out.below) (F.below JJ.out.below) (U.below JJ.out.below)).mono ?_
            rintro e w5 ⟨rfl, hb5⟩
            have hll : (fillL nw nh r k).length ≤ 1000000 := by
              have h := (fill_rt nw nh r HS.out HSH.out HWD.out k (by rw [HNN.out]; omega)).1.2.1
              rw [fill_all] at h
              dsimp only at h
              rw [hmul] at h
              omega
            have J5 := Lib.hid (JJ.out.call hb5)
            clear JJ hb5
            obtain ⟨g1, o1, p1, rfl, hp1, -⟩ := J5.out.rt
            obtain ⟨g2, o2, p2, rfl, hp2, -⟩ := J5.out.rg
            obtain ⟨⟨pa, pb, pc, pd, pe, pf⟩, -, pz⟩ := blk6 J5.out.t
            obtain ⟨qa, qb, qc, -, -, -, qz⟩ := blk3 J5.out.g
            clear hp1 hp2
            go_wp2_with fail
            refine (gsame_any _ _ _ _ _ _ (fillL nw nh r k) (fillL nw nh r k) _ J5.out.rt.rc.rw J5.out.rg.rc.rw (by omega) (by omega) ⟨rfl, rfl, rfl⟩).mono ?_
            rintro e w6 ⟨rfl, hb6⟩
            have J6 := Lib.hid (J5.out.call hb6)
            clear J5 hb6
            go_wp2
            go_ret
            exact ⟨rfl, J6.out.below⟩
      · clear hwd hb hb2 hk2
        generalize htt : tx (nwT nw nh) r = t at *
        clear htt
        obtain ⟨tw, th, tl, tx', ty', tk⟩ := t
        dsimp only at hx ⊢
        replace V := Lib.hid (((V.out.box (Nat.le_refl _) #[.int .i64 tw, .int .i64 th, .slice A2 tl.length c2, .int .i64 tx', .int .i64 ty', .bool tk] 26)))
        have gp := V.out.bks 0 _ rfl
        dsimp only at gp
        obtain ⟨⟨pa, pb, pc, pd, pe, pf⟩, -, pz⟩ := blk6 gp
        clear gp
        by_cases h1 : tx' = 1
        · have h2 : tk = true := by rcases hx with h | h; exact absurd h1 h; exact h
          subst h1 h2
          clear hx
          go_wp2_with fail
          refine (fed_any _ (S.below V.out.below) (T.below V.out.below) (F.below V.out.below) (U.below V.out.below)).mono ?_
          rintro e w3 ⟨rfl, hb⟩
          replace V := Lib.hid (V.out.call hb (Nat.le_refl _))
          go_wp2
          go_ret
          exact ⟨rfl, V.out.below⟩
        · have m1 : (tx' == 1) = false := by rw [beq_eq_false_iff_ne]; exact h1
          have m2 : (tx' != 1) = true := by rw [bne, m1]; rfl
          clear hx h1
          go_wp2_with fail
          refine (fed_any _ (S.below V.out.below) (T.below V.out.below) (F.below V.out.below) (U.below V.out.below)).mono ?_
          rintro e w3 ⟨rfl, hb⟩
          replace V := Lib.hid (V.out.call hb (Nat.le_refl _))
          go_wp2
          go_ret
          exact ⟨rfl, V.out.below⟩
end Go.Proofs.YtkkioajmfkcloaaDoor
