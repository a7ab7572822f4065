/- Layer 10: together, End, Held, Put. -/
import Derived.Test.YtjolbdfkkhphiaaDoorVcI
namespace Go.Proofs.YtjolbdfkkhphiaaDoor
set_option linter.unusedVariables false
set_option linter.unusedSimpArgs false
set_option linter.unnecessarySimpa false
open Go.RowKit Go.Shelf
attribute [local go_sem] run_store_complex

/-- what Add answers of letter k and sign j -/
def addV (k j : Nat) : Value := match addK k j with
  | some i => .tuple #[.agg (letV i), .bool true]
  | none => .tuple #[.agg (letV k), .bool false]
theorem addIs_one10 {b : Int} {r i x y re im : Nat} {e : Ending} (h : AddIs b r i x y e) (hb : bothF r i x y = false) (hr : floatBits .add .f64 r x = some re) (hi : floatBits .add .f64 i y = some im) :
    e = .returned (if (joinF b re im).isSome = true then .tuple #[.agg #[.int .i64 b, .complex .f64 re im], .bool true] else .tuple #[.agg #[.int .i64 b, .complex .f64 r i], .bool false]) := by
  rcases h with ⟨h1, _⟩ | ⟨_, re', im', h1, h2, h3⟩
  · rw [hb] at h1; cases h1
  · obtain rfl := SumIs.det h1 hr
    obtain rfl := SumIs.det h2 hi
    rcases h3 with ⟨h3, h4⟩ | ⟨h3, h4⟩
    · rw [h4, if_pos h3]
    · rw [h4, if_neg (by rw [h3]; decide)]
theorem addIs_plain (k j : Nat) (hk : k < 148) (hj : j < 8) {e : Ending} (h : AddIs (LB k) (fl (LM k)) (fl (LT k)) (fl (mM j)) (fl (mT j)) e) : e = .returned (addV k j) := by
  have hf := bothF_eq k j hk hj
  have h1 := letter_small k hk
  have h2 := mk_fl j hj
  unfold addV addK
  cases hb : bothK k j with
  | true =>
    rw [hb] at hf
    rcases h with ⟨_, h⟩ | ⟨h1, _⟩
    · rw [h, if_pos rfl]; rfl
    · rw [hf] at h1; cases h1
  | false =>
    rw [hb] at hf
    rw [addIs_one10 h hf (fadd_small _ _ (by omega) (by omega)) (fadd_small _ _ (by omega) (by omega)), join_sum k j hk hj hb]
    simp only [Bool.false_eq_true, if_false]
    cases hs : sumK k j with
    | none => rfl
    | some i =>
      obtain ⟨_, h3, h4, h5⟩ := sumK_lt hs
      simp only [Option.isSome_some, if_true]
      unfold letV
      rw [h3, h4, h5]
theorem add_letter (k j : Nat) (hk : k < 148) (hj : j < 8) (w : World) (hR : RowsV w) :
    Calls Tryd.prog 23 #[.agg (letV k), .complex .f64 (fl (mM j)) (fl (mT j))] w fun e w' => e = .returned (addV k j) ∧ Below w.heap.size w w' :=
  (add_any (LB k) (fl (LM k)) (fl (LT k)) (fl (mM j)) (fl (mT j)) w hR).mono fun e w' ⟨h, hb⟩ => ⟨addIs_plain k j hk hj h, hb⟩
theorem join_letter (k : Nat) (hk : k < 148) (w : World) (hR : RowsV w) :
    Calls Tryd.prog 34 #[.agg (letV k)] w fun e w' => e = .returned (.tuple #[.int .i64 (LS k), .bool true]) ∧ Below w.heap.size w w' :=
  (join_any (LB k) (fl (LM k)) (fl (LT k)) w hR).mono fun e w' ⟨h, hb⟩ => ⟨by rw [h]; unfold joinF; rw [join_of k hk]; rfl, hb⟩
theorem split_none (s : Int) (w : World) (hR : RowsV w) (h : splitF s = none) :
    Calls Tryd.prog 16 #[.int .i64 s] w fun e w' => e = .returned (.tuple #[.agg #[.int .i64 0, .complex .f64 0 0], .bool false]) ∧ Below w.heap.size w w' :=
  (split_any s w hR).mono fun e w' ⟨h1, hb⟩ => ⟨by rw [h1, h]; rfl, hb⟩
theorem split_some (s : Int) (k : Nat) (w : World) (hR : RowsV w) (h : splitF s = some k) :
    Calls Tryd.prog 16 #[.int .i64 s] w fun e w' => e = .returned (.tuple #[.agg (letV k), .bool true]) ∧ Below w.heap.size w w' :=
  (split_any s w hR).mono fun e w' ⟨h1, hb⟩ => ⟨by rw [h1, h]; rfl, hb⟩
theorem sign_none (s : Int) (w : World) (h : sgI s = none) : Calls Tryd.prog 22 #[.int .i64 s] w fun e w' => e = .returned (.tuple #[.complex .f64 0 0, .bool false]) ∧ w' = w :=
  (sign_any s w).mono fun e w' ⟨h1, hb⟩ => ⟨by rw [h1, sgK_eq, h], hb⟩
theorem sign_some (s : Int) (j : Nat) (w : World) (h : sgI s = some j) : Calls Tryd.prog 22 #[.int .i64 s] w fun e w' => e = .returned (.tuple #[.complex .f64 (fl (mM j)) (fl (mT j)), .bool true]) ∧ w' = w :=
  (sign_any s w).mono fun e w' ⟨h1, hb⟩ => ⟨by rw [h1, sgK_eq, h], hb⟩

theorem grown_of {w w' : World} {p : Option Nat} (hb : Below w.heap.size w w') : w.grownBy w' p := ⟨hb.os, hb.tape, hb.output, hb.size, fun k hk _ => hb.block k hk⟩

set_option maxHeartbeats 1600000 in
theorem together_any (c s : Int) (w : World) (hR : RowsV w) :
    Calls Tryd.prog 27 #[.int .i64 c, .int .i64 s] w fun e w' => e = .returned (.tuple #[.int .i64 ((tog c s).getD 0), .bool (tog c s).isSome]) ∧ Below w.heap.size w w' := by
  have HR := Lib.hid hR
  clear hR
  cases hj : sgI s with
  | none =>
    have HT := Lib.hid (show tog c s = none by unfold tog; rw [hj])
    go_enter Tryd.func27, Tryd.ntmps27
    go_wp2_with fail
    refine (sign_none s w hj).mono ?_
    rintro e w1 ⟨rfl, hw⟩
    rw [hw]
    clear hw w1
    go_wp2
    go_ret2
    exact ⟨by rw [HT.out]; rfl, Below.refl _ _⟩
  | some j =>
    have hj8 := (sgI_lt hj).1
    cases hk : splitF c with
    | none =>
      have HT := Lib.hid (show tog c s = none by unfold tog; rw [hj, hk])
      go_enter Tryd.func27, Tryd.ntmps27
      go_wp2_with fail
      refine (sign_some s j w hj).mono ?_
      rintro e w1 ⟨rfl, hw⟩
      rw [hw]
      clear hw w1
      go_wp2_with fail
      refine (split_none c w HR.out hk).mono ?_
      rintro e w1 ⟨rfl, hb1⟩
      have hs1 := hb1.size
      go_wp2
      go_ret2
      exact ⟨by rw [HT.out]; rfl, hb1.alloc hs1 _⟩
    | some k =>
      have hk8 := (splitF_LS hk).1
      have htg : tog c s = (addK k j).map LS := by unfold tog; rw [hj, hk]
      have HT := Lib.hid htg
      have HA := Lib.hid (fun w hR => add_letter k j hk8 hj8 w hR)
      have hv : letV k = #[.int .i64 (LB k), .complex .f64 (fl (LM k)) (fl (LT k))] := rfl
      clear htg
      go_enter Tryd.func27, Tryd.ntmps27
      go_wp2_with fail
      refine (sign_some s j w hj).mono ?_
      rintro e w1 ⟨rfl, hw⟩
      rw [hw]
      clear hw w1
      go_wp2_with fail
      refine (split_some c k w HR.out hk).mono ?_
      rintro e w1 ⟨rfl, hb1⟩
      rw [hv]
      obtain ⟨bx, hbx⟩ : ∃ v, LB k = v := ⟨_, rfl⟩
      obtain ⟨rx, hrx⟩ : ∃ v, fl (LM k) = v := ⟨_, rfl⟩
      obtain ⟨ix, hix⟩ : ∃ v, fl (LT k) = v := ⟨_, rfl⟩
      obtain ⟨px, hpx⟩ : ∃ v, fl (mM j) = v := ⟨_, rfl⟩
      obtain ⟨qx, hqx⟩ : ∃ v, fl (mT j) = v := ⟨_, rfl⟩
      rw [hv] at HA
      rw [hbx, hrx, hix, hpx, hqx] at HA
      rw [hbx, hrx, hix] at hv
      rw [hbx, hrx, hix, hpx, hqx]
      have HV := Lib.hid hv
      have hs1 := hb1.size
      have HB1 := Lib.hid hb1
      clear hv hbx hrx hix hpx hqx hb1
      go_wp2_with fail
      have q1 := Held.new w1 #[.int .i64 bx, .complex .f64 rx ix] 35
      have hb2 := HB1.out.alloc hs1 (.cells #[.int .i64 bx, .complex .f64 rx ix] 35)
      obtain ⟨W2, hW2⟩ : ∃ W2, w1.alloc (.cells #[.int .i64 bx, .complex .f64 rx ix] 35) = W2 := ⟨_, rfl⟩
      rw [hW2] at q1 hb2 ⊢
      obtain ⟨p, hp⟩ : ∃ p, w1.heap.size = p := ⟨_, rfl⟩
      rw [hp] at q1 hs1 ⊢
      have HR2 := Lib.hid (HR.out.below hb2)
      have hs2 := hb2.size
      have hp2 := q1.lt
      have HQ1 := Lib.hid q1
      have HB2 := Lib.hid hb2
      clear hW2 hp q1 hb2 HB1
      clear w1
      refine (HA.out W2 HR2.out).mono ?_
      rintro e w3 ⟨rfl, hb3⟩
      have HR3 := Lib.hid (HR2.out.below hb3)
      have HQ3 := Lib.hid (HQ1.out.below hb3 hp2)
      have HB3 := Lib.hid (HB2.out.trans (hb3.mono hs2))
      clear hb3
      have c0 := HQ3.out.cell 0
      have c1 := HQ3.out.cell 1
      have f0 := HQ3.out.frozen 0
      have f1 := HQ3.out.frozen 1
      have hp3 := HQ3.out.lt
      have hs3 := HB3.out.size
      cases ha : addK k j with
      | none =>
        have ha' : addV k j = .tuple #[.agg #[.int .i64 bx, .complex .f64 rx ix], .bool false] := by unfold addV; rw [ha, ← HV.out]
        have HT2 := Lib.hid (show tog c s = none by rw [HT.out, ha]; rfl)
        rw [ha']
        clear ha ha'
        go_wp2
        go_ret2
        exact ⟨by rw [HT2.out]; rfl, (HB3.out.setCell (p := ⟨p, 0, none⟩) (by simp; omega) _).setCell (p := ⟨p, 1, none⟩) (by simp; omega) _⟩
      | some i =>
        have hv : letV i = #[.int .i64 (LB i), .complex .f64 (fl (LM i)) (fl (LT i))] := rfl
        have ha' : addV k j = .tuple #[.agg (letV i), .bool true] := by unfold addV; rw [ha]
        have hi8 : i < 148 := by
          unfold addK at ha
          split at ha
          · cases ha
          · exact (sumK_lt ha).1
        have HT2 := Lib.hid (show tog c s = some (LS i) by rw [HT.out, ha]; rfl)
        have HJ := Lib.hid (fun w hR => join_letter i hi8 w hR)
        rw [ha', hv]
        rw [hv] at HJ
        obtain ⟨by_, hby⟩ : ∃ v, LB i = v := ⟨_, rfl⟩
        obtain ⟨ry, hry⟩ : ∃ v, fl (LM i) = v := ⟨_, rfl⟩
        obtain ⟨iy, hiy⟩ : ∃ v, fl (LT i) = v := ⟨_, rfl⟩
        rw [hby, hry, hiy] at HJ ⊢
        clear ha ha' hv hby hry hiy
        go_wp2_with fail
        have hR4 : RowsV ((w3.setCell ⟨p, 0, none⟩ (.int .i64 by_)).setCell ⟨p, 1, none⟩ (.complex .f64 ry iy)) := HR.out.below ((HB3.out.setCell (p := ⟨p, 0, none⟩) (by simp; omega) _).setCell (p := ⟨p, 1, none⟩) (by simp; omega) _)
        refine (HJ.out _ hR4).mono ?_
        rintro e w5 ⟨rfl, hb5⟩
        have hb6 := (((HB3.out.setCell (p := ⟨p, 0, none⟩) (by simp; omega) (.int .i64 by_)).setCell (p := ⟨p, 1, none⟩) (by simp; omega) (.complex .f64 ry iy))).trans (hb5.mono (by simp; omega))
        have HB6 := Lib.hid hb6
        clear hb5 hb6 hR4
        go_wp2
        go_ret2
        exact ⟨by rw [HT2.out]; rfl, HB6.out⟩

set_option maxHeartbeats 800000 in
theorem end_any (p : Nat) (c : Int) (w : World) (hq : Held w p #[.int .i64 c] 31) :
    Calls Tryd.prog 18 #[.pointer (some ⟨p, 0, none⟩)] w fun e w' => ∃ v, e = .returned v ∧ IR w' w.heap.size v (kn c) ∧ Held w' p #[.int .i64 0] 31 ∧ w.grownBy w' (some p) := by
  have k0 := hq.cell 0
  have f0 := hq.frozen 0
  have HQ := Lib.hid hq
  have hp := hq.lt
  clear hq
  by_cases h : c = 0
  · subst h
    go_enter Tryd.func18, Tryd.ntmps18
    go_wp2
    go_ret
    exact ⟨_, rfl, IR.nil _ _, HQ.out, World.grownBy.refl _ _⟩
  · have hc : (c == 0) = false := by simpa using h
    have HC := Lib.hid (kn_ne h)
    clear h
    go_enter Tryd.func18, Tryd.ntmps18
    go_wp2
    go_ret
    refine ⟨_, rfl, ?_, ?_, ?_⟩
    · rw [HC.out]
      have := IR.new (w.setCell ⟨p, 0, none⟩ (.int .i64 0)) c
      simpa using this
    · have := heap_setCell_same w p 0 _ _ (.int .i64 0) HQ.out
      exact Held.alloc (W := w.setCell ⟨p, 0, none⟩ (.int .i64 0)) this _
    · exact (grownBy_setCellK w ⟨p, 0, none⟩ _).trans (World.grownBy_alloc _ _ _)

set_option maxHeartbeats 800000 in
theorem held_any (p : Nat) (c : Int) (w : World) (hq : Held w p #[.int .i64 c] 31) :
    Calls Tryd.prog 17 #[.pointer (some ⟨p, 0, none⟩)] w fun e w' => e = .returned (.int .i64 ((kn c).length : Int)) ∧ w' = w := by
  have k0 := hq.cell 0
  have hp := hq.lt
  clear hq
  by_cases h : c = 0
  · subst h
    go_enter Tryd.func17, Tryd.ntmps17
    go_wp2
    go_ret
    exact ⟨ret_int (by simp [kn_zero]), rfl⟩
  · have hc : (c == 0) = false := by simpa using h
    have HC := Lib.hid (kn_ne h)
    clear h
    go_enter Tryd.func17, Tryd.ntmps17
    go_wp2
    go_ret
    exact ⟨ret_int (by rw [HC.out]; rfl), rfl⟩

set_option maxHeartbeats 1600000 in
theorem put_any (p : Nat) (c s : Int) (w : World) (hq : Held w p #[.int .i64 c] 31) (hR : RowsV w) :
    Calls Tryd.prog 15 #[.pointer (some ⟨p, 0, none⟩), .int .i64 s] w fun e w' => ∃ v, e = .returned v ∧ IR w' w.heap.size v (stepC c s).2 ∧ Held w' p #[.int .i64 (stepC c s).1] 31 ∧ w.grownBy w' (some p) := by
  have k0 := hq.cell 0
  have HQ := Lib.hid hq
  have HR := Lib.hid hR
  have hp := hq.lt
  clear hq hR
  go_enter Tryd.func15, Tryd.ntmps15
  go_wp2_with fail
  refine (together_any c s w HR.out).mono ?_
  rintro e w1 ⟨rfl, hb1⟩
  have HQ1 := Lib.hid (HQ.out.below hb1 hp)
  have HB1 := Lib.hid hb1
  have HR1 := Lib.hid (HR.out.below hb1)
  have hs1 := hb1.size
  have k1 := HQ1.out.cell 0
  have f1 := HQ1.out.frozen 0
  have hp1 := HQ1.out.lt
  clear hb1 k0
  cases ht : tog c s with
  | some u =>
    have HS := Lib.hid (show stepC c s = (u, []) by unfold stepC; rw [ht])
    simp only [Option.getD_some, Option.isSome_some]
    clear ht
    go_wp2
    go_ret
    refine ⟨_, rfl, ?_, ?_, ?_⟩
    · rw [HS.out]; exact IR.nil _ _
    · rw [HS.out]; exact heap_setCell_same w1 p 0 _ _ (.int .i64 u) HQ1.out
    · exact (grown_of HB1.out).trans (grownBy_setCellK w1 ⟨p, 0, none⟩ _)
  | none =>
    simp only [Option.getD_none, Option.isSome_none]
    have HT := Lib.hid ht
    clear ht
    go_wp2_with fail
    refine (end_any p c w1 HQ1.out).mono ?_
    rintro e w2 ⟨v2, rfl, hr2, hq2, hg2⟩
    have HR2 := Lib.hid (HR1.out.grownP HQ1.out hg2)
    have hs2 := hg2.size
    have hp2 := hq2.lt
    have HO2 := Lib.hid (hr2.low hs1)
    have HQ2 := Lib.hid hq2
    have hg02 : w.grownBy w2 (some p) := ⟨hg2.os.trans HB1.out.os, hg2.tape.trans HB1.out.tape, hg2.output.trans HB1.out.output, Nat.le_trans hs1 hg2.size, fun k hk hne => (hg2.block k (by omega) hne).trans (HB1.out.block k hk)⟩
    have HG2 := Lib.hid hg02
    clear hr2 hq2 hg2 hg02 f1 k1
    go_wp2_with fail
    cases hk : splitF s with
    | some k =>
      have hv : letV k = #[.int .i64 (LB k), .complex .f64 (fl (LM k)) (fl (LT k))] := rfl
      have HS := Lib.hid (show stepC c s = (s, kn c) by unfold stepC; rw [HT.out]; simp [isL, hk])
      refine (split_some s k w2 HR2.out hk).mono ?_
      rintro e w3 ⟨rfl, hb3⟩
      rw [hv]
      have hq3 := HQ2.out.below hb3 hp2
      have hs3 := hb3.size
      have hp3 := hq3.lt
      have HO3 := Lib.hid (HO2.out.below hb3 (Nat.le_refl _))
      have HG3 := Lib.hid (show w.grownBy w3 (some p) from ⟨hb3.os.trans HG2.out.os, hb3.tape.trans HG2.out.tape, hb3.output.trans HG2.out.output, by omega, fun k hk hne => (hb3.block k (by omega)).trans (HG2.out.block k hk hne)⟩)
      have HQ3 := Lib.hid hq3
      have f3 := hq3.frozen 0
      have k3 := hq3.cell 0
      clear hb3 hq3 hv hk
      go_wp2
      go_ret
      refine ⟨_, rfl, ?_, ?_, ?_⟩
      · rw [HS.out]
        exact (HO3.out.grownP HQ3.out (by decide) (grownBy_setCellK w3 ⟨p, 0, none⟩ _)).alloc _
      · rw [HS.out]
        have := heap_setCell_same w3 p 0 _ _ (.int .i64 s) HQ3.out
        exact Held.alloc (W := w3.setCell ⟨p, 0, none⟩ (.int .i64 s)) this _
      · exact HG3.out.trans ((grownBy_setCellK w3 ⟨p, 0, none⟩ _).trans (World.grownBy_alloc _ _ _))
    | none =>
      have HS := Lib.hid (show stepC c s = (0, kn c ++ [s]) by unfold stepC; rw [HT.out]; simp [isL, hk])
      have hkl := kn_len c
      refine (split_none s w2 HR2.out hk).mono ?_
      rintro e w3 ⟨rfl, hb3⟩
      have hq3 := HQ2.out.below hb3 hp2
      have hs3 := hb3.size
      have hp3 := hq3.lt
      have HO3 := Lib.hid ((HO2.out.below hb3 (Nat.le_refl _)).alloc (.cells #[.int .i64 0, .complex .f64 0 0] 35))
      have HG3 := Lib.hid (show w.grownBy (w3.alloc (.cells #[.int .i64 0, .complex .f64 0 0] 35)) (some p) from (show w.grownBy w3 (some p) from ⟨hb3.os.trans HG2.out.os, hb3.tape.trans HG2.out.tape, hb3.output.trans HG2.out.output, by omega, fun k hk hne => (hb3.block k (by omega)).trans (HG2.out.block k hk hne)⟩).trans (World.grownBy_alloc _ _ _))
      have HQ3 := Lib.hid (hq3.alloc (.cells #[.int .i64 0, .complex .f64 0 0] 35))
      clear hb3 hq3 hk
      go_wp2_with (go_loud (refine wpList_appI1 rfl _ _ rfl w.heap.size v2 (kn c) s rfl HO3.out _ rfl (by simp) (by omega) (by simp; omega) ?_; intro v4 w4 hO4 hG4))
      go_ret
      refine ⟨_, rfl, ?_, ?_, ?_⟩
      · rw [HS.out]; exact hO4.out
      · rw [HS.out]; exact HQ3.out.grownI HO3.out (by decide) hG4.out
      · exact ⟨hG4.out.os.trans HG3.out.os, hG4.out.tape.trans HG3.out.tape, hG4.out.output.trans HG3.out.output, Nat.le_trans HG3.out.size hG4.out.size, fun k hk hne => (hG4.out.block k (Nat.lt_of_lt_of_le hk HG3.out.size) (fun e => by have := (HO3.out.lt e.symm).1; omega)).trans (HG3.out.block k hk hne)⟩
end Go.Proofs.YtjolbdfkkhphiaaDoor
