/- VcanonOrder: a mark and a tone in any order: the whole walk of the law. -/
import Derived.Test.YtjolbdfkkhphiaaDoorVcH
namespace Go.Proofs.YtjolbdfkkhphiaaDoor
set_option linter.unusedVariables false
set_option linter.unusedSimpArgs false
set_option linter.unnecessarySimpa false
open Go.RowKit Go.Shelf
attribute [local go_sem] run_store_complex

theorem sumK_some {k j i : Nat} (hi : i < 148) (h1 : LB i = LB k) (h2 : LM i = LM k + mM j) (h3 : LT i = LT k + mT j) : sumK k j = some i :=
  findL_some hi (by unfold sumP; simp [h1, h2, h3]) fun x hx h => by
    unfold sumP at h
    simp only [Bool.and_eq_true, beq_iff_eq] at h
    exact LK_inj x i hx hi (by rw [← h.1, h1]) (by rw [← h.2.1, h2]) (by rw [← h.2.2, h3])
theorem no_tone (k : Nat) (hk : k < 148) : ∃ i, i < 148 ∧ LB i = LB k ∧ LM i = LM k ∧ LT i = 0 := by
  have := all_range (show (List.range 148).all (fun k => (List.range 148).any fun i => decide (LB i = LB k ∧ LM i = LM k ∧ LT i = 0)) = true by decide +kernel) k hk
  obtain ⟨i, hi, h⟩ := List.any_eq_true.1 this
  exact ⟨i, List.mem_range.1 hi, of_decide_eq_true h⟩
theorem addK_some {k j i : Nat} (h : addK k j = some i) : bothK k j = false ∧ sumK k j = some i := by
  unfold addK at h
  cases hb : bothK k j with
  | true => rw [hb] at h; cases h
  | false => rw [hb] at h; exact ⟨rfl, h⟩
theorem addK_of {k j i : Nat} (h : bothK k j = false) (hs : sumK k j = some i) : addK k j = some i := by
  unfold addK; rw [h]; exact hs
theorem both_iff (k j : Nat) : bothK k j = false ↔ (LM k = 0 ∨ mM j = 0) ∧ (LT k = 0 ∨ mT j = 0) := by
  unfold bothK
  cases h1 : (LM k == 0) <;> cases h2 : (mM j == 0) <;> cases h3 : (LT k == 0) <;> cases h4 : (mT j == 0) <;> simp_all [bne]
theorem m_sign (I : Nat) (h : I < 3) : mT I = 0 ∧ mM I ≠ 0 := by
  have := all_range (show (List.range 3).all (fun I => decide (mT I = 0 ∧ mM I ≠ 0)) = true by decide +kernel) I h
  exact of_decide_eq_true this
theorem t_sign (J : Nat) (h : J < 5) : mM (3 + J) = 0 ∧ mT (3 + J) ≠ 0 := by
  have := all_range (show (List.range 5).all (fun J => decide (mM (3 + J) = 0 ∧ mT (3 + J) ≠ 0)) = true by decide +kernel) J h
  exact of_decide_eq_true this
/-- what both ways lead to -/
theorem order_back {N I J c d : Nat} (hI : I < 3) (hJ : J < 5) (h1 : addK N (3 + J) = some c) (h2 : addK c I = some d) : ∃ c', addK N I = some c' ∧ addK c' (3 + J) = some d := by
  obtain ⟨b1, s1⟩ := addK_some h1
  obtain ⟨b2, s2⟩ := addK_some h2
  obtain ⟨c1, c2, c3, c4⟩ := sumK_lt s1
  obtain ⟨d1, d2, d3, d4⟩ := sumK_lt s2
  obtain ⟨m1, m2⟩ := m_sign I hI
  obtain ⟨t1, t2⟩ := t_sign J hJ
  rw [both_iff] at b1 b2
  obtain ⟨i, i1, i2, i3, i4⟩ := no_tone d d1
  have hN : sumK N I = some i := sumK_some i1 (by rw [i2, d2, c2]) (by rw [i3, d3, c3, t1]; omega) (by rw [i4, m1]; omega)
  refine ⟨i, addK_of (by rw [both_iff]; omega) hN, addK_of (by rw [both_iff]; omega) (sumK_some d1 (by rw [i2]) (by rw [i3, t1]; omega) (by rw [i4, d4, c4, m1]; omega))⟩
theorem order_fwd {N I J c c' d : Nat} (hI : I < 3) (hJ : J < 5) (h1 : addK N I = some c) (h2 : addK c (3 + J) = some d) (h3 : addK N (3 + J) = some c') : addK c' I = some d := by
  obtain ⟨b1, s1⟩ := addK_some h1
  obtain ⟨b2, s2⟩ := addK_some h2
  obtain ⟨b3, s3⟩ := addK_some h3
  obtain ⟨c1, c2, c3, c4⟩ := sumK_lt s1
  obtain ⟨d1, d2, d3, d4⟩ := sumK_lt s2
  obtain ⟨e1, e2, e3, e4⟩ := sumK_lt s3
  obtain ⟨m1, m2⟩ := m_sign I hI
  obtain ⟨t1, t2⟩ := t_sign J hJ
  rw [both_iff] at b1 b2 b3
  exact addK_of (by rw [both_iff]; omega) (sumK_some d1 (by rw [d2, c2, e2]) (by omega) (by omega))
/-- a letter and two signs -/
def go3 (N j1 j2 : Nat) : List Int := match addK N j1 with
  | none => [LS N, mkS j1, mkS j2]
  | some c => match addK c j2 with
    | none => [LS c, mkS j2]
    | some d => [LS d]
theorem tog_add (N j : Nat) (hN : N < 148) (hj : j < 8) : tog (LS N) (mkS j) = (addK N j).map LS := by
  unfold tog
  rw [sgI_of j hj, show splitF (LS N) = some N from split_of N hN]
theorem go3_eq (N j1 j2 : Nat) (hN : N < 148) (h1 : j1 < 8) (h2 : j2 < 8) : cGo 0 [LS N, mkS j1, mkS j2] = go3 N j1 j2 := by
  have e0 : stepC 0 (LS N) = (LS N, []) := by unfold stepC; rw [tog_zero]; simp [isL_at N hN, kn_zero]
  have n1 := sign_no_letter (sgI_of j1 h1)
  have n2 := sign_no_letter (sgI_of j2 h2)
  have hn := isL_ne (isL_at N hN)
  have z2 : stepC 0 (mkS j2) = (0, [mkS j2]) := by unfold stepC; rw [tog_zero]; simp [n2, kn_zero]
  unfold go3
  cases h : addK N j1 with
  | none =>
    have e1 : stepC (LS N) (mkS j1) = (0, [LS N, mkS j1]) := by unfold stepC; rw [tog_add N j1 hN h1, h]; simp [n1, kn_ne hn]
    simp [cGo, e0, e1, z2, kn_zero]
  | some c =>
    have hc := (sumK_lt (addK_some h).2).1
    have hcn := isL_ne (isL_at c hc)
    have e1 : stepC (LS N) (mkS j1) = (LS c, []) := by unfold stepC; rw [tog_add N j1 hN h1, h]; rfl
    cases h' : addK c j2 with
    | none =>
      have e2 : stepC (LS c) (mkS j2) = (0, [LS c, mkS j2]) := by unfold stepC; rw [tog_add c j2 hc h2, h']; simp [n2, kn_ne hcn]
      simp [cGo, e0, e1, e2, h', kn_zero]
    | some d =>
      have hd := (sumK_lt (addK_some h').2).1
      have hdn := isL_ne (isL_at d hd)
      have e2 : stepC (LS c) (mkS j2) = (LS d, []) := by unfold stepC; rw [tog_add c j2 hc h2, h']; rfl
      simp [cGo, e0, e1, e2, h', kn_ne hdn]
/-- what the law asks of the three answers of Add -/
theorem order_plain (N I J : Nat) (hI : I < 3) (hJ : J < 5) :
    (((addK N I).isSome && (addK ((addK N I).getD N) (3 + J)).isSome) = false → 1 < (go3 N I (3 + J)).length ∧ 1 < (go3 N (3 + J) I).length) ∧
    ((addK N I).isSome = true → (addK ((addK N I).getD N) (3 + J)).isSome = true → (go3 N I (3 + J)).length = 1 ∧ 1 ≤ (go3 N (3 + J) I).length ∧ ((addK N (3 + J)).isSome = true → go3 N I (3 + J) = go3 N (3 + J) I)) := by
  cases h1 : addK N I with
  | none =>
    refine ⟨fun _ => ?_, (fun h => by cases h)⟩
    cases h2 : addK N (3 + J) with
    | none => simp [go3, h1, h2]
    | some c =>
      cases h3 : addK c I with
      | none => simp [go3, h1, h2, h3]
      | some d =>
        obtain ⟨c', h4, _⟩ := order_back hI hJ h2 h3
        rw [h1] at h4; cases h4
  | some c =>
    simp only [Option.getD_some, Option.isSome_some, Bool.true_and]
    cases h2 : addK c (3 + J) with
    | none =>
      refine ⟨fun _ => ?_, (fun _ h => by cases h)⟩
      cases h3 : addK N (3 + J) with
      | none => simp [go3, h1, h2, h3]
      | some c2 =>
        cases h4 : addK c2 I with
        | none => simp [go3, h1, h2, h3, h4]
        | some d =>
          obtain ⟨c', h5, h6⟩ := order_back hI hJ h3 h4
          rw [h1] at h5
          injection h5 with h5
          rw [h5, h6] at h2; cases h2
    | some d =>
      refine ⟨(fun h => by cases h), fun _ _ => ?_⟩
      cases h3 : addK N (3 + J) with
      | none => simp [go3, h1, h2, h3]
      | some c2 =>
        have h4 := order_fwd hI hJ h1 h2 h3
        simp [go3, h1, h2, h3, h4]
theorem addV_eq (k j : Nat) : addV k j = .tuple #[.agg (letV ((addK k j).getD k)), .bool (addK k j).isSome] := by
  unfold addV; cases addK k j <;> rfl
theorem add_plain (k j : Nat) (hk : k < 148) (hj : j < 8) (w : World) (hR : RowsV w) (c : Nat) (b : Bool) (hc : (addK k j).getD k = c) (hb : (addK k j).isSome = b) :
    Calls Tryd.prog 23 #[.agg (letV k), .complex .f64 (fl (mM j)) (fl (mT j))] w fun e w' => e = .returned (.tuple #[.agg (letV c), .bool b]) ∧ Below w.heap.size w w' :=
  (add_letter k j hk hj w hR).mono fun e w' ⟨h, h'⟩ => ⟨by rw [h, addV_eq, hc, hb], h'⟩
theorem addK_lt (k j : Nat) (hk : k < 148) : (addK k j).getD k < 148 := by
  cases h : addK k j with
  | none => exact hk
  | some i => exact (sumK_lt (addK_some h).2).1

set_option maxRecDepth 100000 in
set_option maxHeartbeats 12800000 in
theorem vcanonOrder_any (n a b : Int) (w : World) (h0 : 0 ≤ n ∧ n ≤ 255) (h1 : 0 ≤ a ∧ a ≤ 255) (h2 : 0 ≤ b ∧ b ≤ 255) (hT : TabV w) :
    Calls Tryd.prog 8 #[.int .u8 n, .int .u8 a, .int .u8 b] w fun e w' => e = .returned (.bool true) ∧ Below w.heap.size w w' := by
  obtain ⟨N, hN⟩ : ∃ N : Nat, n % 148 = (N : Int) := ⟨(n % 148).toNat, by omega⟩
  obtain ⟨I, hI⟩ : ∃ N : Nat, a % 3 = (N : Int) := ⟨(a % 3).toNat, by omega⟩
  obtain ⟨J, hJ⟩ : ∃ N : Nat, b % 5 = (N : Int) := ⟨(b % 5).toNat, by omega⟩
  have hN' : N < 148 := by omega
  have hI3 : I < 3 := by omega
  have hJ5 : J < 5 := by omega
  obtain ⟨hn0, hn1⟩ := h0
  obtain ⟨ha0, ha1⟩ := h1
  obtain ⟨hb0, hb1⟩ := h2
  have HT := Lib.hid hT
  obtain ⟨hp1, hp2⟩ := order_plain N I J hI3 hJ5
  have cI : ∀ h : I < ([Value.int .i64 774, .int .i64 770, .int .i64 795] : List Value).length, ([Value.int .i64 774, .int .i64 770, .int .i64 795] : List Value)[I]'h = .int .i64 (mkS I) := by
    intro h
    match I, hI3 with
    | 0, _ => rfl
    | 1, _ => rfl
    | 2, _ => rfl
  have cJ : ∀ h : J < ([Value.int .i64 768, .int .i64 769, .int .i64 777, .int .i64 771, .int .i64 803] : List Value).length, ([Value.int .i64 768, .int .i64 769, .int .i64 777, .int .i64 771, .int .i64 803] : List Value)[J]'h = .int .i64 (mkS (3 + J)) := by
    intro h
    match J, hJ5 with
    | 0, _ => rfl
    | 1, _ => rfl
    | 2, _ => rfl
    | 3, _ => rfl
    | 4, _ => rfl
  obtain ⟨c1, hc1⟩ : ∃ c, (addK N I).getD N = c := ⟨_, rfl⟩
  obtain ⟨b1, hb1'⟩ : ∃ b, (addK N I).isSome = b := ⟨_, rfl⟩
  have hc18 : c1 < 148 := by rw [← hc1]; exact addK_lt N I hN'
  rw [hc1, hb1'] at hp1 hp2
  obtain ⟨c2, hc2⟩ : ∃ c, (addK c1 (3 + J)).getD c1 = c := ⟨_, rfl⟩
  obtain ⟨b2, hb2'⟩ : ∃ b, (addK c1 (3 + J)).isSome = b := ⟨_, rfl⟩
  rw [hb2'] at hp1 hp2
  obtain ⟨c3, hc3⟩ : ∃ c, (addK N (3 + J)).getD N = c := ⟨_, rfl⟩
  obtain ⟨b3, hb3'⟩ : ∃ b, (addK N (3 + J)).isSome = b := ⟨_, rfl⟩
  rw [hb3'] at hp2
  have h38 : 3 + J < 8 := by omega
  have hI8 : I < 8 := by omega
  have HA1 := Lib.hid (fun (W : World) hR => add_plain N I hN' hI8 W hR c1 b1 hc1 hb1')
  have HA2 := Lib.hid (fun (W : World) hR => add_plain c1 (3 + J) hc18 h38 W hR c2 b2 hc2 hb2')
  have HA3 := Lib.hid (fun (W : World) hR => add_plain N (3 + J) hN' h38 W hR c3 b3 hc3 hb3')
  have hX := go3_eq N I (3 + J) hN' hI8 h38
  have hY := go3_eq N (3 + J) I hN' h38 hI8
  obtain ⟨X, hXe⟩ : ∃ X, go3 N I (3 + J) = X := ⟨_, rfl⟩
  obtain ⟨Y, hYe⟩ : ∃ X, go3 N (3 + J) I = X := ⟨_, rfl⟩
  rw [hXe] at hX hp1 hp2
  rw [hYe] at hY hp1 hp2
  have hsI := sgI_of I hI8
  have hsJ := sgI_of (3 + J) h38
  have hsN : splitF (LS N) = some N := split_of N hN'
  have HS1 := Lib.hid (fun W => sign_some (mkS I) I W hsI)
  have HS2 := Lib.hid (fun W => sign_some (mkS (3 + J)) (3 + J) W hsJ)
  have HSN := Lib.hid (fun W hR => split_some (LS N) N W hR hsN)
  have HLT := Lib.hid (fun (W : World) => letR_at N hN' ▸ letter_any (N : Int) W)
  obtain ⟨s, hs⟩ : ∃ s, LS N = s := ⟨_, rfl⟩
  obtain ⟨m, hm⟩ : ∃ s, mkS I = s := ⟨_, rfl⟩
  obtain ⟨t, ht⟩ : ∃ s, mkS (3 + J) = s := ⟨_, rfl⟩
  rw [hs, hm, ht] at hX hY
  rw [hm] at cI HS1
  rw [ht] at cJ HS2
  rw [hs] at HSN HLT
  obtain ⟨mx, hmx⟩ : ∃ m, X.length = m := ⟨_, rfl⟩
  obtain ⟨my, hmy⟩ : ∃ m, Y.length = m := ⟨_, rfl⟩
  rw [hmx, hmy] at hp1 hp2
  have HX := Lib.hid (fun n A cap (W : World) hn hr hR => all_at n A cap [s, m, t] W hn hr (by simp) hR X hX mx hmx)
  have HY := Lib.hid (fun n A cap (W : World) hn hr hR => all_at n A cap [s, t, m] W hn hr (by simp) hR Y hY my hmy)
  have hxl : mx ≤ 3 := by have := cGo_len 0 [s, m, t]; rw [hX, kn_zero, hmx] at this; simpa using this
  have hv1 : letV N = #[.int .i64 (LB N), .complex .f64 (fl (LM N)) (fl (LT N))] := rfl
  have hv2 : letV c1 = #[.int .i64 (LB c1), .complex .f64 (fl (LM c1)) (fl (LT c1))] := rfl
  have hv3 : letV c2 = #[.int .i64 (LB c2), .complex .f64 (fl (LM c2)) (fl (LT c2))] := rfl
  have hv4 : letV c3 = #[.int .i64 (LB c3), .complex .f64 (fl (LM c3)) (fl (LT c3))] := rfl
  rw [hv1] at HA1 HA3 HSN HLT
  rw [hv2] at HA1 HA2
  rw [hv3] at HA2
  rw [hv4] at HA3
  obtain ⟨xb, hxb⟩ : ∃ v, LB N = v := ⟨_, rfl⟩
  obtain ⟨xr, hxr⟩ : ∃ v, fl (LM N) = v := ⟨_, rfl⟩
  obtain ⟨xi, hxi⟩ : ∃ v, fl (LT N) = v := ⟨_, rfl⟩
  rw [hxb, hxr, hxi] at HA1 HA3 HSN HLT
  obtain ⟨yb, hyb⟩ : ∃ v, LB c1 = v := ⟨_, rfl⟩
  obtain ⟨yr, hyr⟩ : ∃ v, fl (LM c1) = v := ⟨_, rfl⟩
  obtain ⟨yi, hyi⟩ : ∃ v, fl (LT c1) = v := ⟨_, rfl⟩
  rw [hyb, hyr, hyi] at HA1 HA2
  obtain ⟨zb, hzb⟩ : ∃ v, LB c2 = v := ⟨_, rfl⟩
  obtain ⟨zr, hzr⟩ : ∃ v, fl (LM c2) = v := ⟨_, rfl⟩
  obtain ⟨zi, hzi⟩ : ∃ v, fl (LT c2) = v := ⟨_, rfl⟩
  rw [hzb, hzr, hzi] at HA2
  obtain ⟨ub, hub⟩ : ∃ v, LB c3 = v := ⟨_, rfl⟩
  obtain ⟨ur, hur⟩ : ∃ v, fl (LM c3) = v := ⟨_, rfl⟩
  obtain ⟨ui, hui⟩ : ∃ v, fl (LT c3) = v := ⟨_, rfl⟩
  rw [hub, hur, hui] at HA3
  obtain ⟨p1, hp1'⟩ : ∃ v, fl (mM I) = v := ⟨_, rfl⟩
  obtain ⟨q1, hq1'⟩ : ∃ v, fl (mT I) = v := ⟨_, rfl⟩
  obtain ⟨p2, hp2'⟩ : ∃ v, fl (mM (3 + J)) = v := ⟨_, rfl⟩
  obtain ⟨q2, hq2'⟩ : ∃ v, fl (mT (3 + J)) = v := ⟨_, rfl⟩
  rw [hp1', hq1'] at HS1 HA1
  rw [hp2', hq2'] at HS2 HA2 HA3
  have HP1 := Lib.hid hp1
  have HP2 := Lib.hid hp2
  have HMX := Lib.hid hmx
  have HMY := Lib.hid hmy
  clear hT hc1 hb1' hc2 hb2' hc3 hb3' hX hY hXe hYe hsI hsJ hsN hs hm ht hmx hmy hv1 hv2 hv3 hv4 hxb hxr hxi hyb hyr hyi hzb hzr hzi hub hur hui hp1' hq1' hp2' hq2' hp1 hp2 hc18
  have hIi : (I : Int) < 3 := by omega
  have hI0 : (0 : Int) ≤ I := by omega
  have hJi : (J : Int) < 5 := by omega
  have hJ0 : (0 : Int) ≤ J := by omega
  go_enter Tryd.func8, Tryd.ntmps8
  go_wp2_with fail
  refine (awake10_any w HT.out).mono ?_
  rintro e w1 ⟨rfl, hb1⟩
  have HB1 := Lib.hid hb1
  clear hb1
  go_wp2_with fail
  refine (HLT.out w1).mono ?_
  rintro e w2 ⟨rfl, hb2⟩
  have hb3 := (hb2.alloc hb2.size (.cells #[.int .i64 xb, .complex .f64 xr xi] 35))
  have HB2 := Lib.hid (HB1.out.trans (hb3.mono HB1.out.size))
  clear hb2 hb3 HB1 hN
  go_upto_region 4 with fail
  obtain ⟨w3, hw3⟩ : ∃ W, w2.alloc (.cells #[.int .i64 xb, .complex .f64 xr xi] 35) = W := ⟨_, rfl⟩
  rw [hw3] at HB2 ⊢
  clear hw3
  go_upto_region 6 with fail
  obtain ⟨w4, hw4⟩ : ∃ W, (w3.alloc (.cells #[.int .i64 774, .int .i64 770, .int .i64 795] 3)).alloc (.cells #[.int .i64 768, .int .i64 769, .int .i64 777, .int .i64 771, .int .i64 803] 3) = W := ⟨_, rfl⟩
  have HB4 := Lib.hid (show Below w.heap.size w w4 by rw [← hw4]; exact (HB2.out.alloc HB2.out.size _).alloc (by have := HB2.out.size; simp; omega) _)
  rw [hw4]
  clear hw4 HB2 hI hJ cI cJ
  go_wp2_with fail
  have hb5 := (Below.refl w4.heap.size w4).alloc (Nat.le_refl _) (.cells #[.int .i64 s, .int .i64 m, .int .i64 t] 3)
  have HB5 := Lib.hid (HB4.out.trans (hb5.mono HB4.out.size))
  refine (HX.out 3 _ 3 _ rfl (rd_new_ints w4 .i64 [s, m, t] _ _ rfl) (HT.out.below HB5.out).rows).mono ?_
  rintro e w5 ⟨A5, c5, rfl, hr5, hc5, hd5, hb5'⟩
  have HB6 := Lib.hid (HB5.out.trans (hb5'.mono HB5.out.size))
  have HR5 := Lib.hid hr5.rd
  clear hr5 hb5 hb5' HB5 HB4
  go_wp2_with fail
  have hb5 := (Below.refl w5.heap.size w5).alloc (Nat.le_refl _) (.cells #[.int .i64 s, .int .i64 t, .int .i64 m] 3)
  have HB7 := Lib.hid (HB6.out.trans (hb5.mono HB6.out.size))
  refine (HY.out 3 _ 3 _ rfl (rd_new_ints w5 .i64 [s, t, m] _ _ rfl) (HT.out.below HB7.out).rows).mono ?_
  rintro e w6 ⟨A6, c6, rfl, hr6, hc6, hd6, hb6'⟩
  have hb56 := hb5.trans (hb6'.mono (by simp))
  have HB8 := Lib.hid (HB6.out.trans (hb56.mono HB6.out.size))
  have HR56 := Lib.hid (HR5.out.below hb56)
  have HR6 := Lib.hid hr6.rd
  clear hr6 hb5 hb6' hb56 HB6 HB7 HR5
  go_wp2_with fail
  refine (HSN.out w6 (HT.out.below HB8.out).rows).mono ?_
  rintro e w7 ⟨rfl, hb7⟩
  have hb7' := hb7.alloc hb7.size (.cells #[.int .i64 xb, .complex .f64 xr xi] 35)
  have HB9 := Lib.hid (HB8.out.trans (hb7'.mono HB8.out.size))
  have HR57 := Lib.hid (HR56.out.below hb7')
  have HR67 := Lib.hid (HR6.out.below hb7')
  have hq7 := Held.new w7 #[.int .i64 xb, .complex .f64 xr xi] 35
  clear hb7 hb7' HB8 HR56 HR6
  go_upto_region 8 with fail
  obtain ⟨w8, hw8⟩ : ∃ W, w7.alloc (.cells #[.int .i64 xb, .complex .f64 xr xi] 35) = W := ⟨_, rfl⟩
  obtain ⟨p, hp⟩ : ∃ p, w7.heap.size = p := ⟨_, rfl⟩
  rw [hw8] at HB9 HR57 HR67 hq7 ⊢
  rw [hp] at hq7 ⊢
  have HQ8 := Lib.hid hq7
  have c0 := hq7.cell 0
  have c1' := hq7.cell 1
  clear hw8 hp hq7
  go_wp2_with fail
  refine (HS1.out w8).mono ?_
  rintro e w9 ⟨rfl, hw⟩
  rw [hw]
  clear hw w9
  go_wp2_with fail
  refine (HS2.out w8).mono ?_
  rintro e w9 ⟨rfl, hw⟩
  rw [hw]
  clear hw w9
  go_wp2_with fail
  refine (HA1.out w8 (HT.out.below HB9.out).rows).mono ?_
  rintro e w9 ⟨rfl, hb9⟩
  have hb9' := hb9.alloc hb9.size (.cells #[.int .i64 yb, .complex .f64 yr yi] 35)
  have HB10 := Lib.hid (HB9.out.trans (hb9'.mono HB9.out.size))
  have HR59 := Lib.hid (HR57.out.below hb9')
  have HR69 := Lib.hid (HR67.out.below hb9')
  have hq9 := Held.new w9 #[.int .i64 yb, .complex .f64 yr yi] 35
  have hq8 := HQ8.out.below hb9' HQ8.out.lt
  clear hb9 hb9' HB9 HR57 HR67 HQ8 c0 c1'
  go_upto_region 11 with fail
  obtain ⟨w10, hw10⟩ : ∃ W, w9.alloc (.cells #[.int .i64 yb, .complex .f64 yr yi] 35) = W := ⟨_, rfl⟩
  obtain ⟨p', hp'⟩ : ∃ p, w9.heap.size = p := ⟨_, rfl⟩
  rw [hw10] at HB10 HR59 HR69 hq9 hq8 ⊢
  rw [hp'] at hq9 ⊢
  have HQ10 := Lib.hid hq8
  have c0 := hq9.cell 0
  have c1' := hq9.cell 1
  clear hw10 hp' hq9 hq8
  go_wp2_with fail
  refine (HA2.out w10 (HT.out.below HB10.out).rows).mono ?_
  rintro e w11 ⟨rfl, hb11⟩
  have hb11' := hb11.alloc hb11.size (.cells #[.int .i64 zb, .complex .f64 zr zi] 35)
  have HB11 := Lib.hid (HB10.out.trans (hb11'.mono HB10.out.size))
  have HR511 := Lib.hid (HR59.out.below hb11')
  have HR611 := Lib.hid (HR69.out.below hb11')
  have hq11 := HQ10.out.below hb11' HQ10.out.lt
  clear hb11 hb11' HB10 HR59 HR69 HQ10 c0 c1'
  go_upto_region 12 with fail
  obtain ⟨w12, hw12⟩ : ∃ W, w11.alloc (.cells #[.int .i64 zb, .complex .f64 zr zi] 35) = W := ⟨_, rfl⟩
  rw [hw12] at HB11 HR511 HR611 hq11 ⊢
  clear hw12
  have c0 := hq11.cell 0
  have c1' := hq11.cell 1
  cases hb : (b1 && b2) with
  | false =>
    obtain ⟨k1, k2⟩ := HP1.out hb
    have k1' : (1 : Int) < (mx : Int) := by omega
    have k2' : (1 : Int) < (my : Int) := by omega
    cases b1 <;> cases b2 <;> first
      | (cases hb; done)
      | (clear hb
         go_wp2
         go_ret
         exact ⟨rfl, HB11.out⟩)
  | true =>
    obtain ⟨rfl, rfl⟩ : b1 = true ∧ b2 = true := by simpa using hb
    obtain ⟨k1, k2, k3⟩ := HP2.out rfl rfl
    have K3 := Lib.hid k3
    have k2' : (1 : Int) ≤ (my : Int) := by omega
    subst k1
    clear hb k3
    go_wp2_with fail
    refine (HA3.out w12 (HT.out.below HB11.out).rows).mono ?_
    rintro e w13 ⟨rfl, hb13⟩
    have hb13' := hb13.alloc hb13.size (.cells #[.int .i64 ub, .complex .f64 ur ui] 35)
    have HB13 := Lib.hid (HB11.out.trans (hb13'.mono HB11.out.size))
    have HR513 := Lib.hid (HR511.out.below hb13')
    have HR613 := Lib.hid (HR611.out.below hb13')
    clear hb13 hb13' HB11 HR511 HR611
    cases b3 with
    | false =>
      go_wp2
      go_ret
      exact ⟨rfl, HB13.out⟩
    | true =>
      have hXY := K3.out rfl
      have hmyl := HMY.out
      have hmxl := HMX.out
      rw [← hXY, hmxl] at hmyl
      subst hmyl
      go_wp2_with fail
      refine (units_any 1 1 A5 A6 c5 c6 X Y _ hXY hmxl.symm (by rw [← hXY]; exact hmxl.symm) HR513.out HR613.out (by rw [hmxl]; omega)).mono ?_
      rintro e w14 ⟨rfl, hb14⟩
      have HB14 := Lib.hid (HB13.out.trans (hb14.mono HB13.out.size))
      clear hb14
      go_wp2
      go_ret
      exact ⟨rfl, HB14.out⟩
end Go.Proofs.YtjolbdfkkhphiaaDoor
