/- VcanonApart: what letters are apart: the whole walk of the law. -/
import Derived.Test.YtjolbdfkkhphiaaDoorVcH
import Derived.Test.YtjolbdfkkhphiaaDoorMixe
namespace Go.Proofs.YtjolbdfkkhphiaaDoor
set_option linter.unusedVariables false
set_option linter.unusedSimpArgs false
set_option linter.unnecessarySimpa false
open Go.RowKit Go.Shelf
attribute [local go_sem] run_store_complex

theorem apS_eq (k : Nat) (hk : k < 148) (h4 : LM k ≠ 4) : apS k = (if LM k = 0 then [] else [mkS (LM k - 1)]) ++ (if LT k = 0 then [] else [mkS (LT k + 2)]) := by
  have := all_range (show (List.range 148).all (fun k => decide (LM k ≠ 4 → apS k = (if LM k = 0 then [] else [mkS (LM k - 1)]) ++ (if LT k = 0 then [] else [mkS (LT k + 2)]))) = true by decide +kernel) k hk
  exact of_decide_eq_true this h4
theorem fl_int (a : Nat) (h : a < 6) : floatToIntVal .f64 (fl a) .i64 = some (a : Int) := by
  have := all_range (show (List.range 6).all (fun a => decide (floatToIntVal .f64 (fl a) .i64 = some (a : Int))) = true by decide +kernel) a h
  exact of_decide_eq_true this
theorem cells_M (M : Nat) (h : M < ([Value.int .i64 0, .int .i64 774, .int .i64 770, .int .i64 795] : List Value).length) (h1 : 1 ≤ M) : ([Value.int .i64 0, .int .i64 774, .int .i64 770, .int .i64 795] : List Value)[M]'h = .int .i64 (mkS (M - 1)) := by
  match M, h1 with
  | 1, _ => rfl
  | 2, _ => rfl
  | 3, _ => rfl
  | n + 4, _ => simp at h; omega
theorem cells_T (M : Nat) (h : M < ([Value.int .i64 0, .int .i64 768, .int .i64 769, .int .i64 777, .int .i64 771, .int .i64 803] : List Value).length) (h1 : 1 ≤ M) : ([Value.int .i64 0, .int .i64 768, .int .i64 769, .int .i64 777, .int .i64 771, .int .i64 803] : List Value)[M]'h = .int .i64 (mkS (M + 2)) := by
  match M, h1 with
  | 1, _ => rfl
  | 2, _ => rfl
  | 3, _ => rfl
  | 4, _ => rfl
  | 5, _ => rfl
  | n + 6, _ => simp at h; omega

set_option maxRecDepth 100000 in
set_option maxHeartbeats 12800000 in
theorem vcanonApart_any (n : Nat) (A : Option Addr) (cap : Nat) (l : List Int) (n' : Nat) (A' : Option Addr) (cap' : Nat) (ss : List Int) (w : World) (hn : n = l.length) (hr : Rd w w.heap.size A (l.map (Value.int .u8))) (hc : n ≤ cap) (hw : ∀ z ∈ l, 0 ≤ z ∧ z ≤ 255)
    (hn' : n' = ss.length) (hr' : Rd w w.heap.size A' (ss.map (Value.int .i64))) (hc' : n' ≤ cap') (hT : TabV w) :
    Calls Tryd.prog 6 #[.slice A n cap, .slice A' n' cap'] w fun e w' => e = .returned (.bool true) ∧ Below w.heap.size w w' := by
  obtain ⟨q, hq, hqn, hq6⟩ : ∃ q : Nat, ((if 30 < n' then 30 else n') = q) ∧ q ≤ n' ∧ q ≤ 30 := ⟨_, rfl, by split <;> omega, by split <;> omega⟩
  have hmin : (if (30 : Int) < (n' : Int) then (30 : Int) else (n' : Int)) = (q : Int) := by rw [← hq]; split <;> split <;> omega
  have hqc : q ≤ cap' := by omega
  have hq0 : (0 : Int) ≤ (q : Int) := by omega
  have hrt := Rd.take q hr'
  rw [← List.map_take] at hrt
  have hql : (ss.take q).length = q := by rw [List.length_take]; omega
  obtain ⟨S, hS⟩ : ∃ S, ss.take q = S := ⟨_, rfl⟩
  rw [hS] at hrt hql
  have HRS := Lib.hid (show RI w A' S from hrt)
  have HQL := Lib.hid hql
  obtain ⟨X, hX⟩ : ∃ X, someF l = X := ⟨_, rfl⟩
  have hxl : X.length ≤ 60 := by rw [← hX]; exact someF_len l
  obtain ⟨m, hm⟩ : ∃ m, X.length = m := ⟨_, rfl⟩
  have HM := Lib.hid hm
  have hm60 : m ≤ 60 := by omega
  obtain ⟨XS, hXS⟩ : ∃ XS, X ++ S = XS := ⟨_, rfl⟩
  obtain ⟨t, ht⟩ : ∃ t, m + q = t := ⟨_, rfl⟩
  have hxsl : XS.length = t := by rw [← hXS, List.length_append, hm, hql, ht]
  have HXL := Lib.hid hxsl
  have HXS := Lib.hid hXS
  have HT0 := Lib.hid ht
  have ht90 : t ≤ 90 := by omega
  obtain ⟨Z, hZ⟩ : ∃ Z, apF XS = Z := ⟨_, rfl⟩
  have hzl := (apF_len XS).2
  rw [hZ] at hzl
  obtain ⟨mz, hmz⟩ : ∃ m, Z.length = m := ⟨_, rfl⟩
  have HMZ := Lib.hid hmz
  have HZ := Lib.hid hZ
  have hmz2 : mz ≤ 270 := by omega
  have HS0 := Lib.hid (fun W hr => some_at n A cap l W hn hr hc hw X hX m hm)
  have HP := Lib.hid (fun n A cap (W : World) hn hr hT => apart_at n A cap XS W hn hr (by omega) hT Z hZ mz hmz)
  have HR := Lib.hid hr
  have HT := Lib.hid hT
  clear hr hr' hT hn hn' hw hS hrt hql hX hm hq hxl hXS ht hxsl hZ hzl hmz
  go_enter Tryd.func6, Tryd.ntmps6
  go_wp2_with fail
  refine (awake10_any w HT.out).mono ?_
  rintro e w1 ⟨rfl, hb1⟩
  have HB1 := Lib.hid hb1
  have hs1 := hb1.size
  clear hb1
  go_wp2_with fail
  refine wp_region_mixe (G := Below w1.heap.size) [(0, false), (2, false), (3, false), (4, false), (5, false), (6, false), (1, true), (7, true), (8, false)]
    (below_fix w1.heap.size) (below_fix_trans w1.heap.size) (by kernel_rfl) rfl (by kernel_rfl) (by kernel_rfl) ?_
  iterate 6 (refine mixe_one rfl rfl ?_; go_big_quiet_step ((intro _; rfl)); refine wpQuiet_nil ?_)
  refine mixe_call rfl ?_
  go_wp2_with fail
  refine (HS0.out w1.drew (HR.out.below HB1.out.drew HB1.out.size)).mono ?_
  rintro e w4 ⟨A5, c5, rfl, hr4, hc5, hd5, hb4'⟩
  have HBD := Lib.hid (show Below w1.heap.size w1 w4 from (Below.refl _ w1).drew.trans hb4')
  have HO4 := Lib.hid (show IR w4 w1.heap.size (.slice A5 m c5) X from hr4)
  have HB4 := Lib.hid (HB1.out.trans (HBD.out.mono hs1))
  have HRS4 := Lib.hid (HRS.out.below HB4.out)
  have hs4 : w1.heap.size ≤ w4.heap.size := HBD.out.size
  clear hr4
  go_wp2_with fail
  refine ⟨hb4', ?_⟩
  clear hb4'
  refine mixe_call rfl ?_
  have HSM := Lib.hid (show X.length + S.length ≤ 17592186044416 by rw [HM.out, HQL.out]; omega)
  go_wp2_with (at_builtin; refine wpList_appI rfl _ _ rfl w1.heap.size (.slice A5 m c5) X rfl HO4.out A' _ cap' S rfl HQL.out.symm _ HRS4.out HSM.out hs4 ?_)
  intro v5 w5 hO5 hG5
  have HB45 := Lib.hid (IR.keepsB (Below.refl w1.heap.size w4) hG5.out HO4.out (Nat.le_refl _) hs4)
  go_wp2_with fail
  refine ⟨HB45.out, ?_⟩
  iterate 1 (refine mixe_one rfl rfl ?_; go_big_quiet_step ((intro _; rfl)); refine wpQuiet_nil ?_)
  refine NoPanic.normal ?_
  rw [HXS.out] at hO5
  obtain ⟨A6, c6, hv5, hA6, hC6⟩ := hO5.out.form
  rw [HXL.out] at hv5 hA6
  subst hv5
  have HB5 := Lib.hid (HB4.out.trans (HB45.out.mono hs1))
  have HRX := Lib.hid hO5.out.rd
  have hs5 := HB5.out.size
  clear hG5 hO5 HO4 HB4 HBD HRS4 HB45 hs4 hmin hqc hq0 hqn hA6
  go_wp2
  go_loopw [5, 25] (fun v k wr => ∃ K : Nat, K ≤ t ∧ k = .int .i64 K ∧ Hid (IR wr w5.heap.size v (apF (XS.take K))) ∧ Hid (Below w5.heap.size w5 wr)) (fun _ k _ => t - (intOf k).toNat)
  case atStart => exact ⟨0, by omega, rfl, Lib.hid (IR.nil _ _), Lib.hid (Below.refl _ _)⟩
  case round =>
    obtain ⟨K, hK, rfl, HO, HB⟩ := hrel
    by_cases hKl : K = t
    · have HF := Lib.hid (show apF (XS.take K) = Z by rw [hKl, ← HXL.out, List.take_length, HZ.out])
      rw [HF.out] at HO
      have hKl' : ¬ K < t := by omega
      obtain ⟨A7, c7, hv7, hA7, hC7⟩ := HO.out.form
      rw [HMZ.out] at hv7
      have hu : u5 = .slice A7 mz c7 := hv7
      rw [hu] at HO
      rw [hu]
      have HBE := Lib.hid (HB5.out.trans (HB.out.mono hs5))
      have HRW := Lib.hid HO.out.rd
      clear hKl hv7 hu hA7
      go_wp2_with fail
      refine (HP.out t A6 c6 wr HXL.out.symm (HRX.out.below HB.out) (HT.out.below HBE.out)).mono ?_
      rintro e w8 ⟨A8, c8, rfl, hr8, hc8, hd8, hb8⟩
      have HB8 := Lib.hid (HBE.out.trans (hb8.mono HBE.out.size))
      have HRW8 := Lib.hid (HRW.out.below hb8)
      have HR8 := Lib.hid hr8.rd
      clear hr8 hb8
      go_wp2_with fail
      refine (units_any mz mz A8 A7 c8 c7 _ _ w8 rfl HMZ.out.symm HMZ.out.symm HR8.out HRW8.out (by rw [HMZ.out]; omega)).mono ?_
      rintro e w9 ⟨rfl, hb9⟩
      have HB9 := Lib.hid (HB8.out.trans (hb9.mono HB8.out.size))
      clear hb9
      go_wp2
      go_ret
      exact ⟨rfl, HB9.out⟩
    have hKl' : K < t := by omega
    have hKL : K < XS.length := by rw [HXL.out]; exact hKl'
    have hbs := HB.out.size
    have hal := (apF_len (XS.take K)).2
    rw [List.length_take] at hal
    have hal2 : (apF (XS.take K)).length ≤ 270 := by omega
    have hap := apF_snoc (XS.take K)
    obtain ⟨out, hout⟩ : ∃ c, apF (XS.take K) = c := ⟨_, rfl⟩
    rw [hout] at hap HO hal2
    obtain ⟨b, off, rfl, hbl, hcell⟩ := rd_ints (HRX.out.below HB.out) (by omega)
    have hx := hcell K hKL
    obtain ⟨x, hxe⟩ : ∃ x, x = XS.getD K 0 := ⟨_, rfl⟩
    rw [← hxe] at hx
    have htk : XS.take (K + 1) = XS.take K ++ [x] := by rw [List.take_succ_eq_append_getElem hKL, hxe]; simp [List.getD_eq_getElem?_getD, hKL]
    have HAP := Lib.hid (show apF (XS.take (K + 1)) = out ++ ap1 x by rw [htk]; exact hap x)
    clear hcell hxe htk hap hout hal hKL
    go_wp2_with fail
    refine (lsplit_any x wr).mono ?_
    rintro e w2 ⟨rfl, hb2⟩
    have hs2 := hb2.size
    cases hk : splitF x with
    | none =>
      have HA := Lib.hid (show ap1 x = [x] by unfold ap1; rw [hk])
      rw [show lV none = #[.int .i64 0, .complex .f64 0 0] from rfl]
      simp only [Option.isSome_none]
      have HO1 := Lib.hid ((HO.out.below hb2 (Nat.le_refl _)).alloc (.cells #[.int .i64 0, .complex .f64 0 0] 35))
      have HB1' := Lib.hid ((HB.out.trans (hb2.mono hbs)).alloc (by omega) (.cells #[.int .i64 0, .complex .f64 0 0] 35))
      clear hb2 hk HO HB
      go_wp2_with (refine wpList_appI1 rfl _ _ rfl w5.heap.size u5 out x rfl HO1.out _ rfl (by simp) (by omega) (by simp; omega) ?_; intro v4 w4 hO4 hG4)
      exact ⟨⟨K + 1, by omega, by go_num, by rw [HAP.out, HA.out]; exact hO4, Lib.hid (IR.keepsB HB1'.out hG4.out HO1.out (Nat.le_refl _) (by simp; omega))⟩, by simp [intOf]; omega⟩
    | some k =>
      have hk8 := (splitF_LS hk).1
      have hls := letter_small k hk8
      have hv : lV (some k) = #[.int .i64 (LB k), .complex .f64 (fl (LM k)) (fl (LT k))] := rfl
      have hA : ap1 x = if LM k = 4 then [x] else LB k :: apS k := by unfold ap1; rw [hk]
      have h4 : (FloatKind.f64.format.order (fl (LM k)) 4616189618054758400 == some .eq) = (LM k == 4) := by
        rw [ord_eq10, ← fl_four]; exact feq_fl _ _ (by omega) (by omega)
      have hcM := fl_int (LM k) (by omega)
      have hcT := fl_int (LT k) (by omega)
      have hase := apS_eq k hk8
      rw [hv]
      simp only [Option.isSome_some]
      obtain ⟨M, hM⟩ : ∃ v, LM k = v := ⟨_, rfl⟩
      obtain ⟨V, hV⟩ : ∃ v, LT k = v := ⟨_, rfl⟩
      obtain ⟨bx, hbx⟩ : ∃ v, LB k = v := ⟨_, rfl⟩
      obtain ⟨rx, hrx⟩ : ∃ v, fl (LM k) = v := ⟨_, rfl⟩
      obtain ⟨ix, hix⟩ : ∃ v, fl (LT k) = v := ⟨_, rfl⟩
      rw [hrx] at h4 hcM
      rw [hix] at hcT
      rw [hM] at h4 hA hcM hase hls
      rw [hV] at hcT hase hls
      rw [hbx] at hA
      rw [hbx, hrx, hix]
      have hHM : ∀ W, (convert 42 3 (.float .f64 rx)).run Tryd.prog W = .ok (.int .i64 (M : Int)) W := fun W => run_convert_float_int W _ _ _ _ _ _ (by kernel_rfl) Tryd.underlying3 hcM
      have hHT : ∀ W, (convert 42 3 (.float .f64 ix)).run Tryd.prog W = .ok (.int .i64 (V : Int)) W := fun W => run_convert_float_int W _ _ _ _ _ _ (by kernel_rfl) Tryd.underlying3 hcT
      have HO1 := Lib.hid ((HO.out.below hb2 (Nat.le_refl _)).alloc (.cells #[.int .i64 bx, .complex .f64 rx ix] 35))
      have HB1' := Lib.hid ((HB.out.trans (hb2.mono hbs)).alloc (by omega) (.cells #[.int .i64 bx, .complex .f64 rx ix] 35))
      have HQ1 := Lib.hid (Held.new w2 #[.int .i64 bx, .complex .f64 rx ix] 35)
      clear hb2 hk HO HB hv hbx hrx hix hM hV hcM hcT hk8
      by_cases h44 : M = 4
      · rw [if_pos h44] at hA
        have HA := Lib.hid hA
        have h4' : (FloatKind.f64.format.order rx 4616189618054758400 == some .eq) = true := by rw [h4, h44]; rfl
        clear h4 h44 hA hase hHM hHT hls
        go_wp2_with (refine wpList_appI1 rfl _ _ rfl w5.heap.size u5 out x rfl HO1.out _ rfl (by simp) (by omega) (by simp; omega) ?_; intro v4 w4 hO4 hG4)
        exact ⟨⟨K + 1, by omega, by go_num, by rw [HAP.out, HA.out]; exact hO4, Lib.hid (IR.keepsB HB1'.out hG4.out HO1.out (Nat.le_refl _) (by simp; omega))⟩, by simp [intOf]; omega⟩
      · rw [if_neg h44, hase h44] at hA
        have hap1 := hA
        have h4' : (FloatKind.f64.format.order rx 4616189618054758400 == some .eq) = false := by rw [h4]; simpa using h44
        clear h4 hA hase
        have hM4 : M < 4 := by omega
        have hV6 : V < 6 := by omega
        have hMi : (M : Int) < 4 := by omega
        have hM00 : (0 : Int) ≤ M := by omega
        have hVi : (V : Int) < 6 := by omega
        have hV00 : (0 : Int) ≤ V := by omega
        go_upto_region 9 with fail
        obtain ⟨w3, hW1⟩ : ∃ W1, w2.alloc (.cells #[.int .i64 bx, .complex .f64 rx ix] 35) = W1 := ⟨_, rfl⟩
        rw [hW1] at HO1 HB1' HQ1 ⊢
        obtain ⟨p, hp⟩ : ∃ p, w2.heap.size = p := ⟨_, rfl⟩
        rw [hp] at HQ1 ⊢
        have HB1 := HB1'
        have hbs1 := HB1.out.size
        have hp1 := HQ1.out.lt
        have c0 := HQ1.out.cell 0
        have c1 := HQ1.out.cell 1
        have hol3 : out.length ≤ 17592186044415 := by omega
        have hol4 : (out ++ [bx]).length ≤ 17592186044415 := by simp; omega
        have cMx := fun h h1 => cells_M M h h1
        have cTx := fun h h1 => cells_T V h h1
        obtain ⟨ym, hym⟩ : ∃ y, mkS (M - 1) = y := ⟨_, rfl⟩
        obtain ⟨yt, hyt⟩ : ∃ y, mkS (V + 2) = y := ⟨_, rfl⟩
        have hol5 : (out ++ [bx] ++ [ym]).length ≤ 17592186044415 := by simp; omega
        rw [hym] at cMx
        rw [hyt] at cTx
        clear hW1 hs2 hp HB1' hls
        clear w2
        by_cases hM0 : M = 0
        · have hm1 : ¬ ((0 : Int) < (M : Int)) := by omega
          have hmk : ¬ ((0 : Int) < (M : Int)) := by omega
          by_cases hT0 : V = 0
          · have ht1 : ¬ ((0 : Int) < (V : Int)) := by omega
            have htk : ¬ ((0 : Int) < (V : Int)) := by omega
            have HTK := Lib.hid (show apF (XS.take (K + 1)) = out ++ [bx] by rw [HAP.out, hap1]; simp [hM0, hT0])
            clear hap1 hM0 hT0
            clear cMx cTx hym hyt hm1 ht1
            go_wp2_with (first
              | (at_builtin; refine wpList_appI1 rfl _ _ rfl w5.heap.size u5 out bx rfl HO1.out _ rfl rfl hol3 hbs1 ?_; intro v4 w4 hO4 hG4; have hq4 := HQ1.out.grownI HO1.out (by decide) hG4.out; have d4 := hq4.cell 1; have hs4 := hG4.out.size; have HB4 := Lib.hid (IR.keepsB HB1.out hG4.out HO1.out (Nat.le_refl _) hbs1); have HQ4 := Lib.hid hq4; have hp4 := hq4.lt; clear hG4 hq4))
            exact ⟨⟨K + 1, by omega, by go_num, by rw [HTK.out]; exact hO4, HB4⟩, by simp [intOf]; omega⟩
          · have ht1 : 1 ≤ V := by omega
            have htk : (0 : Int) < (V : Int) := by omega
            have HTK := Lib.hid (show apF (XS.take (K + 1)) = out ++ [bx] ++ [yt] by rw [HAP.out, hap1]; simp [hM0, hT0, hyt])
            clear hap1 hM0 hT0
            have cT := fun h => cTx h ht1
            clear cMx cTx hym hyt hm1 ht1
            go_wp2_with (first
              | (at_builtin; refine wpList_appI1 rfl _ _ rfl w5.heap.size u5 out bx rfl HO1.out _ rfl rfl hol3 hbs1 ?_; intro v4 w4 hO4 hG4; have hq4 := HQ1.out.grownI HO1.out (by decide) hG4.out; have d4 := hq4.cell 1; have hs4 := hG4.out.size; have HB4 := Lib.hid (IR.keepsB HB1.out hG4.out HO1.out (Nat.le_refl _) hbs1); have HQ4 := Lib.hid hq4; have hp4 := hq4.lt; clear hG4 hq4)
              | (at_builtin; refine wpList_appI1 rfl _ _ rfl w5.heap.size v4 (out ++ [bx]) yt rfl (hO4.out.alloc _) _ rfl (by simp) hol4 (by simp; omega) ?_; intro v8 w8 hO8 hG8; have hq8 := (HQ4.out.alloc _).grownI (hO4.out.alloc _) (by decide) hG8.out; have d8 := hq8.cell 1; have HB8 := Lib.hid (IR.keepsB (HB4.out.alloc (by omega) _) hG8.out (hO4.out.alloc _) (Nat.le_refl _) (by simp; omega)); have hs8 : w4.heap.size ≤ w8.heap.size := (by have := hG8.out.size; simp at this; omega); have HQ8 := Lib.hid hq8; have hp8 := hq8.lt; clear hG8 hq8))
            exact ⟨⟨K + 1, by omega, by go_num, by rw [HTK.out]; exact hO8, HB8⟩, by simp [intOf]; omega⟩
        · have hm1 : 1 ≤ M := by omega
          have hmk : (0 : Int) < (M : Int) := by omega
          by_cases hT0 : V = 0
          · have ht1 : ¬ ((0 : Int) < (V : Int)) := by omega
            have htk : ¬ ((0 : Int) < (V : Int)) := by omega
            have HTK := Lib.hid (show apF (XS.take (K + 1)) = out ++ [bx] ++ [ym] by rw [HAP.out, hap1]; simp [hM0, hym, hT0])
            clear hap1 hM0 hT0
            have cM := fun h => cMx h hm1
            clear cMx cTx hym hyt hm1 ht1
            go_wp2_with (first
              | (at_builtin; refine wpList_appI1 rfl _ _ rfl w5.heap.size u5 out bx rfl HO1.out _ rfl rfl hol3 hbs1 ?_; intro v4 w4 hO4 hG4; have hq4 := HQ1.out.grownI HO1.out (by decide) hG4.out; have d4 := hq4.cell 1; have hs4 := hG4.out.size; have HB4 := Lib.hid (IR.keepsB HB1.out hG4.out HO1.out (Nat.le_refl _) hbs1); have HQ4 := Lib.hid hq4; have hp4 := hq4.lt; clear hG4 hq4)
              | (at_builtin; refine wpList_appI1 rfl _ _ rfl w5.heap.size v4 (out ++ [bx]) ym rfl (hO4.out.alloc _) _ rfl (by simp) hol4 (by simp; omega) ?_; intro v6 w6 hO6 hG6; have hq6 := (HQ4.out.alloc _).grownI (hO4.out.alloc _) (by decide) hG6.out; have d6 := hq6.cell 1; have HB6 := Lib.hid (IR.keepsB (HB4.out.alloc (by omega) _) hG6.out (hO4.out.alloc _) (Nat.le_refl _) (by simp; omega)); have hs6 : w4.heap.size ≤ w6.heap.size := (by have := hG6.out.size; simp at this; omega); have HQ6 := Lib.hid hq6; have hp6 := hq6.lt; clear hG6 hq6))
            exact ⟨⟨K + 1, by omega, by go_num, by rw [HTK.out]; exact hO6, HB6⟩, by simp [intOf]; omega⟩
          · have ht1 : 1 ≤ V := by omega
            have htk : (0 : Int) < (V : Int) := by omega
            have HTK := Lib.hid (show apF (XS.take (K + 1)) = out ++ [bx] ++ [ym] ++ [yt] by rw [HAP.out, hap1]; simp [hM0, hym, hT0, hyt])
            clear hap1 hM0 hT0
            have cM := fun h => cMx h hm1
            have cT := fun h => cTx h ht1
            clear cMx cTx hym hyt hm1 ht1
            go_wp2_with (first
              | (at_builtin; refine wpList_appI1 rfl _ _ rfl w5.heap.size u5 out bx rfl HO1.out _ rfl rfl hol3 hbs1 ?_; intro v4 w4 hO4 hG4; have hq4 := HQ1.out.grownI HO1.out (by decide) hG4.out; have d4 := hq4.cell 1; have hs4 := hG4.out.size; have HB4 := Lib.hid (IR.keepsB HB1.out hG4.out HO1.out (Nat.le_refl _) hbs1); have HQ4 := Lib.hid hq4; have hp4 := hq4.lt; clear hG4 hq4)
              | (at_builtin; refine wpList_appI1 rfl _ _ rfl w5.heap.size v4 (out ++ [bx]) ym rfl (hO4.out.alloc _) _ rfl (by simp) hol4 (by simp; omega) ?_; intro v6 w6 hO6 hG6; have hq6 := (HQ4.out.alloc _).grownI (hO4.out.alloc _) (by decide) hG6.out; have d6 := hq6.cell 1; have HB6 := Lib.hid (IR.keepsB (HB4.out.alloc (by omega) _) hG6.out (hO4.out.alloc _) (Nat.le_refl _) (by simp; omega)); have hs6 : w4.heap.size ≤ w6.heap.size := (by have := hG6.out.size; simp at this; omega); have HQ6 := Lib.hid hq6; have hp6 := hq6.lt; clear hG6 hq6)
              | (at_builtin; refine wpList_appI1 rfl _ _ rfl w5.heap.size v6 (out ++ [bx] ++ [ym]) yt rfl (hO6.out.alloc _) _ rfl (by simp) hol5 (by simp; omega) ?_; intro v8 w8 hO8 hG8; have hq8 := (HQ6.out.alloc _).grownI (hO6.out.alloc _) (by decide) hG8.out; have d8 := hq8.cell 1; have HB8 := Lib.hid (IR.keepsB (HB6.out.alloc (by omega) _) hG8.out (hO6.out.alloc _) (Nat.le_refl _) (by simp; omega)); have hs8 : w6.heap.size ≤ w8.heap.size := (by have := hG8.out.size; simp at this; omega); have HQ8 := Lib.hid hq8; have hp8 := hq8.lt; clear hG8 hq8))
            exact ⟨⟨K + 1, by omega, by go_num, by rw [HTK.out]; exact hO8, HB8⟩, by simp [intOf]; omega⟩
end Go.Proofs.YtjolbdfkkhphiaaDoor
