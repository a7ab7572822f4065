/- VcanonParts: two parts, the second beginning anew: the whole walk of the law. -/
import Derived.Test.YtjolbdfkkhphiaaDoorVcH
namespace Go.Proofs.YtjolbdfkkhphiaaDoor
set_option linter.unusedVariables false
set_option linter.unusedSimpArgs false
set_option linter.unnecessarySimpa false
open Go.RowKit Go.Shelf

set_option maxHeartbeats 6400000 in
theorem vcanonParts_any (n : Nat) (A : Option Addr) (cap : Nat) (l : List Int) (n' : Nat) (A' : Option Addr) (cap' : Nat) (l' : List Int) (w : World) (hn : n = l.length) (hr : Rd w w.heap.size A (l.map (Value.int .u8))) (hc : n ≤ cap) (hw : ∀ z ∈ l, 0 ≤ z ∧ z ≤ 255)
    (hn' : n' = l'.length) (hr' : Rd w w.heap.size A' (l'.map (Value.int .u8))) (hc' : n' ≤ cap') (hw' : ∀ z ∈ l', 0 ≤ z ∧ z ≤ 255) (hT : TabV w) :
    Calls Tryd.prog 9 #[.slice A n cap, .slice A' n' cap'] w fun e w' => e = .returned (.bool true) ∧ Below w.heap.size w w' := by
  obtain ⟨X, hX⟩ : ∃ X, someF l = X := ⟨_, rfl⟩
  have hxl : X.length ≤ 60 := by rw [← hX]; exact someF_len l
  obtain ⟨m, hm⟩ : ∃ m, X.length = m := ⟨_, rfl⟩
  obtain ⟨Y, hY⟩ : ∃ Y, someF l' = Y := ⟨_, rfl⟩
  have hyl : Y.length ≤ 60 := by rw [← hY]; exact someF_len l'
  obtain ⟨my, hmy⟩ : ∃ m, Y.length = m := ⟨_, rfl⟩
  obtain ⟨P, hP⟩ : ∃ P, cGo 0 X = P := ⟨_, rfl⟩
  obtain ⟨Q, hQ⟩ : ∃ Q, cGo 0 ([120] ++ Y) = Q := ⟨_, rfl⟩
  have hR : cGo 0 (X ++ ([120] ++ Y)) = P ++ Q := by rw [← hP, ← hQ]; exact cGo_parts X Y 120 (by decide +kernel) tog_x
  have hpl : P.length ≤ 60 := by have := cGo_len 0 X; rw [hP, kn_zero, List.length_nil] at this; omega
  have hql : Q.length ≤ 61 := by have := cGo_len 0 ([120] ++ Y); rw [hQ, kn_zero, List.length_nil] at this; simp at this; omega
  obtain ⟨mp, hmp⟩ : ∃ m, P.length = m := ⟨_, rfl⟩
  obtain ⟨mq, hmq⟩ : ∃ m, Q.length = m := ⟨_, rfl⟩
  have hpq : (P ++ Q).length = mp + mq := by simp [hmp, hmq]
  have hxy : (X ++ ([120] ++ Y)).length = m + (1 + my) := by simp [hm, hmy]; omega
  have hly : ([120] ++ Y).length = 1 + my := by simp [hmy]; omega
  have HS0 := Lib.hid (fun W hr => some_at n A cap l W hn hr hc hw X hX m hm)
  have HS1 := Lib.hid (fun W hr => some_at n' A' cap' l' W hn' hr hc' hw' Y hY my hmy)
  have HR := Lib.hid hr
  have HRR := Lib.hid hr'
  have HT := Lib.hid hT
  have HM := Lib.hid hm
  have HMY := Lib.hid hmy
  have HLY := Lib.hid hly
  have HXY := Lib.hid hxy
  have HPQ := Lib.hid hpq
  have HMP := Lib.hid hmp
  have HMQ := Lib.hid hmq
  have HA := Lib.hid (fun n A cap (W : World) hn hr hR => all_at n A cap X W hn hr (by omega) hR P hP mp hmp)
  have HA2 := Lib.hid (fun n A cap (W : World) hn hr hR => all_at n A cap ([120] ++ Y) W hn hr (by omega) hR Q hQ mq hmq)
  have HA3 := Lib.hid (fun n A cap (W : World) hn hr hRw => all_at n A cap (X ++ ([120] ++ Y)) W hn hr (by omega) hRw (P ++ Q) hR (mp + mq) hpq)
  have hm60 : m ≤ 60 := by omega
  have hmy60 : my ≤ 60 := by omega
  have hmp60 : mp ≤ 60 := by omega
  have hmq60 : mq ≤ 61 := by omega
  clear hr hr' hT hn hn' hw hw' hX hm hY hP hQ hmy hyl hxl hpl hql hmp hmq hpq hxy hly hR
  go_enter Tryd.func9, Tryd.ntmps9
  go_wp2_with fail
  refine (awake10_any w HT.out).mono ?_
  rintro e w1 ⟨rfl, hb1⟩
  have HB1 := Lib.hid hb1
  clear hb1
  go_wp2_with fail
  refine (HS0.out w1 (HR.out.below HB1.out HB1.out.size)).mono ?_
  rintro e w2 ⟨A2, c2, rfl, hr2, hc2, hd2, hb2⟩
  have HB2 := Lib.hid (HB1.out.trans (hb2.mono HB1.out.size))
  have HR2 := Lib.hid hr2.rd
  clear hr2 hb2 HB1
  clear w1
  go_wp2_with fail
  have HO3 := Lib.hid (IR.new w2 120)
  have hbA := (Below.refl w2.heap.size w2).alloc (Nat.le_refl _) (.cells #[.int .i64 120] 3)
  have HB3 := Lib.hid (HB2.out.trans (hbA.mono HB2.out.size))
  have HR3 := Lib.hid (HR2.out.below hbA)
  have hs23 := hbA.size
  obtain ⟨p, hp⟩ : ∃ p, w2.heap.size = p := ⟨_, rfl⟩
  obtain ⟨w3, hw3⟩ : ∃ w3, w2.alloc (.cells #[.int .i64 120] 3) = w3 := ⟨_, rfl⟩
  rw [hw3] at HO3 HB3 HR3 hs23 ⊢
  have HB23 := Lib.hid (show Below w2.heap.size w2 w3 by rw [← hw3]; exact hbA)
  have HRD2 := Lib.hid (show Rd w3 p A2 (X.map (Value.int .i64)) by rw [← hp]; exact Rd.below HR2.out HB23.out (Nat.le_refl _))
  rw [hp] at HO3 hs23 ⊢
  have HBP := Lib.hid (show w.heap.size ≤ p by rw [← hp]; exact HB2.out.size)
  clear hw3 hbA HR2 HB23 HB2 hp
  clear w2
  refine (HS1.out w3 (HRR.out.below HB3.out HB3.out.size)).mono ?_
  rintro e w4 ⟨A4, c4, rfl, hr4, hc4, hd4, hb4⟩
  have HB4 := Lib.hid (HB3.out.trans (hb4.mono HB3.out.size))
  have HO4 := Lib.hid (HO3.out.below hb4 (Nat.le_refl _))
  have HRD4 := Lib.hid (HRD2.out.below (hb4.mono hs23) (Nat.le_refl _))
  have HR4 := Lib.hid hr4.rd
  have hs4 := Nat.le_trans hs23 hb4.size
  have hsw4 := HB4.out.size
  clear hr4 hb4 HB3 HR3 HO3 HRD2 hs23
  clear w3
  have hsm : ([120] : List Int).length + Y.length ≤ 17592186044416 := by rw [HMY.out]; simp; omega
  have hsm2 : ([] : List Int).length + X.length ≤ 17592186044416 := by rw [HM.out]; simp; omega
  have hsm3 : (([] : List Int) ++ X).length + ([120] ++ Y).length ≤ 17592186044416 := by rw [HLY.out, List.nil_append, HM.out]; omega
  have HSM := Lib.hid hsm
  have HSM2 := Lib.hid hsm2
  have HSM3 := Lib.hid hsm3
  have HXY2 := Lib.hid (show ((([] : List Int) ++ X) ++ ([120] ++ Y)).length = m + (1 + my) by rw [List.nil_append]; exact HXY.out)
  clear hsm hsm2 hsm3
  go_wp2_with (first
    | (refine wpList_appI rfl _ _ rfl p _ [120] rfl HO4.out A4 _ c4 Y rfl HMY.out.symm _ HR4.out HSM.out hs4 ?_; intro v5 w5 hO5 hG5; obtain ⟨A5, c5, hv5, hA5, hC5⟩ := hO5.out.form; rw [HLY.out] at hv5; subst hv5; have HBp := Lib.hid (IR.keepsB (Below.refl p w4) hG5.out HO4.out (Nat.le_refl _) hs4); have HRX := Lib.hid (HRD4.out.below HBp.out (Nat.le_refl _)); have hs5 := hG5.out.size; have HRY := Lib.hid hO5.out.rd; clear hG5 hA5)
    | (refine wpList_appI rfl _ _ rfl w5.heap.size (.slice none 0 0) [] rfl (IR.nil _ _) A2 _ c2 X rfl HM.out.symm _ HRX.out HSM2.out (Nat.le_refl _) ?_; intro v6 w6 hO6 hG6; have HB6 := Lib.hid (IR.keepsB (Below.refl w5.heap.size w5) hG6.out (IR.nil w5 w5.heap.size) (Nat.le_refl _) (Nat.le_refl _)); have hs6 := hG6.out.size; have HRY6 := Lib.hid (HRY.out.below HB6.out); clear hG6)
    | (refine wpList_appI rfl _ _ rfl w5.heap.size v6 ([] ++ X) rfl hO6.out A5 _ c5 ([120] ++ Y) rfl HLY.out.symm _ HRY6.out HSM3.out hs6 ?_; intro v7 w7 hO7 hG7; obtain ⟨A7, c7, hv7, hA7, hC7⟩ := hO7.out.form; rw [HXY2.out] at hv7; subst hv7; have HB7 := Lib.hid (IR.keepsB HB6.out hG7.out hO6.out (Nat.le_refl _) hs6); have hs7 := hG7.out.size; have HR7 := Lib.hid hO7.out.rd; clear hG7))
  rw [List.nil_append] at HR7
  have HXX := Lib.hid (Rd.below HRX.out (HB7.out.mono (by omega)) (Nat.le_refl p))
  have HYY := Lib.hid (HRY.out.below HB7.out)
  have HB47 := Lib.hid (show Below p w4 w7 from HBp.out.trans (HB7.out.mono (by omega)))
  have HBw7 := Lib.hid (HB4.out.trans (HB47.out.mono HBP.out))
  have HXR := Lib.hid (show RI w7 A2 X from HXX.out.keep (by omega) (fun _ _ _ => rfl))
  clear HRX HRY HRY6 HB6 HB7 HXX HB47 HBp
  refine (HA3.out (m + (1 + my)) A7 c7 w7 HXY.out.symm HR7.out (HT.out.below HBw7.out).rows).mono ?_
  rintro e w8 ⟨A8, c8, rfl, hr8, hc8, hd8, hb8⟩
  have HB8 := Lib.hid (HBw7.out.trans (hb8.mono HBw7.out.size))
  have HX8 := Lib.hid (HXR.out.below hb8)
  have HY8 := Lib.hid (HYY.out.below hb8)
  have HR8 := Lib.hid hr8.rd
  clear hr8 hb8 HBw7 HXR HYY HR7
  go_wp2_with fail
  refine (HA.out m A2 c2 w8 HM.out.symm HX8.out (HT.out.below HB8.out).rows).mono ?_
  rintro e w9 ⟨A9, c9, rfl, hr9, hc9, hd9, hb9⟩
  have HB9 := Lib.hid (HB8.out.trans (hb9.mono HB8.out.size))
  have HY9 := Lib.hid (HY8.out.below hb9)
  have HR89 := Lib.hid (HR8.out.below hb9)
  have HO9 := Lib.hid hr9
  have hs9 := hb9.size
  have HR8B := Lib.hid (show Rd w9 w8.heap.size A8 ((P ++ Q).map (Value.int .i64)) from Rd.below HR8.out hb9 (Nat.le_refl _))
  clear hr9 hb9 HX8 HY8 HR8
  go_wp2_with fail
  refine (HA2.out (1 + my) A5 c5 w9 HLY.out.symm HY9.out (HT.out.below HB9.out).rows).mono ?_
  rintro e w10 ⟨A10, c10, rfl, hr10, hc10, hd10, hb10⟩
  have HB10 := Lib.hid (HB9.out.trans (hb10.mono HB9.out.size))
  have HO10 := Lib.hid (HO9.out.below hb10 (Nat.le_refl _))
  have HR10 := Lib.hid hr10.rd
  have HR8C := Lib.hid (HR8B.out.below (hb10.mono hs9) (Nat.le_refl _))
  have hs10 : w8.heap.size ≤ w10.heap.size := Nat.le_trans hs9 hb10.size
  have HS8 := Lib.hid HB8.out.size
  have HSM4 := Lib.hid (show P.length + Q.length ≤ 17592186044416 by rw [HMP.out, HMQ.out]; omega)
  clear hr10 hb10 HR8B HO9 HR89 HY9
  go_wp2_with (refine wpList_appI rfl _ _ rfl w8.heap.size (.slice A9 mp c9) P rfl HO10.out A10 _ c10 Q rfl HMQ.out.symm _ HR10.out HSM4.out hs10 ?_; intro v11 w11 hO11 hG11; obtain ⟨A11, c11, hv11, hA11, hC11⟩ := hO11.out.form; rw [HPQ.out] at hv11; subst hv11; have HB11 := Lib.hid (IR.keepsB (Below.refl w8.heap.size w10) hG11.out HO10.out (Nat.le_refl _) hs10); have hs11 := hG11.out.size; have HR11 := Lib.hid hO11.out.rd; clear hG11)
  have HR8D := Lib.hid (show RI w11 A8 (P ++ Q) from (Rd.below HR8C.out HB11.out (Nat.le_refl _)).keep (by omega) (fun _ _ _ => rfl))
  have HBE := Lib.hid (HB10.out.trans (HB11.out.mono HS8.out))
  refine (units_any (mp + mq) (mp + mq) A8 A11 c8 c11 _ _ w11 rfl HPQ.out.symm HPQ.out.symm HR8D.out HR11.out (by rw [HPQ.out]; omega)).mono ?_
  rintro e w12 ⟨rfl, hb12⟩
  have HB12 := Lib.hid (HBE.out.trans (hb12.mono HBE.out.size))
  clear hb12
  go_wp2
  go_ret
  exact ⟨rfl, HB12.out⟩
end Go.Proofs.YtjolbdfkkhphiaaDoor
