/- MachineApart: the walk. -/
import Derived.Test.YtikbmagolgcbfaaZ17
import Derived.Test.YtikbmagolgcbfaaZ13
import Derived.Test.YtikbmagolgcbfaaZ11
import Derived.Test.YtikbmagolgcbfaaZ18
namespace Go.Proofs.Ytikbmagolgcbfaa
set_option linter.unusedVariables false
set_option linter.unusedSimpArgs false
set_option linter.unnecessarySimpa false
open Go.RowKit
set_option maxRecDepth 100000 in
set_option maxHeartbeats 12800000 in
theorem machineApart_any (n : Nat) (A : Option Addr) (c : Nat) (rows : List RowL) (A' : Option Addr) (c' : Nat) (zs : List Int) (w : World) (hr : RwAt w w.heap.size A n c rows) (hz : Rd w w.heap.size A' (zs.map (Value.int .u8))) (hzr : ∀ z ∈ zs, 0 ≤ z ∧ z ≤ 255) (hzc : zs.length ≤ c') (hzm : c' ≤ maxLen) (B' : Option Addr) (d' : Nat) (ys : List Int) (hy : Rd w w.heap.size B' (ys.map (Value.int .u8))) (hyr : ∀ z ∈ ys, 0 ≤ z ∧ z ≤ 255) (hyc : ys.length ≤ d') (hym : d' ≤ maxLen) :
    Calls Try.prog 5 #[.slice A n c, .slice A' zs.length c', .slice B' ys.length d'] w fun e w' => e = .returned (.bool true) ∧ Below w.heap.size w w' := by
  obtain ⟨rs, hrs⟩ : ∃ rs, tabR (rightR (rulesR rows)) = rs := ⟨_, rfl⟩
  obtain ⟨hck, hcl, hct, h40⟩ := tab_good rows
  rw [hrs] at hck hcl hct h40
  have HCL := Lib.hid hcl
  have HGT := Lib.hid (good_of hct)
  have HG := Lib.hid (good_of hck)
  obtain ⟨N, hN⟩ : ∃ N, N = rs.length := ⟨_, rfl⟩
  obtain ⟨Z, hZ⟩ : ∃ Z, Z = zs.length := ⟨_, rfl⟩
  obtain ⟨us, hus⟩ : ∃ us, fewM zs = us := ⟨_, rfl⟩
  obtain ⟨M, hM⟩ : ∃ M, us.length = M := ⟨_, rfl⟩
  have hM60 : M ≤ 60 := by rw [← hM, ← hus]; exact fewM_len zs
  obtain ⟨Y, hY⟩ : ∃ Y, Y = ys.length := ⟨_, rfl⟩
  obtain ⟨vs, hvs⟩ : ∃ vs, fewM ys = vs := ⟨_, rfl⟩
  obtain ⟨O, hO⟩ : ∃ O, vs.length = O := ⟨_, rfl⟩
  have hO60 : O ≤ 60 := by rw [← hO, ← hvs]; exact fewM_len ys
  rw [← hZ] at hzc ⊢
  rw [← hY] at hyc ⊢
  have HYM := Lib.hid hym
  have HYV := Lib.hid hy
  have HYR := Lib.hid hyr
  have HYL := Lib.hid hY
  have HVS := Lib.hid hvs
  have HOL := Lib.hid hO
  clear hy hyr hY hvs hO hym
  rw [← hN] at h40
  have HZM := Lib.hid hzm
  have HR := Lib.hid hr
  have HRS := Lib.hid hrs
  have HCK := Lib.hid hck
  have HN := Lib.hid hN
  have HZ := Lib.hid hz
  have HZR := Lib.hid hzr
  have HZL := Lib.hid hZ
  have HUS := Lib.hid hus
  have HM := Lib.hid hM
  clear hr hrs hck hcl hct hN hz hzr hZ hus hM hzm
  go_enter Try.func5, Try.ntmps5
  go_wp2_with fail
  refine (awake16_any _).mono ?_
  rintro e w1 ⟨rfl, hb1⟩
  have hs1 := hb1.size
  go_wp2_with fail
  refine (ltab_any n A c rows w1.heap.size _ (HR.out.below hb1 hs1) (Nat.le_refl _) rs HRS.out).mono ?_
  rintro e w2 ⟨v2, rfl, ho2, hb2⟩
  have hs2 := hb2.size
  obtain ⟨A2, c2, rfl, hat2⟩ := ho2.form
  rw [← HN.out] at hat2 ⊢
  have HAT2 := Lib.hid hat2
  clear ho2 hat2
  go_wp2_with fail
  refine (tab_of_ok N A2 c2 rs w2.heap.size _ HAT2.out (Nat.le_refl _) (by omega) HCK.out HCL.out).mono ?_
  rintro e w3 ⟨T, rfl, ho, hb3⟩
  have hs3 := hb3.size
  have HO := Lib.hid ho
  have HAT3 := Lib.hid (HAT2.out.below hb3 hs3)
  have hbE3 : Below w.heap.size w w3 := hb1.trans ((hb2.trans (hb3.mono hs2)).mono hs1)
  have HB3 := Lib.hid hbE3
  have hsE := hbE3.size
  clear ho hb1 hb2 hb3 hbE3 HAT2
  go_wp2_with fail
  refine (mencode_any w3 w3.heap.size T rs HO.out (Nat.le_refl _)).mono ?_
  rintro e w4 ⟨x1, T1, R1, rfl, hs4', hx, hb4⟩
  have hxE := hx (fun b => b ≠ x1) (fun b hb => hb)
  have hx1l := hxE.lt
  have hx1T := hxE.tlt
  have HX4 := Lib.hid hxE
  have HB34 := Lib.hid hb4
  have hs4 := hb4.size
  clear hx hxE hb4
  go_wp2_with fail
  refine (mencode_any w4 w3.heap.size T rs (HO.out.below HB34.out (Nat.le_refl _)) hs4).mono ?_
  rintro e w5 ⟨x2, T2, R2, rfl, hs5', hx, hb5⟩
  have hxE := hx (fun b => b ≠ x2 ∧ b ≠ x1) (fun b hb => hb.1)
  have hx2l := hxE.lt
  have hx2T := hxE.tlt
  have hs5 := hb5.size
  have hx12 : x1 ≠ x2 := by omega
  have hx1T2 : x1 ≠ T2 := by omega
  have HY5 := Lib.hid hxE
  have HX5 := Lib.hid (HX4.out.below hb5)
  have HB35 := Lib.hid (HB34.out.trans (hb5.mono hs4))
  have HB5 := Lib.hid (HB3.out.trans (HB35.out.mono hsE))
  have hsw5 := HB5.out.size
  clear hx hxE hb5 HX4 HB34 HO
  go_wp2_with fail
  refine (few_any Z A' c' zs w.heap.size w5 HZL.out (HZ.out.below HB5.out (Nat.le_refl _)) HZR.out HB5.out.size hzc HZM.out us M HUS.out HM.out).mono ?_
  rintro e w6 ⟨A5, c5, rfl, hu5, hb6⟩
  have hs6 := hb6.size
  have hu5' : Us (fun b => b ≠ x1 ∧ b ≠ x2) w6 (.slice A5 M c5) us := hu5.step (Nat.le_refl _) fun b _ hx => ⟨(by have : w5.heap.size ≤ b := hx; omega), rfl⟩
  have HU6 := Lib.hid hu5'
  have HX6 := Lib.hid (HX5.out.below hb6)
  have HY6 := Lib.hid (HY5.out.below hb6)
  have HB36 := Lib.hid (HB35.out.trans (hb6.mono (by omega)))
  have HB6 := Lib.hid (HB5.out.trans (hb6.mono hsw5))
  clear hu5 hu5' hb6 HX5 HY5 HB35 HB5
  go_wp2_with fail
  refine (few_any Y B' d' ys w.heap.size w6 HYL.out (HYV.out.below HB6.out (Nat.le_refl _)) HYR.out HB6.out.size hyc HYM.out vs O HVS.out HOL.out).mono ?_
  rintro e w7 ⟨A6, c6, rfl, hu6, hb7⟩
  have hs7 := hb7.size
  have hu6' : Us (fun b => b ≠ x1 ∧ b ≠ x2) w7 (.slice A6 O c6) vs := hu6.step (Nat.le_refl _) fun b _ hx => ⟨(by have : w6.heap.size ≤ b := hx; omega), rfl⟩
  have HV7 := Lib.hid hu6'
  have HU7 := Lib.hid (HU6.out.step hs7 fun b hl hx => ⟨hx, hb7.block b hl⟩)
  have HX7 := Lib.hid (HX6.out.below hb7)
  have HY7 := Lib.hid (HY6.out.below hb7)
  have HB37 := Lib.hid (HB36.out.trans (hb7.mono (by omega)))
  have hs37 := HB37.out.size
  clear hu6 hu6' hb7 HX6 HY6 HB36 HU6
  obtain ⟨ta, hta⟩ : ∃ ta, rewA (turnR rs) 0 us = ta := ⟨_, rfl⟩
  obtain ⟨tp, htp⟩ : ∃ tp, encF rs [] ta = tp := ⟨_, rfl⟩
  have hea : encA rs us = tp := by rw [← htp, ← hta]; rfl
  have D1 := Lib.hid (mallE_any w7 w3.heap.size x1 rs T1 R1 0 0 [] HX7.out (by omega) (by omega) (by omega) (by omega) M A5 c5 us HM.out (HU7.out.step (Nat.le_refl _) fun b _ hx => ⟨hx.1, rfl⟩) (by omega) ta hta)
  have D5 := Lib.hid (fun (W : World) (R : List Value) (h : EAt (fun b => b ≠ x2) W w3.heap.size x2 rs T2 R [] 0 0 []) (hu : Us (fun b => b ≠ x2) W (.slice A5 M c5) us) => mallE_any W w3.heap.size x2 rs T2 R 0 0 [] h (by omega) (by omega) (by omega) (by omega) M A5 c5 us HM.out hu (by omega) ta hta)
  rw [htp] at D1
  rw [htp] at D5
  have htl : ta.length ≤ 60 := by have := HGT.out.rew_len us 0; rw [hta, HM.out] at this; omega
  have ht8 : ∀ t ∈ tp, t.out.length ≤ 8 := by rw [← htp]; exact encF_small fun t h => (HGT.out.rew_tk us 0 t (by rw [hta]; exact h)).len
  have HEA := Lib.hid hea
  have HT8 := Lib.hid ht8
  obtain ⟨P, hP⟩ : ∃ P, P = tp.length := ⟨_, rfl⟩
  have hP60 : P ≤ 60 := by rw [hP, ← htp, encF_len]; exact htl
  have HP := Lib.hid hP
  clear hta htp hea ht8 htl hP HX7
  go_wp2_with fail
  refine D1.out.mono ?_
  rintro e w8 ⟨v8, s8, rfl, ho8, ⟨R8, hx8⟩, hs80, hs81, hg8⟩
  obtain ⟨A8, c8, rfl, -⟩ := ho8.own.form
  rw [← HP.out] at ho8 ⊢
  have hs8 := hg8.size
  have HX8 := Lib.hid hx8
  have HO8 := Lib.hid ho8
  have HY8 := Lib.hid (HY7.out.other hg8 (by omega) hx12 hx1T2 (fun b hb => hb.2))
  have HU8 := Lib.hid (HU7.out.past hg8 (fun b hb => hb.1))
  have HV8 := Lib.hid (HV7.out.past hg8 (fun b hb => hb.1))
  have HB38 := Lib.hid (HB37.out.trans (below_of hg8 (show w3.heap.size ≤ x1 by omega) (by omega)))
  clear hx8 ho8 hg8 D1 HY7 HU7 HV7 HB37
  go_wp2_with fail
  refine (eapart_any _ w8 _ x1 rs T1 R8 _ _ _ _ HX8.out).mono ?_
  rintro e w9 ⟨rfl, ⟨R9, hx9⟩, hg9⟩
  rw [show (0 : Int) + M = M from by omega] at hx9
  have hs9 := hg9.size
  have hO9 := HO8.out.past hg9 (by omega)
  have HY9 := Lib.hid (HY8.out.other hg9 (by omega) hx12 hx1T2 (fun b hb => hb.2))
  have HU9 := Lib.hid (HU8.out.past hg9 (fun b hb => hb.1))
  have HV9 := Lib.hid (HV8.out.past hg9 (fun b hb => hb.1))
  have HB39 := Lib.hid (HB38.out.trans (below_of hg9 (show w3.heap.size ≤ x1 by omega) (by have := HB38.out.size; omega)))
  obtain ⟨tb, htb⟩ : ∃ tb, rewA (turnR rs) M vs = tb := ⟨_, rfl⟩
  obtain ⟨tq, htq⟩ : ∃ tq, encF rs [] tb = tq := ⟨_, rfl⟩
  obtain ⟨tw, htw⟩ : ∃ tw, encA rs vs = tw := ⟨_, rfl⟩
  have hqw : tq = tw.map (shK M) := by rw [← htq, ← htb, ← htw]; exact enc_further HGT.out vs M
  have D2 := Lib.hid (mallE_any w9 w3.heap.size x1 rs T1 R9 M s8 [] hx9 (by omega) (by omega) (by omega) (by omega) O A6 c6 vs HOL.out (HV9.out.step (Nat.le_refl _) fun b _ hx => ⟨hx.1, rfl⟩) (by omega) tb htb)
  rw [htq] at D2
  have htl : tb.length ≤ 60 := by have := HGT.out.rew_len vs M; rw [htb, HOL.out] at this; omega
  have hb8 : ∀ t ∈ tb, t.out.length ≤ 8 := fun t h => (HGT.out.rew_tk vs M t (by rw [htb]; exact h)).len
  have hbe : ∀ t ∈ tb, t.err = 0 ∨ t.err = 3 := fun t h => by
    rcases (HGT.out.rew_tk vs M t (by rw [htb]; exact h)).err with g | g
    · exact .inr g.1
    · exact .inl g.1
  obtain ⟨Q, hQ⟩ : ∃ Q, Q = tb.length := ⟨_, rfl⟩
  have hQ1 : Q = tq.length := by rw [hQ, ← htq, encF_len]
  have hQ2 : tw.length = Q := by rw [hQ1, hqw, List.length_map]
  have hQ60 : Q ≤ 60 := by omega
  have htw8 : ∀ t ∈ tw, 0 ≤ t.pos ∧ t.pos ≤ 60 := fun t h => by have := encA_pos HGT.out vs t (by rw [htw]; exact h); rw [HOL.out] at this; omega
  have HQ := Lib.hid hQ
  have HQ1 := Lib.hid hQ1
  have HQ2 := Lib.hid hQ2
  have HQW := Lib.hid hqw
  have HTQ := Lib.hid htq
  have HTB := Lib.hid htb
  have HTW := Lib.hid htw
  have HTW8 := Lib.hid htw8
  have HB8 := Lib.hid hb8
  have HBT := Lib.hid hbe
  have HO9 := Lib.hid hO9
  clear hx9 hg9 hO9 htb htq htw hqw htl hb8 hbe hQ hQ1 hQ2 htw8 HX8 HO8 HY8 HU8 HV8 HB38
  go_wp2_with fail
  refine D2.out.mono ?_
  rintro e w10 ⟨v10, s10, rfl, ho10, -, -, -, hg10⟩
  obtain ⟨A10, c10, rfl, -⟩ := ho10.own.form
  rw [← HQ1.out] at ho10 ⊢
  have hs10 := hg10.size
  have hO10 := HO9.out.past hg10 (by omega)
  have HY10 := Lib.hid (HY9.out.other hg10 (by omega) hx12 hx1T2 (fun b hb => hb.2))
  have HU10 := Lib.hid (HU9.out.past hg10 (fun b hb => hb.1))
  have HV10 := Lib.hid (HV9.out.past hg10 (fun b hb => hb.1))
  have HB310 := Lib.hid (HB39.out.trans (below_of hg10 (show w3.heap.size ≤ x1 by omega) (by have := HB39.out.size; omega)))
  have HO10 := Lib.hid hO10
  have HQ10 := Lib.hid ho10
  obtain ⟨p1, c1', e1, g1, g2, g3⟩ := HV10.out
  obtain ⟨rfl, rfl⟩ : A6 = p1 ∧ c6 = c1' := by injection e1 with a b c; exact ⟨a, c⟩
  have E1 := Lib.hid (lencode_any N A2 c2 rs w3.heap.size w10 (HAT3.out.below HB310.out (Nat.le_refl _)) HB310.out.size (by omega) HG.out HGT.out O A6 c6 vs w10.heap.size HOL.out.symm (g3.rd (Nat.le_refl _)) (Nat.le_refl _) (by rw [← HOL.out]; exact g1) g2 (by omega) tw HTW.out)
  clear ho10 hg10 hO10 D2 HO9 HY9 HU9 HV9 HB39 e1 g1 g2 g3
  go_wp2_with fail
  refine E1.out.mono ?_
  rintro e w11 ⟨v11, rfl, ho11, hb11⟩
  obtain ⟨A11, c11, rfl, -⟩ := ho11.form
  rw [HQ2.out] at ho11 ⊢
  have HO11 := Lib.hid ho11
  have HB11 := Lib.hid hb11
  clear ho11 hb11 E1
  go_wp2
  go_loopw [66] (fun i wr => ∃ (J : Nat), J ≤ Q ∧ i = .int .i64 J ∧ Hid (OwnTk w10.heap.size wr (.slice A11 Q c11) (mixK M J tw)) ∧ Hid (Below w10.heap.size w10 wr)) (fun i _ => Q - (intOf i).toNat)
  case atStart => exact ⟨0, by omega, rfl, by rw [mixK_zero]; exact HO11, HB11⟩
  case round =>
    obtain ⟨J, hJ, rfl, ho, hb⟩ := hrel
    by_cases hJQ : J = Q
    · have hJ' : ¬ J < Q := by omega
      have hfin := ho.out
      rw [mixK_all (by rw [HQ2.out]; omega), ← HQW.out] at hfin
      obtain ⟨w12, rfl⟩ : ∃ w12 : World, w12 = wr := ⟨_, rfl⟩
      have hs12 := hb.out.size
      have HF12 := Lib.hid hfin
      have HB12 := Lib.hid hb.out
      have HB312 := Lib.hid (HB310.out.trans (hb.out.mono HB310.out.size))
      have hu12 := HU10.out.step hs12 (fun b hl hx => ⟨hx, hb.out.block b hl⟩)
      obtain ⟨p1, c1', e1, g1, g2, g3⟩ := hu12
      obtain ⟨rfl, rfl⟩ : A5 = p1 ∧ c5 = c1' := by injection e1 with a b c; exact ⟨a, c⟩
      have E2 := Lib.hid (lencode_any N A2 c2 rs w3.heap.size w12 (HAT3.out.below HB312.out (Nat.le_refl _)) HB312.out.size (by omega) HG.out HGT.out M A5 c5 us w12.heap.size HM.out.symm (g3.rd (Nat.le_refl _)) (Nat.le_refl _) (by rw [← HM.out]; exact g1) g2 (by omega) tp HEA.out)
      clear hfin hb ho hJQ e1 g1 g2 g3 HB11 HO11
      go_wp2_with fail
      refine E2.out.mono ?_
      rintro e w13 ⟨v13, rfl, ho13, hb13⟩
      obtain ⟨A13, c13, rfl, hat13⟩ := ho13.form
      rw [← HP.out] at hat13 ⊢
      have hb1013 := HB12.out.trans (hb13.mono hs12)
      have hp13 := HO10.out.below hb1013 (Nat.le_refl _)
      have hq13 := HQ10.out.below hb1013 (Nat.le_refl _)
      obtain ⟨A8', c8', e8, hat8⟩ := hp13.own.form
      rw [← HP.out] at e8 hat8
      obtain ⟨rfl, rfl⟩ : A8 = A8' ∧ c8 = c8' := by injection e8 with a b c; exact ⟨a, c⟩
      have S1 := Lib.hid (same_below P A8 A13 c8 c13 tp w13.heap.size w13.heap.size w13 hat8 hat13)
      have HP13 := Lib.hid hp13
      have HQ13 := Lib.hid hq13
      have HF13 := Lib.hid (HF12.out.below hb13 (Nat.le_refl _))
      have HB13 := Lib.hid hb1013
      have hs13 := hb1013.size
      clear ho13 hat13 hat8 hp13 hq13 hb13 hb1013 e8 E2 HF12
      go_wp2_with fail
      refine S1.out.mono ?_
      rintro e w14 ⟨rfl, hb14⟩
      have hb1014 := HB13.out.trans (hb14.mono hs13)
      have hp14 := HP13.out.below hb14 (Nat.le_refl _)
      have hq14 := HQ13.out.below hb14 (Nat.le_refl _)
      have hf14 := HF13.out.below hb14 (Nat.le_refl _)
      obtain ⟨A10', c10', e10, hat10⟩ := hq14.own.form
      rw [← HQ1.out] at e10 hat10
      obtain ⟨rfl, rfl⟩ : A10 = A10' ∧ c10 = c10' := by injection e10 with a b c; exact ⟨a, c⟩
      obtain ⟨A11', c11', e11, hat11⟩ := hf14.form
      rw [← HQ1.out] at e11 hat11
      obtain ⟨rfl, rfl⟩ : A11 = A11' ∧ c11 = c11' := by injection e11 with a b c; exact ⟨a, c⟩
      have S2 := Lib.hid (same_below Q A10 A11 c10 c11 tq w14.heap.size w14.heap.size w14 hat10 hat11)
      have HP14 := Lib.hid hp14
      have HQ14 := Lib.hid hq14
      have HB14 := Lib.hid hb1014
      have hs14 := hb1014.size
      clear hb14 hb1014 hp14 hq14 hf14 hat10 hat11 e10 e11 S1 HP13 HQ13 HF13 HB13
      go_wp2_with fail
      refine S2.out.mono ?_
      rintro e w15 ⟨rfl, hb15⟩
      have hb1015 := HB14.out.trans (hb15.mono hs14)
      have hs15 := hb1015.size
      have HP15 := Lib.hid (HP14.out.below hb15 (Nat.le_refl _))
      have HQ15 := Lib.hid (HQ14.out.below hb15 (Nat.le_refl _))
      have hx15 := (HY10.out.below hb1015).weak (Y := fun b => b ≠ x2) (fun b hb => hb.1) (fun b hb => hb)
      have hx2b := hx15.lt
      have hu15 := HU10.out.step hb1015.size (fun b hl hx => ⟨hx, hb1015.block b hl⟩)
      have HV15 := Lib.hid (HV10.out.step hb1015.size (fun b hl hx => ⟨hx, hb1015.block b hl⟩))
      have HB315 := Lib.hid (HB310.out.trans (hb1015.mono HB310.out.size))
      have A1 := Lib.hid (D5.out w15 R2 hx15 (hu15.step (Nat.le_refl _) fun b _ hx => ⟨hx.2, rfl⟩))
      clear hb15 hb1015 hx15 hu15 S2 HP14 HQ14 HB14 HY10 HU10 HV10 HB12 HB310 HB312 D5 HO10 HQ10
      go_wp2_with fail
      refine A1.out.mono ?_
      rintro e w16 ⟨v16, s16, rfl, ho16, ⟨R16, hx16⟩, hs160, hs161, hg16⟩
      obtain ⟨A16, c16, rfl, -⟩ := ho16.own.form
      have hs16 := hg16.size
      have HX16 := Lib.hid hx16
      have hp16 := HP15.out.past hg16 (show x2 < w7.heap.size by omega)
      have HP16 := Lib.hid hp16
      have HQ16 := Lib.hid (HQ15.out.past hg16 (show x2 < w9.heap.size by omega))
      have HV16 := Lib.hid (HV15.out.past hg16 (fun b hb => hb.2))
      have HB316 := Lib.hid (HB315.out.trans (below_of hg16 (show w3.heap.size ≤ x2 by omega) HB315.out.size))
      clear ho16 hx16 hp16 hg16 A1 HP15 HQ15 HV15 HB315
      go_wp2
      go_loopw [18, 98] (fun a j wx => ∃ (J : Nat) (Aa : Option Addr) (na ca : Nat), J ≤ P ∧ j = .int .i64 J ∧ a = .slice Aa na ca ∧ Hid (na = (aheadF [] (tp.take J)).length ∧ Us (fun b => w7.heap.size ≤ b) wx (.slice Aa na ca) (aheadF [] (tp.take J))) ∧ Hid (Below w16.heap.size w16 wx)) (fun _ j _ => P - (intOf j).toNat)
      case atStart => exact ⟨0, none, 0, 0, by omega, rfl, rfl, Lib.hid ⟨rfl, us_nil _ _⟩, Lib.hid (Below.refl _ _)⟩
      case round =>
        obtain ⟨J, Aa, na, ca, hJ, rfl, rfl, ha, hb⟩ := hrel
        by_cases hJn : J = P
        · have hJ' : ¬ J < P := by omega
          have haf := ha.out
          rw [List.take_of_length_le (by rw [← HP.out]; omega)] at haf
          obtain ⟨ah, hah⟩ : ∃ ah, aheadF [] tp = ah := ⟨_, rfl⟩
          rw [hah] at haf
          have hx17 := HX16.out.below hb.out
          rw [hah, show (0 : Int) + M = M from by omega] at hx17
          have HAF := Lib.hid haf
          have ha8 := hx17.small
          rw [← haf.1] at ha8
          have hsb := hb.out.size
          have A3 := Lib.hid (mallE_any wr w3.heap.size x2 rs T2 R16 M s16 ah hx17 (by omega) (by omega) (by omega) (by omega) O A6 c6 vs HOL.out (HV16.out.step hsb (fun b hl hx => ⟨hx.2, hb.out.block b hl⟩)) (by omega) tb HTB.out)
          have HP17 := Lib.hid (HP16.out.below hb.out (Nat.le_refl _))
          have HQ17 := Lib.hid (HQ16.out.below hb.out (Nat.le_refl _))
          have HB317 := Lib.hid (HB316.out.trans (hb.out.mono HB316.out.size))
          clear haf hah hx17 ha hb hJn HX16 HP16 HQ16 HV16 HB316
          go_wp2_with fail
          refine A3.out.mono ?_
          rintro e w18 ⟨v18, s18, rfl, ho18, -, -, -, hg18⟩
          obtain ⟨tr, htr⟩ : ∃ tr, encF rs ah tb = tr := ⟨_, rfl⟩
          rw [htr] at ho18
          obtain ⟨A18, c18, rfl, hat18⟩ := ho18.own.form
          have hrl : tr.length = Q := by rw [← htr, encF_len]; exact HQ.out.symm
          rw [hrl] at hat18 ⊢
          have hq18 := HQ17.out.past hg18 (show x2 < w9.heap.size by omega)
          obtain ⟨A10', c10', e10, hat10⟩ := hq18.own.form
          rw [← HQ1.out] at e10 hat10
          obtain ⟨rfl, rfl⟩ : A10 = A10' ∧ c10 = c10' := by injection e10 with a b c; exact ⟨a, c⟩
          have hua := HAF.out.2.step hg18.size (fun b hl hx => ⟨hx, hg18.block b hl (fun e => by injection e with e; have : w7.heap.size ≤ b := hx; omega)⟩)
          have hb318 := HB317.out.trans (below_of hg18 (show w3.heap.size ≤ x2 by omega) HB317.out.size)
          have HTR := Lib.hid htr
          have HAT18 := Lib.hid hat18
          have HAT10 := Lib.hid hat10
          have HUA := Lib.hid (And.intro HAF.out.1 hua)
          have HB318 := Lib.hid hb318
          have HBF := Lib.hid (show Below w.heap.size w w18 from HB3.out.trans (hb318.mono hsE))
          have HRL := Lib.hid hrl
          clear ho18 hg18 htr hat18 hrl hq18 e10 hat10 hua hb318 A3 HP17 HQ17 HB317 HAF
          by_cases hQ0 : Q = 0
          · have HQZ := Lib.hid (show tq.length = 0 by rw [← HQ1.out]; exact hQ0)
            subst hQ0
            go_wp2_with fail
            go_quiet (fail)
            go_wp2_with fail
            go_ret
            exact ⟨ret_bool (by simp), HBF.out.trans ((below_dN w18 _).mono HBF.out.size)⟩
          have hQp : 0 < Q := by omega
          have hQi : (0 : Int) < Q := by omega
          have e0 : ((Q : Int) == 0) = false := by rw [beq_eq_false_iff_ne]; omega
          have htb0 : 0 < tb.length := by rw [← HQ.out]; exact hQp
          have hf := enc_first (rs := rs) (a := ah) htb0
          obtain ⟨b10, o10, rfl, hb10, A7, n7, c7, q0, q1, q2, q3, q4, q5, q6, q7⟩ := HAT10.out.at (k := 0) (by rw [← HQ1.out]; exact hQp)
          obtain ⟨b18, o18, rfl, hb18, A9, n9, c9, r0, r1, r2, r3, -⟩ := HAT18.out.at (k := 0) (by rw [HRL.out]; exact hQp)
          have hq0 : tq[0]'(by rw [← HQ1.out]; exact hQp) = tb[0] := by
            have := hf.1; simp only [HTQ.out] at this; exact this
          have hr0 : tr[0]'(by rw [HRL.out]; exact hQp) = joinT rs ah tb[0] := by
            have := hf.2; simp only [HTR.out] at this; exact this
          rw [hq0] at q3 q4 q7
          rw [hr0] at r3
          obtain ⟨t, ht⟩ : ∃ t, tb[0] = t := ⟨_, rfl⟩
          have hto := HB8.out _ (List.getElem_mem htb0)
          have hte := HBT.out _ (List.getElem_mem htb0)
          rw [ht] at q3 q4 q7 r3 hto hte
          obtain ⟨tp', tz, tu, te⟩ := t
          simp only at q3 q4 q7 hto hte
          by_cases hd : te = 0
          · obtain ⟨v, hv⟩ : ∃ v, joinsR rs ah tu = v := ⟨_, rfl⟩
            obtain ⟨d, hdv⟩ : ∃ d, (joinT rs ah ⟨tp', tz, tu, te⟩).err = d := ⟨_, rfl⟩
            rw [hdv] at r3
            have hdn : (d != 0) = v := by
              rw [← hdv, ← hv, hd]
              unfold joinT
              by_cases hj : joinsR rs ah tu = true
              · rw [if_pos ⟨rfl, hj⟩, hj]; rfl
              · rw [if_neg (fun h => hj h.2)]; simp at hj; rw [hj]; rfl
            subst hd
            have hne : ((0 : Int) != 0) = false := rfl
            have hsw : w18.drew.heap.size = w18.heap.size := rfl
            obtain ⟨p1, c1', e1, g1, g2, g3⟩ := HUA.out.2
            have hna := HUA.out.1
            obtain ⟨rfl, rfl⟩ : Aa = p1 ∧ ca = c1' := by injection e1 with a b c; exact ⟨a, c⟩
            have hd1 : Below w18.heap.size w18 w18.drew := (Below.refl _ _).drew
            have J1 := Lib.hid (ljoins_any N A2 c2 rs w3.heap.size w18.drew (HAT3.out.below (HB318.out.drew) (Nat.le_refl _)) HB318.out.size na Aa ca ah w18.heap.size hna (Rd.below (g3.rd (Nat.le_refl _)) hd1 (Nat.le_refl _)) (Nat.le_refl _) (by omega) n7 A7 c7 tu w18.heap.size q4 (q7.below hd1 (Nat.le_refl _)) (Nat.le_refl _) (by omega) v hv)
            have Q3 := Lib.hid q3
            have Q2 := Lib.hid q2
            have R3 := Lib.hid r3
            clear hv hdv e1 g1 g2 g3 hna hd1 q0 q1 q4 q7 r0 r1 r2 hf hq0 hr0 ht hto hte htb0 hQ0
            go_upto_region 31 with fail
            refine wp_region_mixe (G := fun w w' => Below w.heap.size w w') [(0, false), (1, false), (2, false), (3, false), (4, false), (5, false), (6, false), (7, false), (8, false), (9, false), (10, false), (11, false), (12, false), (13, false), (14, false), (15, false), (16, false), (17, false), (18, false), (19, false), (20, false), (21, false), (22, false), (23, false), (24, false), (25, false), (26, false), (27, false), (28, true), (29, false), (30, false), (31, false), (32, false)]
              below_refl below_trans (by kernel_rfl) rfl (by kernel_rfl) (by kernel_rfl) ?_
            iterate 13 (refine mixe_one rfl rfl ?_; go_big_quiet_step ((intro _; rfl)); refine wpQuiet_nil ?_)
            refine mixe_one rfl rfl ?_
            go_big_quiet_step ((intro hh; have e0 := (hh.cell (p := ⟨b10, o10 + 0 * 4 + 3, none⟩) hb10).trans Q3.out; rw [e0]; exact ⟨rfl, rfl⟩))
            refine wpQuiet_nil ?_
            iterate 6 (refine mixe_one rfl rfl ?_; go_big_quiet_step ((intro _; rfl)); refine wpQuiet_nil ?_)
            refine mixe_one rfl rfl ?_
            go_big_quiet_step ((intro hh; have e0 := (hh.cell (p := ⟨b18, o18 + 0 * 4 + 3, none⟩) hb18).trans R3.out; rw [e0]; exact ⟨rfl, rfl⟩))
            refine wpQuiet_nil ?_
            iterate 6 (refine mixe_one rfl rfl ?_; go_big_quiet_step ((intro _; rfl)); refine wpQuiet_nil ?_)
            refine mixe_one rfl rfl ?_
            go_big_quiet_step ((intro hh; have e0 := (hh.cell (p := ⟨b10, o10 + 0 * 4 + 2, none⟩) hb10).trans Q2.out; rw [e0]; exact ⟨rfl, rfl⟩))
            refine wpQuiet_nil ?_
            refine mixe_call rfl ?_
            go_wp2_with fail
            refine J1.out.mono ?_
            rintro e w19 ⟨rfl, hb19⟩
            have HB19 := Lib.hid hb19
            clear J1
            go_wp2_with fail
            refine ⟨HB19.out, ?_⟩
            clear hb19
            iterate 4 (refine mixe_one rfl rfl ?_; go_big_quiet_step ((intro _; rfl)); refine wpQuiet_nil ?_)
            refine NoPanic.normal ?_
            go_wp2_with fail
            go_ret
            exact ⟨ret_bool (by simp [hdn]), (HBF.out.drew).trans (HB19.out.mono HBF.out.size)⟩
          · have hne : (te != 0) = true := by simpa using hd
            clear hd
            go_wp2_with fail
            go_quiet (fail)
            go_wp2_with fail
            go_ret
            exact ⟨ret_bool (by simp), HBF.out.trans ((below_dN w18 _).mono HBF.out.size)⟩
        have hJ' : J < P := by omega
        have hJ1 : J < tp.length := by rw [← HP.out]; exact hJ'
        have j3 : (0 : Int) ≤ J := by omega
        have j4 : (J : Int) < P := by omega
        obtain ⟨g, cg, hgv⟩ : ∃ g c', Value.slice A8 P c8 = .slice (some ⟨g, 0, none⟩) P c' := by
          obtain ⟨xs, hown, _⟩ := HP16.out
          rcases hown.2 with ⟨_, h2⟩ | ⟨g, cap, cur, h1, _⟩
          · omega
          · rw [← HP.out] at h1
            exact ⟨g, cap, h1⟩
        obtain ⟨rfl, rfl⟩ : A8 = some ⟨g, 0, none⟩ ∧ c8 = cg := by injection hgv with a b c; exact ⟨a, c⟩
        clear hgv
        obtain ⟨A3, n3, c3, q0, q1, q2, q3, hn3, hu3, hfr⟩ := (HP16.out.below hb.out (Nat.le_refl _)).cellsAt (k := J) hJ1
        have hnx := aheadF_next (a := []) hJ1
        obtain ⟨t, ht⟩ : ∃ t, tp[J] = t := ⟨_, rfl⟩
        rw [ht] at q0 q1 q3 hn3 hu3 hnx
        obtain ⟨tp', tz, tu, te⟩ := t
        simp only at q0 q1 q3 hn3 hu3 hnx
        have hba : ∀ o, Below w16.heap.size w16 (wr.alloc o) := fun o => hb.out.alloc hb.out.size o
        have HBA := Lib.hid hba
        have HN3 := Lib.hid hn3
        have HU3 := Lib.hid (show ∀ o, Us (fun b => w7.heap.size ≤ b) (wr.alloc o) (.slice A3 n3 c3) tu from fun o => hu3.step (by simp) fun b hl hx => ⟨hx.2, ((Below.refl wr.heap.size wr).alloc (Nat.le_refl _) o).block b hl⟩)
        have HA0 := Lib.hid (show ∀ o, Us (fun b => w7.heap.size ≤ b) (wr.alloc o) (.slice Aa na ca) (aheadF [] (tp.take J)) from fun o => ha.out.2.step (by simp) fun b hl hx => ⟨hx, ((Below.refl wr.heap.size wr).alloc (Nat.le_refl _) o).block b hl⟩)
        have HAN := Lib.hid ha.out.1
        by_cases hd : te = 0
        · rw [if_pos hd] at hnx
          have HNX := Lib.hid hnx
          subst hd
          clear hnx hn3 hu3 hfr ht hJn hba hb ha hJ1
          go_wp2
          go_roundw
          case rel => exact ⟨J + 1, A3, n3, c3, by omega, by go_num, rfl, Lib.hid (by rw [HNX.out]; exact ⟨HN3.out, HU3.out _⟩), Lib.hid (HBA.out _)⟩
          case measure => simp [intOf]; omega
        · rw [if_neg hd] at hnx
          have HNX := Lib.hid hnx
          have hne : (te == 0) = false := by simpa using hd
          clear hnx hn3 hu3 hfr ht hJn hba hb ha hJ1 hd
          go_wp2
          go_roundw
          case rel => exact ⟨J + 1, Aa, na, ca, by omega, by go_num, rfl, Lib.hid (by rw [HNX.out]; exact ⟨HAN.out, HA0.out _⟩), Lib.hid (HBA.out _)⟩
          case measure => simp [intOf]; omega
    have hJ' : J < Q := by omega
    have hJ1 : J < tw.length := by rw [HQ2.out]; exact hJ'
    have j3 : (0 : Int) ≤ J := by omega
    have j4 : (J : Int) < Q := by omega
    obtain ⟨g, cg, hgv⟩ := ho.out.some (by rw [mixK_len, HQ2.out]; omega)
    rw [mixK_len, HQ2.out] at hgv
    obtain ⟨rfl, rfl⟩ : A11 = some ⟨g, 0, none⟩ ∧ c11 = cg := by injection hgv with a b c; exact ⟨a, c⟩
    obtain ⟨x1', xf⟩ := ho.out.posAt (mixK_at (d := M) hJ1)
    obtain ⟨hz1, hz2⟩ := HTW8.out _ (List.getElem_mem hJ1)
    have hset := ho.out.setPos (mixK_at (d := M) hJ1) (tw[J].pos + M)
    rw [show (mixK M J tw).set J ⟨tw[J].pos + M, tw[J].size, tw[J].out, tw[J].err⟩ = mixK M (J + 1) tw from by rw [← mixK_step hJ1]; rfl] at hset
    obtain ⟨pp, hpp⟩ : ∃ pp, tw[J].pos = pp := ⟨_, rfl⟩
    rw [hpp] at x1' hz1 hz2 hset
    have hw64 : wrap64 (pp + M) = pp + M := by unfold wrap64; omega
    have HSET := Lib.hid hset.1
    have hbg := hset.2
    have HBR := Lib.hid (show Below w10.heap.size w10 (wr.setCell ⟨g, J * 4, none⟩ (.int .i64 (pp + M))) from hb.out.setCell (by show w10.heap.size ≤ g; omega) _)
    clear hgv hset hpp hJQ hJ1 hb ho
    go_wp2
    go_roundw
    case rel => exact ⟨J + 1, by omega, by go_num, HSET, HBR⟩
    case measure => simp [intOf]; omega
end Go.Proofs.Ytikbmagolgcbfaa
