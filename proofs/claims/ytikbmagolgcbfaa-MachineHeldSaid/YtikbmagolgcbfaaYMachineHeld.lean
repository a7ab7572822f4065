/- MachineHeld: the walk. -/
import Derived.Test.YtikbmagolgcbfaaZ17
import Derived.Test.YtikbmagolgcbfaaZ13
import Derived.Test.YtikbmagolgcbfaaZ11
namespace Go.Proofs.Ytikbmagolgcbfaa
set_option linter.unusedVariables false
set_option linter.unusedSimpArgs false
set_option linter.unnecessarySimpa false
open Go.RowKit
set_option maxRecDepth 100000 in
set_option maxHeartbeats 12800000 in
theorem machineHeld_any (n : Nat) (A : Option Addr) (c : Nat) (rows : List RowL) (A' : Option Addr) (c' : Nat) (zs : List Int) (w : World) (hr : RwAt w w.heap.size A n c rows) (hz : Rd w w.heap.size A' (zs.map (Value.int .u8))) (hzr : ∀ z ∈ zs, 0 ≤ z ∧ z ≤ 255) (hzc : zs.length ≤ c') (hzm : c' ≤ maxLen) :
    Calls Try.prog 6 #[.slice A n c, .slice A' zs.length c'] w fun e w' => e = .returned (.bool true) ∧ Below w.heap.size w w' := by
  obtain ⟨rs, hrs⟩ : ∃ rs, tabR (rightR (rulesR rows)) = rs := ⟨_, rfl⟩
  obtain ⟨hck, hcl, hct, h40⟩ := tab_good rows
  rw [hrs] at hck hcl hct h40
  have HCL := Lib.hid hcl
  have HGT := Lib.hid (good_of hct)
  have HG := Lib.hid (good_of hck)
  obtain ⟨N, hN⟩ : ∃ N, N = rs.length := ⟨_, rfl⟩
  obtain ⟨Z, hZ⟩ : ∃ Z, Z = zs.length := ⟨_, rfl⟩
  obtain ⟨us, hus⟩ : ∃ us, fewM zs = us := ⟨_, rfl⟩
  obtain ⟨M, hM⟩ : ∃ M, us.length = M := ⟨_, rfl⟩
  have hM60 : M ≤ 60 := by rw [← hM, ← hus]; exact fewM_len zs
  rw [← hZ] at hzc ⊢
  rw [← hN] at h40
  have HZM := Lib.hid hzm
  have HR := Lib.hid hr
  have HRS := Lib.hid hrs
  have HCK := Lib.hid hck
  have HN := Lib.hid hN
  have HZ := Lib.hid hz
  have HZR := Lib.hid hzr
  have HZL := Lib.hid hZ
  have HUS := Lib.hid hus
  have HM := Lib.hid hM
  clear hr hrs hck hcl hct hN hz hzr hZ hus hM hzm
  go_enter Try.func6, Try.ntmps6
  go_wp2_with fail
  refine (awake16_any _).mono ?_
  rintro e w1 ⟨rfl, hb1⟩
  have hs1 := hb1.size
  go_wp2_with fail
  refine (ltab_any n A c rows w1.heap.size _ (HR.out.below hb1 hs1) (Nat.le_refl _) rs HRS.out).mono ?_
  rintro e w2 ⟨v2, rfl, ho2, hb2⟩
  have hs2 := hb2.size
  obtain ⟨A2, c2, rfl, hat2⟩ := ho2.form
  rw [← HN.out] at hat2 ⊢
  have HAT2 := Lib.hid hat2
  clear ho2 hat2
  go_wp2_with fail
  refine (tab_of_ok N A2 c2 rs w2.heap.size _ HAT2.out (Nat.le_refl _) (by omega) HCK.out HCL.out).mono ?_
  rintro e w3 ⟨T, rfl, ho, hb3⟩
  have hs3 := hb3.size
  have HO := Lib.hid ho
  have HAT3 := Lib.hid (HAT2.out.below hb3 hs3)
  have hbE3 : Below w.heap.size w w3 := hb1.trans ((hb2.trans (hb3.mono hs2)).mono hs1)
  have HB3 := Lib.hid hbE3
  have hsE := hbE3.size
  clear ho hb1 hb2 hb3 hbE3 HAT2
  go_wp2_with fail
  refine (mdecode_any w3 w3.heap.size T rs HO.out (Nat.le_refl _)).mono ?_
  rintro e w4 ⟨p, T1, B1, rfl, ht1, hB1, hs1', hm, hb4⟩
  have hpl := hm.lt
  have HT1 := Lib.hid ht1
  have HMA := Lib.hid hm
  have HB34 := Lib.hid hb4
  have HB4 := Lib.hid (HB3.out.trans (hb4.mono hsE))
  have hs4 := hb4.size
  clear ht1 hm hb4
  go_wp2_with fail
  refine (mencode_any w4 w3.heap.size T rs (HO.out.below HB34.out (Nat.le_refl _)) hs4).mono ?_
  rintro e w5 ⟨x, T2, R2, rfl, hs5', hx, hb5⟩
  have hxE := hx (fun b => b ≠ x ∧ b ≠ p) (fun b hb => hb.1)
  have hxl := hxE.lt
  have hxT := hxE.tlt
  have hs5 := hb5.size
  have hxp : p ≠ x := by omega
  have hpT : p ≠ T2 := by omega
  have HX5 := Lib.hid hxE
  have HM5 := Lib.hid (HMA.out.below hb5 hpl)
  have HT5 := Lib.hid (HT1.out.below (hb5.mono (show B1 ≤ w4.heap.size by omega)) (Nat.le_refl _))
  have HB35 := Lib.hid (HB34.out.trans (hb5.mono hs4))
  have HB5 := Lib.hid (HB4.out.trans (hb5.mono HB4.out.size))
  have hsw := HB5.out.size
  clear hx hxE hb5 HMA HT1 HB34 HB4
  obtain ⟨lv, hlv⟩ : ∃ lv, longR rs = lv := ⟨_, rfl⟩
  obtain ⟨lw, hlw⟩ : ∃ lw, longR (turnR rs) = lw := ⟨_, rfl⟩
  have L1 := Lib.hid (tab_longest w5 w3.heap.size T rs (HO.out.below HB35.out (Nat.le_refl _)) HB35.out.size)
  rw [hlv, hlw] at L1
  obtain ⟨lm, hlm⟩ : ∃ lm, (if 1 < lv then lv else 1) = lm := ⟨_, rfl⟩
  obtain ⟨ln, hln⟩ : ∃ ln, (if 1 < lw then lw else 1) = ln := ⟨_, rfl⟩
  have hlm2 : max 1 lv = lm := by rw [← hlm]; split <;> omega
  have hln2 : max 1 lw = ln := by rw [← hln]; split <;> omega
  have HLV := Lib.hid hlv
  have HLW := Lib.hid hlw
  have HLM := Lib.hid hlm
  have HLN := Lib.hid hln
  have HLM2 := Lib.hid hlm2
  have HLN2 := Lib.hid hln2
  clear hlv hlw hlm hln hlm2 hln2
  go_wp2_with fail
  refine L1.out.mono ?_
  rintro e w6 ⟨rfl, hb6⟩
  have hs6 := hb6.size
  have HX6 := Lib.hid (HX5.out.below hb6)
  have HM6 := Lib.hid (HM5.out.below hb6 (by omega))
  have HT6 := Lib.hid (HT5.out.below (hb6.mono (show B1 ≤ w5.heap.size by omega)) (Nat.le_refl _))
  have HB6 := Lib.hid (HB5.out.trans (hb6.mono hsw))
  clear hb6 L1 HX5 HM5 HT5 HB5 HB35
  go_wp2_with fail
  refine (few_any Z A' c' zs w.heap.size w6 HZL.out (HZ.out.below HB6.out (Nat.le_refl _)) HZR.out HB6.out.size hzc HZM.out us M HUS.out HM.out).mono ?_
  rintro e w7 ⟨A5, c5, rfl, hu5, hb7⟩
  have hs7 := hb7.size
  have hu5' : Us (fun b => b ≠ p ∧ b ≠ x) w7 (.slice A5 M c5) us := hu5.step (Nat.le_refl _) fun b _ hx => ⟨(by have : w6.heap.size ≤ b := hx; omega), rfl⟩
  have HU7 := Lib.hid hu5'
  have HX7 := Lib.hid (HX6.out.below hb7)
  have HM7 := Lib.hid (HM6.out.below hb7 (by omega))
  have HT7 := Lib.hid (HT6.out.below (hb7.mono (show B1 ≤ w6.heap.size by omega)) (Nat.le_refl _))
  have HB7 := Lib.hid (HB6.out.trans (hb7.mono HB6.out.size))
  have hsw7 := HB7.out.size
  clear hu5 hu5' hb7 HX6 HM6 HT6 HB6 HAT3 HO
  go_wp2
  go_loopw [45] (fun i wr => ∃ (K : Nat) (q q2 : List Int) (st st2 : Int) (ah : List Int) (R' : List Value), K ≤ M ∧ i = .int .i64 K ∧ Hid (MS rs us K q st) ∧ Hid (MS (turnR rs) us K q2 st2) ∧ Hid (MAt wr p T1 q ((K : Int) - q.length) st) ∧ Hid (EAt (fun b => b ≠ x ∧ b ≠ p) wr w3.heap.size x rs T2 R' q2 ((K : Int) - q2.length) st2 ah) ∧ Hid (TrieOK wr B1 T1 rs) ∧ Hid (Us (fun b => b ≠ p ∧ b ≠ x) wr (.slice A5 M c5) us) ∧ Hid (Below w.heap.size w wr)) (fun i _ => M - (intOf i).toNat)
  case atStart => exact ⟨0, [], [], 0, 0, [], R2, by omega, rfl, Lib.hid (MS.start _ _), Lib.hid (MS.start _ _), HM7, HX7, HT7, HU7, HB7⟩
  case round =>
    obtain ⟨K, q, q2, st, st2, ah, R1, hK, rfl, HS, HS2, HMR, HXR, HTR, HUR, HBR⟩ := hrel
    have hpr := HMR.out.lt
    have hxr := HXR.out.lt
    by_cases hKn : K = M
    · have hK' : ¬ K < M := by omega
      clear hKn
      go_wp2
      go_ret
      exact ⟨rfl, HBR.out⟩
    have hK' : K < M := by omega
    have hK1 : K < us.length := by rw [HM.out]; exact hK'
    have k3 : (0 : Int) ≤ K := by omega
    have k4 : (K : Int) < M := by omega
    obtain ⟨Au, cu, eu, gu1, gu2, gu3⟩ := HUR.out
    obtain ⟨rfl, rfl⟩ : A5 = Au ∧ c5 = cu := by injection eu with a b c; exact ⟨a, c⟩
    obtain ⟨b3, o3, rfl, -, hc3⟩ := rd_ints (gu3.rd (Nat.le_refl _)) (by omega)
    have r3 := hc3 K hK1
    obtain ⟨u, hu⟩ : ∃ u, us.getD K 0 = u := ⟨_, rfl⟩
    rw [hu] at r3
    obtain ⟨t1, rest, k, hd⟩ : ∃ t2 rest k, drain rs ((K : Int) - q.length) (q ++ [u]) = (t2, rest, k) := ⟨_, _, _, rfl⟩
    obtain ⟨t2, rest2, k2, hd2⟩ : ∃ t2 rest k, drain (turnR rs) ((K : Int) - q2.length) (q2 ++ [u]) = (t2, rest, k) := ⟨_, _, _, rfl⟩
    have hdu := hd
    rw [← hu] at hdu
    have hdv := hd2
    rw [← hu] at hdv
    have hq7 := opens_lt HG.out HS.out.open_
    have hql := HS.out.len
    obtain ⟨hst0, hst1⟩ := HS.out.steps
    have hq72 := opens_lt HGT.out HS2.out.open_
    have hql2 := HS2.out.len
    obtain ⟨hst20, hst21⟩ := HS2.out.steps
    obtain ⟨hms, -, hr7⟩ := HS.out.step HG.out hK1 hdu
    obtain ⟨hms2, -, hr72⟩ := HS2.out.step HGT.out hK1 hdv
    have hl1 := held_lt HG.out hms.open_ HLV.out HLM.out
    have hl2 := held_lt HGT.out hms2.open_ HLW.out HLN.out
    have HMS1 := Lib.hid hms
    have HMS2 := Lib.hid hms2
    have HD2 := Lib.hid hd2
    have P1 := Lib.hid (mput_any wr p T1 q _ st u HMR.out hq7 B1 rs HTR.out hB1 (by omega) (by omega) (by omega) (by omega) t1 rest k hd)
    obtain ⟨L1, hL1⟩ : ∃ L, rest.length = L := ⟨_, rfl⟩
    obtain ⟨L2, hL2⟩ : ∃ L, rest2.length = L := ⟨_, rfl⟩
    rw [hL1] at hl1
    rw [hL2] at hl2
    have HL1 := Lib.hid hL1
    have HL2 := Lib.hid hL2
    have d1 : decide ((L1 : Int) ≥ lm) = false := by simp; omega
    have d2 : decide ((L2 : Int) ≥ ln) = false := by simp; omega
    clear hKn hd hdu hd2 hdv hms hms2 eu gu1 gu2 gu3 hc3 hu HS HS2 HMR hL1 hL2
    go_wp2_with fail
    refine P1.out.mono ?_
    rintro e w8 ⟨v8, rfl, -, hm8, hg8⟩
    rw [show (K : Int) - q.length + q.length + 1 - rest.length = ((K + 1 : Nat) : Int) - rest.length from by omega] at hm8
    have hs8 := hg8.size
    have hx8 := HXR.out.other hg8 (by omega) hxp hpT (fun b hb => hb.2)
    have P2 := Lib.hid (eput_any _ w8 w3.heap.size x rs T2 R1 q2 _ st2 u ah hx8 hq72 (fun b hb => ⟨by omega, by omega⟩) (by omega) (by omega) (by omega) (by omega) t2 rest2 k2 HD2.out)
    have HM8 := Lib.hid hm8
    have hmp8 := hm8.lt
    have HU8 := Lib.hid (HUR.out.past hg8 (fun b hb => hb.1))
    have HT8 := Lib.hid (HTR.out.below (below_of hg8 hB1 (by omega)) (Nat.le_refl _))
    have HB8 := Lib.hid (show Below w.heap.size w w8 from HBR.out.trans (below_of hg8 (by omega) (by omega)))
    clear hm8 hg8 hx8 P1 HXR HTR HUR HBR r3
    go_wp2_with fail
    refine P2.out.mono ?_
    rintro e w9 ⟨v9, rfl, -, ⟨R9, hx9⟩, hg9⟩
    rw [show (K : Int) - q2.length + q2.length + 1 - rest2.length = ((K + 1 : Nat) : Int) - rest2.length from by omega] at hx9
    have hs9 := hg9.size
    have HX9 := Lib.hid hx9
    have HM9 := Lib.hid (HM8.out.of_block (hg9.block p hmp8 (fun e => by injection e with e; exact hxp e)))
    have HU9 := Lib.hid (HU8.out.past hg9 (fun b hb => hb.2))
    have HT9 := Lib.hid (HT8.out.below (below_of hg9 (by omega) (by omega)) (Nat.le_refl _))
    have HB9 := Lib.hid (show Below w.heap.size w w9 from HB8.out.trans (below_of hg9 (by omega) (by omega)))
    clear hx9 hg9 P2 HM8 HU8 HT8 HB8
    have hlm2 := HLM2.out
    have hln2 := HLN2.out
    have hlm3 := HLM.out
    have hln3 := HLN.out
    go_wp2_with fail
    refine (mheld_any w9 p T1 _ _ _ HM9.out L1 HL1.out).mono ?_
    rintro e w9' ⟨rfl, hw9⟩
    subst hw9
    go_wp2_with fail
    refine (eheld_any _ w9 _ x rs T2 R9 _ _ _ _ HX9.out L2 HL2.out).mono ?_
    rintro e w9' ⟨rfl, hw9⟩
    subst hw9
    go_wp2
    go_roundw
    case rel => exact ⟨K + 1, rest, rest2, st + k, st2 + k2, _, R9, by omega, by go_num, HMS1, HMS2, HM9, HX9, HT9, HU9, HB9⟩
    case measure => simp [intOf]; omega
end Go.Proofs.Ytikbmagolgcbfaa
