/- MachineEncode: the walk. -/
import Derived.Test.YtikbmagolgcbfaaZ17
import Derived.Test.YtikbmagolgcbfaaZ13
import Derived.Test.YtikbmagolgcbfaaZ11
namespace Go.Proofs.Ytikbmagolgcbfaa
set_option linter.unusedVariables false
set_option linter.unusedSimpArgs false
set_option linter.unnecessarySimpa false
open Go.RowKit
set_option maxRecDepth 100000 in
set_option maxHeartbeats 12800000 in
theorem machineEncode_any (n : Nat) (A : Option Addr) (c : Nat) (rows : List RowL) (A' : Option Addr) (c' : Nat) (zs : List Int) (w : World) (hr : RwAt w w.heap.size A n c rows) (hz : Rd w w.heap.size A' (zs.map (Value.int .u8))) (hzr : ∀ z ∈ zs, 0 ≤ z ∧ z ≤ 255) (hzc : zs.length ≤ c') (hzm : c' ≤ maxLen) :
    Calls Try.prog 4 #[.slice A n c, .slice A' zs.length c'] w fun e w' => e = .returned (.bool true) ∧ Below w.heap.size w w' := by
  obtain ⟨rs, hrs⟩ : ∃ rs, tabR (rightR (rulesR rows)) = rs := ⟨_, rfl⟩
  obtain ⟨hck, hcl, hct, h40⟩ := tab_good rows
  rw [hrs] at hck hcl hct h40
  have HCL := Lib.hid hcl
  have HGT := Lib.hid (good_of hct)
  have HG := Lib.hid (good_of hck)
  obtain ⟨N, hN⟩ : ∃ N, N = rs.length := ⟨_, rfl⟩
  obtain ⟨Z, hZ⟩ : ∃ Z, Z = zs.length := ⟨_, rfl⟩
  obtain ⟨us, hus⟩ : ∃ us, fewM zs = us := ⟨_, rfl⟩
  obtain ⟨M, hM⟩ : ∃ M, us.length = M := ⟨_, rfl⟩
  have hM60 : M ≤ 60 := by rw [← hM, ← hus]; exact fewM_len zs
  rw [← hZ] at hzc ⊢
  rw [← hN] at h40
  have HZM := Lib.hid hzm
  have HR := Lib.hid hr
  have HRS := Lib.hid hrs
  have HCK := Lib.hid hck
  have HN := Lib.hid hN
  have HZ := Lib.hid hz
  have HZR := Lib.hid hzr
  have HZL := Lib.hid hZ
  have HUS := Lib.hid hus
  have HM := Lib.hid hM
  clear hr hrs hck hcl hct hN hz hzr hZ hus hM hzm
  go_enter Try.func4, Try.ntmps4
  go_wp2_with fail
  refine (awake16_any _).mono ?_
  rintro e w1 ⟨rfl, hb1⟩
  have hs1 := hb1.size
  go_wp2_with fail
  refine (ltab_any n A c rows w1.heap.size _ (HR.out.below hb1 hs1) (Nat.le_refl _) rs HRS.out).mono ?_
  rintro e w2 ⟨v2, rfl, ho2, hb2⟩
  have hs2 := hb2.size
  obtain ⟨A2, c2, rfl, hat2⟩ := ho2.form
  rw [← HN.out] at hat2 ⊢
  have HAT2 := Lib.hid hat2
  clear ho2 hat2
  go_wp2_with fail
  refine (tab_of_ok N A2 c2 rs w2.heap.size _ HAT2.out (Nat.le_refl _) (by omega) HCK.out HCL.out).mono ?_
  rintro e w3 ⟨T, rfl, ho, hb3⟩
  have hs3 := hb3.size
  have HO := Lib.hid ho
  have HAT3 := Lib.hid (HAT2.out.below hb3 hs3)
  have hbE3 : Below w.heap.size w w3 := hb1.trans ((hb2.trans (hb3.mono hs2)).mono hs1)
  have HB3 := Lib.hid hbE3
  have hsE := hbE3.size
  clear ho hb1 hb2 hb3 hbE3 HAT2
  go_wp2_with fail
  refine (mencode_any w3 w3.heap.size T rs HO.out (Nat.le_refl _)).mono ?_
  rintro e w4 ⟨p, T1, R1, rfl, hs1', hx, hb4⟩
  have hxE := hx (fun b => b ≠ p) (fun b hb => hb)
  have hpl := hxE.lt
  have hpT := hxE.tlt
  have HX := Lib.hid hxE
  have HB34 := Lib.hid hb4
  have HB4 := Lib.hid (HB3.out.trans (hb4.mono hsE))
  have hs4 := hb4.size
  clear hx hxE hb4
  go_wp2_with fail
  refine (few_any Z A' c' zs w.heap.size w4 HZL.out (HZ.out.below HB4.out (Nat.le_refl _)) HZR.out HB4.out.size hzc HZM.out us M HUS.out HM.out).mono ?_
  rintro e w5 ⟨A5, c5, rfl, hu5, hb5⟩
  have hs5 := hb5.size
  obtain ⟨tt, htt⟩ : ∃ tt, rewA (turnR rs) 0 us = tt := ⟨_, rfl⟩
  obtain ⟨ts, hts⟩ : ∃ ts, encF rs [] tt = ts := ⟨_, rfl⟩
  have hea : encA rs us = ts := by rw [← hts, ← htt]; rfl
  have D1 := Lib.hid (mallE_any w5 w3.heap.size p rs T1 R1 0 0 [] (HX.out.below hb5) (by omega) (by omega) (by omega) (by omega) M A5 c5 us HM.out (hu5.step (Nat.le_refl _) fun b _ hx => ⟨(by have : w4.heap.size ≤ b := hx; omega), rfl⟩) (by omega) tt htt)
  rw [hts] at D1
  have HTS := Lib.hid hea
  have HB5 := Lib.hid (HB34.out.trans (hb5.mono hs4))
  clear hu5 hb5 htt hts hea HX HB34 HB4
  go_wp2_with fail
  refine D1.out.mono ?_
  rintro e w6 ⟨v6, s6, rfl, ho6, ⟨R6, hm6⟩, -, -, hg6⟩
  obtain ⟨A6, c6, rfl, hat6⟩ := ho6.own.form
  obtain ⟨L, hL⟩ : ∃ L, L = ts.length := ⟨_, rfl⟩
  rw [← hL] at hat6 ⊢
  have hb36 := HB5.out.trans (below_of hg6 (show w3.heap.size ≤ p by omega) (by omega))
  have HL := Lib.hid hL
  have HAT6 := Lib.hid hat6
  have HM6 := Lib.hid hm6
  have HB6 := Lib.hid hb36
  have hs6 := hb36.size
  clear ho6 hat6 hm6 hg6 hL hb36 D1 HB5
  go_wp2_with fail
  refine (few_any Z A' c' zs w.heap.size w6 HZL.out (HZ.out.below (HB3.out.trans (HB6.out.mono hsE)) (Nat.le_refl _)) HZR.out (Nat.le_trans hsE hs6) hzc HZM.out us M HUS.out HM.out).mono ?_
  rintro e w7 ⟨A7, c7, rfl, hu7, hb7⟩
  have hs7 := hb7.size
  obtain ⟨-, q4, q5, q6⟩ := hu7.rd
  have hb37 := HB6.out.trans (hb7.mono hs6)
  have D2 := Lib.hid (lencode_any N A2 c2 rs w3.heap.size w7 (HAT3.out.below hb37 (Nat.le_refl _)) hb37.size (by omega) HG.out HGT.out M A7 c7 us w7.heap.size HM.out.symm (q6.rd (Nat.le_refl w7.heap.size)) (Nat.le_refl _) q4 q5 (by omega) ts HTS.out)
  have HB7 := Lib.hid hb37
  have HB67 := Lib.hid hb7
  clear hu7 q6 hb37 hb7 q4 q5
  go_wp2_with fail
  refine D2.out.mono ?_
  rintro e w8 ⟨v8, rfl, ho8, hb8⟩
  obtain ⟨A8, c8, rfl, hat8⟩ := ho8.form
  rw [← HL.out] at hat8 ⊢
  have HAT8 := Lib.hid hat8
  have HB8 := Lib.hid (HB7.out.trans (hb8.mono HB7.out.size))
  have HB68 := Lib.hid (HB67.out.trans (hb8.mono hs7))
  clear hat8 ho8 hb8 D2 HB67 HB7
  go_wp2_with fail
  refine (same_below L A6 A8 c6 c8 ts w6.heap.size w8.heap.size w8 (HAT6.out.below HB68.out (Nat.le_refl _)) HAT8.out).mono ?_
  rintro e w9 ⟨rfl, hb9⟩
  have hm9 := HM6.out.below (HB68.out.trans (hb9.mono HB68.out.size))
  have HM9 := Lib.hid hm9
  have HB9 := Lib.hid (HB3.out.trans ((HB8.out.trans (hb9.mono HB8.out.size)).mono hsE))
  clear hb9 hm9 HAT6 HAT8 HB68 HB8 HM6
  go_wp2_with fail
  refine (eheld_any _ w9 _ p rs T1 R6 _ _ _ _ HM9.out 0 rfl).mono ?_
  rintro e w9' ⟨rfl, hw9⟩
  subst hw9
  go_wp2
  go_ret
  exact ⟨ret_bool (by simp), HB9.out⟩
end Go.Proofs.Ytikbmagolgcbfaa
