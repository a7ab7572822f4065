/- TableEncode: the walk. -/
import Derived.Test.YtpbmaacchjedpaaZ13
import Derived.Test.YtpbmaacchjedpaaZ11
namespace Go.Proofs.Ytpbmaacchjedpaa
set_option linter.unusedVariables false
set_option linter.unusedSimpArgs false
set_option linter.unnecessarySimpa false
open Go.RowKit
set_option maxRecDepth 100000 in
set_option maxHeartbeats 6400000 in
theorem tableEncode_any (I : TabApi) (n : Nat) (A : Option Addr) (c : Nat) (rows : List RowL) (A' : Option Addr) (c' : Nat) (zs : List Int) (A7 : Option Addr) (c7 : Nat) (ws : List Int) (w : World) (hr : RwAt w w.heap.size A n c rows) (hz : Rd w w.heap.size A' (zs.map (Value.int .u8))) (hzr : ∀ z ∈ zs, 0 ≤ z ∧ z ≤ 255) (hzc : zs.length ≤ c') (hzm : c' ≤ maxLen)
    (hw : Rd w w.heap.size A7 (ws.map (Value.int .i64))) (hwc : ws.length ≤ c7) (hwm : c7 ≤ maxLen) :
    Calls Try.prog 5 #[.slice A n c, .slice A' zs.length c', .slice A7 ws.length c7] w fun e w' => e = .returned (.bool true) ∧ Below w.heap.size w w' := by
  obtain ⟨rs, hrs⟩ : ∃ rs, tabR (rightR (rulesR rows)) = rs := ⟨_, rfl⟩
  obtain ⟨hck, hcl, hct, h40⟩ := tab_good rows
  rw [hrs] at hck hcl hct h40
  have HCL := Lib.hid hcl
  have HGT := Lib.hid (good_of hct)
  clear hcl hct
  obtain ⟨N, hN⟩ : ∃ N, N = rs.length := ⟨_, rfl⟩
  obtain ⟨Z, hZ⟩ : ∃ Z, Z = zs.length := ⟨_, rfl⟩
  obtain ⟨W7, hW7⟩ : ∃ W7, W7 = ws.length := ⟨_, rfl⟩
  obtain ⟨us, hus⟩ : ∃ us, somM zs = us := ⟨_, rfl⟩
  obtain ⟨M, hM⟩ : ∃ M, us.length = M := ⟨_, rfl⟩
  have hM60 : M ≤ 60 := by rw [← hM, ← hus]; exact somM_len zs
  obtain ⟨ts, hts⟩ : ∃ ts, encA rs us = ts := ⟨_, rfl⟩
  obtain ⟨Q, hQ, hQn, hQ6⟩ : ∃ Q : Nat, ((if 40 < W7 then 40 else W7) = Q) ∧ Q ≤ W7 ∧ Q ≤ 40 := ⟨_, rfl, by split <;> omega, by split <;> omega⟩
  have hmin : min (W7 : Int) 40 = (Q : Int) := by rw [← hQ]; split <;> omega
  obtain ⟨vs, hvs⟩ : ∃ vs, vs = ws.take Q := ⟨_, rfl⟩
  have hvl : Q = vs.length := by rw [hvs]; simp; omega
  obtain ⟨tv, htv⟩ : ∃ tv, encA rs vs = tv := ⟨_, rfl⟩
  rw [← hZ] at hzc ⊢
  rw [← hW7] at hwc ⊢
  rw [← hN] at h40
  unfold maxLen at hzm hwm
  have HR := Lib.hid hr
  have HRS := Lib.hid hrs
  have HCK := Lib.hid hck
  have HG := Lib.hid (good_of hck)
  have HN := Lib.hid hN
  have HZ := Lib.hid hz
  have HZR := Lib.hid hzr
  have HZL := Lib.hid hZ
  have HUS := Lib.hid hus
  have HM := Lib.hid hM
  have HTS := Lib.hid hts
  have HTV := Lib.hid htv
  have HVL := Lib.hid hvl
  have HW := Lib.hid (show Rd w w.heap.size A7 (vs.map (Value.int .i64)) by rw [hvs]; exact rd_tk Q hw)
  have hmin2 : (if (40 : Int) < (W7 : Int) then (40 : Int) else (W7 : Int)) = (Q : Int) := by rw [← hmin]; split <;> omega
  have hQ0 : (0 : Int) ≤ (Q : Int) := by omega
  have hQc : Q ≤ c7 := by omega
  clear hr hrs hck hN hz hzr hZ hus hM hts htv hvl hvs hw hW7 hQ
  go_enter Try.func5, Try.ntmps5
  go_wp2_with fail
  refine (awake15_any I _).mono ?_
  rintro e w1 ⟨rfl, hb1⟩
  have hs1 := hb1.size
  go_wp2_with fail
  refine (ltab_any n A c rows w1.heap.size _ (HR.out.below hb1 hs1) (Nat.le_refl _) rs HRS.out).mono ?_
  rintro e w2 ⟨v2, rfl, ho2, hb2⟩
  have hs2 := hb2.size
  obtain ⟨A2, c2, rfl, hat2⟩ := ho2.form
  rw [← HN.out] at hat2 ⊢
  have HAT2 := Lib.hid hat2
  clear ho2 hat2
  go_wp2_with fail
  refine (I.of_ok N A2 c2 rs w2.heap.size _ HAT2.out (Nat.le_refl _) (by omega) HCK.out HCL.out).mono ?_
  rintro e w3 ⟨T, rfl, ho, hb3⟩
  have hs3 := hb3.size
  have HO := Lib.hid ho
  have HAT3 := Lib.hid (HAT2.out.below hb3 hs3)
  have hbE3 : Below w.heap.size w w3 := hb1.trans ((hb2.trans (hb3.mono hs2)).mono hs1)
  have hsE := hbE3.size
  clear ho hb1 hb2 hb3
  go_wp2_with fail
  refine (some_any Z A' c' zs w.heap.size w3 HZL.out (HZ.out.below hbE3 (Nat.le_refl _)) HZR.out hsE (by omega) hzc us M HUS.out HM.out).mono ?_
  rintro e w4 ⟨A5, c5, rfl, hu4, hb4⟩
  have hs4 := hb4.size
  obtain ⟨q1, q2, q3, q4⟩ := hu4.rd
  have HU4 := Lib.hid (q4.rd (Nat.le_refl w4.heap.size))
  clear hu4 q1 q4
  go_wp2_with fail
  refine (I.encode w4 w3.heap.size T rs (I.below HO.out hb4 (Nat.le_refl _)) hs4 M A5 c5 us w4.heap.size HM.out.symm HU4.out (Nat.le_refl _) q2 q3 (by omega) ts HTS.out).mono ?_
  rintro e w5 ⟨v5, rfl, ho5, hb5⟩
  obtain ⟨A6, c6, rfl, hat⟩ := ho5.form
  obtain ⟨L, hL⟩ : ∃ L, L = ts.length := ⟨_, rfl⟩
  rw [← hL] at hat ⊢
  have HAT := Lib.hid hat
  have hb35 := hb4.trans (hb5.mono hs4)
  have hb05 := hbE3.trans (hb35.mono hsE)
  have hs35 := hb35.size
  have HL := Lib.hid hL
  clear hat ho5 hb4 hb5 hL
  go_wp2_with fail
  refine (some_any Z A' c' zs w.heap.size w5 HZL.out (HZ.out.below hb05 (Nat.le_refl _)) HZR.out (by omega) (by omega) hzc us M HUS.out HM.out).mono ?_
  rintro e w6 ⟨A8, c8, rfl, hu6, hb6⟩
  have hs6 := hb6.size
  obtain ⟨q1, q4, q5, q6⟩ := hu6.rd
  have HU6 := Lib.hid (q6.rd (Nat.le_refl w6.heap.size))
  have hb36 := hb35.trans (hb6.mono hs35)
  clear hu6 q1 q6
  go_wp2_with fail
  refine (lencode_any N A2 c2 rs w3.heap.size w6 (HAT3.out.below hb36 (Nat.le_refl _)) hb36.size (by omega) HG.out HGT.out M A8 c8 us w6.heap.size HM.out.symm HU6.out (Nat.le_refl _) q4 q5 (by omega) ts HTS.out).mono ?_
  rintro e w7 ⟨v7, rfl, ho7, hb7⟩
  obtain ⟨A9, c9, rfl, hat7⟩ := ho7.form
  rw [← HL.out] at hat7 ⊢
  have HAT7 := Lib.hid hat7
  have hb37 := hb36.trans (hb7.mono hb36.size)
  have hb57 := hb6.trans (hb7.mono hs6)
  clear hat7 ho7 hb6 hb7
  go_wp2_with fail
  refine (same_below L A6 A9 c6 c9 ts w5.heap.size w7.heap.size w7 (HAT.out.below hb57 (Nat.le_refl _)) HAT7.out).mono ?_
  rintro e w8 ⟨rfl, hb8⟩
  have hb38 := hb37.trans (hb8.mono hb37.size)
  have hb08 := hbE3.trans (hb38.mono hsE)
  clear hb8
  go_wp2_with fail
  refine (I.encode w8 w3.heap.size T rs (I.below HO.out hb38 (Nat.le_refl _)) hb38.size Q A7 c7 vs w.heap.size HVL.out (HW.out.below hb08 (Nat.le_refl _)) hb08.size hQc (by unfold maxLen; omega) (by omega) tv HTV.out).mono ?_
  rintro e w9 ⟨v9, rfl, ho9, hb9⟩
  obtain ⟨A10, c10, rfl, hat9⟩ := ho9.form
  obtain ⟨L2, hL2⟩ : ∃ L2, L2 = tv.length := ⟨_, rfl⟩
  rw [← hL2] at hat9 ⊢
  have HAT9 := Lib.hid hat9
  have HL2 := Lib.hid hL2
  have hb39 := hb38.trans (hb9.mono hb38.size)
  have hb09 := hbE3.trans (hb39.mono hsE)
  clear hat9 ho9 hb9 hL2
  go_wp2_with fail
  refine (lencode_any N A2 c2 rs w3.heap.size w9 (HAT3.out.below hb39 (Nat.le_refl _)) hb39.size (by omega) HG.out HGT.out Q A7 c7 vs w.heap.size HVL.out (HW.out.below hb09 (Nat.le_refl _)) hb09.size hQc (by unfold maxLen; omega) (by omega) tv HTV.out).mono ?_
  rintro e w10 ⟨v10, rfl, ho10, hb10⟩
  obtain ⟨A11, c11, rfl, hat10⟩ := ho10.form
  rw [← HL2.out] at hat10 ⊢
  have HAT10 := Lib.hid hat10
  have hb310 := hb39.trans (hb10.mono hb39.size)
  clear hat10 ho10
  go_wp2_with fail
  refine (same_below L2 A10 A11 c10 c11 tv w9.heap.size w10.heap.size w10 (HAT9.out.below hb10 (Nat.le_refl _)) HAT10.out).mono ?_
  rintro e w11 ⟨rfl, hb11⟩
  have hbF := hbE3.trans ((hb310.trans (hb11.mono hb310.size)).mono hsE)
  clear hb11
  go_wp2
  go_ret
  exact ⟨rfl, hbF⟩
end Go.Proofs.Ytpbmaacchjedpaa
