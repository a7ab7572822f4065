/- TableJoins: the walk. -/
import Derived.Test.YtpbmaacchjedpaaZ13
import Derived.Test.YtpbmaacchjedpaaZ11
namespace Go.Proofs.Ytpbmaacchjedpaa
set_option linter.unusedVariables false
set_option linter.unusedSimpArgs false
set_option linter.unnecessarySimpa false
open Go.RowKit
theorem cut_four (M : Nat) : ∃ Q : Nat, min (M : Int) 4 = (Q : Int) ∧ (if (4 : Int) < (M : Int) then (4 : Int) else (M : Int)) = (Q : Int) ∧ Q ≤ M ∧ Q ≤ 4 := by
  by_cases h : M < 4
  · exact ⟨M, by omega, by rw [if_neg (by omega)], by omega, by omega⟩
  · exact ⟨4, by omega, by split <;> omega, by omega, by omega⟩
set_option maxRecDepth 100000 in
set_option maxHeartbeats 6400000 in
theorem tableJoins_any (I : TabApi) (n : Nat) (A : Option Addr) (c : Nat) (rows : List RowL) (A' : Option Addr) (c' : Nat) (zs : List Int) (B' : Option Addr) (d' : Nat) (ys : List Int) (k : Int) (w : World) (hr : RwAt w w.heap.size A n c rows)
    (hz : Rd w w.heap.size A' (zs.map (Value.int .u8))) (hzr : ∀ z ∈ zs, 0 ≤ z ∧ z ≤ 255) (hzc : zs.length ≤ c') (hzm : c' ≤ maxLen)
    (hy : Rd w w.heap.size B' (ys.map (Value.int .u8))) (hyr : ∀ z ∈ ys, 0 ≤ z ∧ z ≤ 255) (hyc : ys.length ≤ d') (hym : d' ≤ maxLen) (hk : 0 ≤ k ∧ k ≤ 255) :
    Calls Try.prog 7 #[.slice A n c, .slice A' zs.length c', .slice B' ys.length d', .int .u8 k] w fun e w' => e = .returned (.bool true) ∧ Below w.heap.size w w' := by
  obtain ⟨rs, hrs⟩ : ∃ rs, tabR (rightR (rulesR rows)) = rs := ⟨_, rfl⟩
  obtain ⟨hck, hcl, hct, h40⟩ := tab_good rows
  rw [hrs] at hck hcl hct h40
  have HCL := Lib.hid hcl
  obtain ⟨N, hN⟩ : ∃ N, N = rs.length := ⟨_, rfl⟩
  obtain ⟨Z, hZ⟩ : ∃ Z, Z = zs.length := ⟨_, rfl⟩
  obtain ⟨Y, hY⟩ : ∃ Y, Y = ys.length := ⟨_, rfl⟩
  obtain ⟨us, hus⟩ : ∃ us, somM zs = us := ⟨_, rfl⟩
  obtain ⟨vs, hvs⟩ : ∃ vs, somM ys = vs := ⟨_, rfl⟩
  obtain ⟨M, hM⟩ : ∃ M, us.length = M := ⟨_, rfl⟩
  obtain ⟨O, hO⟩ : ∃ O, vs.length = O := ⟨_, rfl⟩
  obtain ⟨Q, hQ1, hQ2, hQM, hQ4⟩ := cut_four M
  obtain ⟨S, hS1, hS2, hSO, hS4⟩ := cut_four O
  rw [← hZ] at hzc ⊢
  rw [← hY] at hyc ⊢
  rw [← hN] at h40
  unfold maxLen at hzm hym
  have hk0 := hk.1
  have hk1 := hk.2
  have hwk : IntKind.i64.wrap k = k := by rw [IntKind.wrap_i64]; omega
  have hQ0 : (0 : Int) ≤ (Q : Int) := by omega
  have hS0 : (0 : Int) ≤ (S : Int) := by omega
  have HR := Lib.hid hr
  have HRS := Lib.hid hrs
  have HCK := Lib.hid hck
  have HN := Lib.hid hN
  have HZ := Lib.hid hz
  have HZR := Lib.hid hzr
  have HZL := Lib.hid hZ
  have HUS := Lib.hid hus
  have HM := Lib.hid hM
  have HYv := Lib.hid hy
  have HYR := Lib.hid hyr
  have HYL := Lib.hid hY
  have HVS := Lib.hid hvs
  have HOv := Lib.hid hO
  clear hr hrs hck hcl hct hN hz hzr hZ hus hM hy hyr hY hvs hO hk
  go_enter Try.func7, Try.ntmps7
  go_wp2_with fail
  refine (awake15_any I _).mono ?_
  rintro e w1 ⟨rfl, hb1⟩
  have hs1 := hb1.size
  go_wp2_with fail
  refine (ltab_any n A c rows w1.heap.size _ (HR.out.below hb1 hs1) (Nat.le_refl _) rs HRS.out).mono ?_
  rintro e w2 ⟨v2, rfl, ho2, hb2⟩
  have hs2 := hb2.size
  obtain ⟨A2, c2, rfl, hat2⟩ := ho2.form
  rw [← HN.out] at hat2 ⊢
  have HAT2 := Lib.hid hat2
  clear ho2 hat2
  go_wp2_with fail
  refine (I.of_ok N A2 c2 rs w2.heap.size _ HAT2.out (Nat.le_refl _) (by omega) HCK.out HCL.out).mono ?_
  rintro e w3 ⟨T, rfl, ho, hb3⟩
  have hs3 := hb3.size
  have HO := Lib.hid ho
  have HAT3 := Lib.hid (HAT2.out.below hb3 hs3)
  have hbE3 : Below w.heap.size w w3 := hb1.trans ((hb2.trans (hb3.mono hs2)).mono hs1)
  have HB3 := Lib.hid hbE3
  have hsE := hbE3.size
  clear ho hb1 hb2 hb3 hbE3 HAT2
  go_wp2_with fail
  refine (some_any Z A' c' zs w.heap.size w3 HZL.out (HZ.out.below HB3.out (Nat.le_refl _)) HZR.out hsE (by omega) hzc us M HUS.out HM.out).mono ?_
  rintro e w4 ⟨A5, c5, rfl, hu4, hb4⟩
  have hs4 := hb4.size
  obtain ⟨q1, q2, q3, q4⟩ := hu4.rd
  have HU4 := Lib.hid (rd_tk Q (q4.rd (Nat.le_refl w4.heap.size)))
  have HB34 := Lib.hid hb4
  have HB4 := Lib.hid (HB3.out.trans (hb4.mono hsE))
  clear hu4 q1 q4 hb4
  go_wp2_with fail
  refine (some_any Y B' d' ys w.heap.size w4 HYL.out (HYv.out.below HB4.out (Nat.le_refl _)) HYR.out HB4.out.size (by omega) hyc vs O HVS.out HOv.out).mono ?_
  rintro e w5 ⟨A6, c6, rfl, hu5, hb5⟩
  obtain ⟨p1, p2, p3, p4⟩ := hu5.rd
  have HV5 := Lib.hid (rd_tk S (p4.rd (Nat.le_refl w5.heap.size)))
  have HU5 := Lib.hid (HU4.out.below hb5 (Nat.le_refl _))
  have HB35 := Lib.hid (HB34.out.trans (hb5.mono hs4))
  have hs5 := hb5.size
  have hcQ : Q ≤ c5 := by omega
  have hcS : S ≤ c6 := by omega
  have hQM' : (Q : Int) ≤ M := by omega
  have hSO' : (S : Int) ≤ O := by omega
  clear hu5 p1 p4 hb5 HB34 HU4
  go_wp2_with fail
  go_quiet (fail)
  have hbd := HB35.out.trans ((below_dN w5 nq).mono HB35.out.size)
  have hu := HU5.out.below (below_dr (Below.refl w4.heap.size w5) nq) (Nat.le_refl _)
  have hv := HV5.out.below (below_dr (Below.refl w5.heap.size w5) nq) (Nat.le_refl _)
  have hsd : w5.heap.size ≤ (w5.drewN nq).heap.size := Nat.le_refl _
  obtain ⟨wd, hwd⟩ : ∃ wd, w5.drewN nq = wd := ⟨_, rfl⟩
  rw [hwd] at hbd hu hv hsd ⊢
  obtain ⟨X, hX⟩ : ∃ X, us.take Q = X := ⟨_, rfl⟩
  obtain ⟨V, hV⟩ : ∃ V, vs.take S = V := ⟨_, rfl⟩
  have hXl : Q = X.length := by rw [← hX, List.length_take, HM.out]; omega
  have hVl : S = V.length := by rw [← hV, List.length_take, HOv.out]; omega
  rw [hX] at hu
  rw [hV] at hv
  have HB3d := Lib.hid hbd
  have HU := Lib.hid (hu.below (Below.refl w4.heap.size wd) (show w4.heap.size ≤ w5.heap.size by omega))
  have HV := Lib.hid hv
  have HXL := Lib.hid hXl
  have HVL := Lib.hid hVl
  have hc5 : c5 ≤ maxLen := q3
  have hc6 : c6 ≤ maxLen := p3
  obtain ⟨v, hj⟩ : ∃ v, joinsR rs X V = v := ⟨_, rfl⟩
  have HJ := Lib.hid hj
  have HSD := Lib.hid hsd
  clear hbd hu hv hsd hwd hX hV hXl hVl hj HU5 HV5 HB35 hQ1 hQ2 hS1 hS2
  go_wp2_with fail
  refine (I.joins wd w3.heap.size T rs (I.below HO.out HB3d.out (Nat.le_refl _)) HB3d.out.size Q A5 c5 X w5.heap.size HXL.out HU.out HSD.out hcQ hc5 (by omega) S A6 c6 V w5.heap.size HVL.out HV.out HSD.out hcS hc6 (by omega) v HJ.out).mono ?_
  rintro e w6 ⟨rfl, hb6⟩
  have HBd6 := Lib.hid (hb6.mono HSD.out)
  have HB36 := Lib.hid (HB3d.out.trans (hb6.mono HB3d.out.size))
  have HS6 := Lib.hid (Nat.le_trans HSD.out hb6.size)
  clear hb6
  go_wp2_with fail
  refine (ljoins_any N A2 c2 rs w3.heap.size w6 (HAT3.out.below HB36.out (Nat.le_refl _)) HB36.out.size Q A5 c5 X w5.heap.size HXL.out (HU.out.below HBd6.out (Nat.le_refl _)) HS6.out (by omega) S A6 c6 V w5.heap.size HVL.out (HV.out.below HBd6.out (Nat.le_refl _)) HS6.out (by omega) v HJ.out).mono ?_
  rintro e w7 ⟨rfl, hb7⟩
  have HBd7 := Lib.hid (HBd6.out.trans (hb7.mono HS6.out))
  have HB37 := Lib.hid (HB36.out.trans (hb7.mono HB36.out.size))
  have HS7 := Lib.hid (Nat.le_trans HS6.out hb7.size)
  have hvv : (v != v) = false := by simp
  clear hb7 HBd6 HB36 HS6
  cases v with
  | true =>
    have J1 := Lib.hid (I.join w7 w3.heap.size T rs (I.below HO.out HB37.out (Nat.le_refl _)) HB37.out.size Q A5 c5 X w5.heap.size HXL.out (HU.out.below HBd7.out (Nat.le_refl _)) HS7.out hcQ hc5 (by omega) S A6 c6 V w5.heap.size HVL.out (HV.out.below HBd7.out (Nat.le_refl _)) HS7.out hcS hc6 (by omega) 3 2 0 ⟨3, 2, [], 3⟩ (joinT_yes rfl HJ.out))
    go_wp2_with fail
    refine J1.out.mono ?_
    rintro e w8 ⟨A1, n1, c1, rfl, hn1, hc1, hcm, hr1, hb8⟩
    simp only at hn1 hr1 ⊢
    have hba : Below w8.heap.size w8 (w8.alloc (.cells #[.int .i64 3, .int .i64 2, .slice A1 n1 c1, .int .i64 3] 49)) := (Below.refl _ w8).alloc (Nat.le_refl _) _
    have HQ := Lib.hid (Held.new w8 #[.int .i64 3, .int .i64 2, .slice A1 n1 c1, .int .i64 3] 49)
    have HBd9 := Lib.hid ((HBd7.out.trans (hb8.mono HS7.out)).trans (hba.mono (Nat.le_trans HS7.out hb8.size)))
    have HB39 := Lib.hid ((HB37.out.trans (hb8.mono HB37.out.size)).trans (hba.mono (Nat.le_trans HB37.out.size hb8.size)))
    have HR1 := Lib.hid (hr1.below hba (Nat.le_refl _))
    have HN1 := Lib.hid hn1
    clear hn1
    have HS9 := Lib.hid (Nat.le_trans (Nat.le_trans HS7.out hb8.size) hba.size)
    go_wp2_with fail
    obtain ⟨p14, hp14⟩ : ∃ p, w8.heap.size = p := ⟨_, rfl⟩
    obtain ⟨w9, hw9⟩ : ∃ w9, w8.alloc (.cells #[.int .i64 3, .int .i64 2, .slice A1 n1 c1, .int .i64 3] 49) = w9 := ⟨_, rfl⟩
    have hs89 := hba.size
    rw [hw9] at HQ HBd9 HB39 HR1 hs89 HS9 ⊢
    rw [hp14] at HQ HR1 hs89 ⊢
    clear hba hr1 hb8 J1
    clear hp14 hw9 HB37
    refine (I.join w9 w3.heap.size T rs (I.below HO.out HB39.out (Nat.le_refl _)) HB39.out.size Q A5 c5 X w5.heap.size HXL.out (HU.out.below HBd9.out (Nat.le_refl _)) HS9.out hcQ hc5 (by omega) 0 none 0 [] 0 rfl Rd.nil (Nat.zero_le _) (Nat.le_refl _) (by decide) (by decide) k 1 1 ⟨k, 1, [], 1⟩ (joinT_skip (show (1 : Int) ≠ 0 by decide))).mono ?_
    rintro e w10 ⟨A7, n7, c7, rfl, -, -, -, -, hb10⟩
    have hba : Below w10.heap.size w10 (w10.alloc (.cells #[.int .i64 k, .int .i64 1, .slice A7 n7 c7, .int .i64 1] 49)) := (Below.refl _ w10).alloc (Nat.le_refl _) _
    have hb911 := hb10.trans (hba.mono hb10.size)
    have HP := Lib.hid (HQ.out.below hb911 HQ.out.lt)
    have HP2 := Lib.hid (Held.new w10 #[.int .i64 k, .int .i64 1, .slice A7 n7 c7, .int .i64 1] 49)
    have HBd11 := Lib.hid (HBd9.out.trans (hb911.mono HS9.out))
    have HB311 := Lib.hid (HB39.out.trans (hb911.mono HB39.out.size))
    have HS11 := Lib.hid (Nat.le_trans HS9.out hb911.size)
    have HR11 := Lib.hid (HR1.out.below (hb911.mono hs89) (Nat.le_refl _))
    obtain ⟨p15, hp15⟩ : ∃ p, w10.heap.size = p := ⟨_, rfl⟩
    obtain ⟨w11, hw11⟩ : ∃ w11, w10.alloc (.cells #[.int .i64 k, .int .i64 1, .slice A7 n7 c7, .int .i64 1] 49) = w11 := ⟨_, rfl⟩
    rw [hw11] at HP HP2 HBd11 HB311 HS11 HR11
    rw [hp15] at HP2
    have y0 := HP.out.cell 0
    have y1 := HP.out.cell 1
    have y2 := HP.out.cell 2
    have y3 := HP.out.cell 3
    have z0 := HP2.out.cell 0
    have z3 := HP2.out.cell 3
    have hkk : (k != k) = false := by simp
    have J2 := Lib.hid (ljoins_any N A2 c2 rs w3.heap.size w11 (HAT3.out.below HB311.out (Nat.le_refl _)) HB311.out.size Q A5 c5 X w5.heap.size HXL.out (HU.out.below HBd11.out (Nat.le_refl _)) HS11.out (by omega) S A6 c6 V w5.heap.size HVL.out (HV.out.below HBd11.out (Nat.le_refl _)) HS11.out (by omega) true HJ.out)
    clear hba hb911 hb10 HQ HBd9 HB39 HR1
    go_wp2_with fail
    clear hw11 hp15
    refine J2.out.mono ?_
    rintro e w12 ⟨rfl, hb12⟩
    have HP12 := Lib.hid (HP.out.below hb12 HP.out.lt)
    have x2 := HP12.out.cell 2
    have x3 := HP12.out.cell 3
    have HB312 := Lib.hid (HB311.out.trans (hb12.mono HB311.out.size))
    have HR12 := Lib.hid (HR11.out.below (hb12.mono (Nat.le_of_lt HP.out.lt)) (Nat.le_refl _))
    clear y0 y1 y2 y3 z0 z3 J2
    have hn0 : n1 = 0 := by rw [HN1.out]; rfl
    subst hn0
    have HBF := Lib.hid (HB3.out.trans (HB312.out.mono hsE))
    clear hb12
    go_wp2_with fail
    go_ret
    exact ⟨rfl, HBF.out⟩
  | false =>
    have J1 := Lib.hid (I.join w7 w3.heap.size T rs (I.below HO.out HB37.out (Nat.le_refl _)) HB37.out.size Q A5 c5 X w5.heap.size HXL.out (HU.out.below HBd7.out (Nat.le_refl _)) HS7.out hcQ hc5 (by omega) S A6 c6 V w5.heap.size HVL.out (HV.out.below HBd7.out (Nat.le_refl _)) HS7.out hcS hc6 (by omega) 3 2 0 ⟨3, 2, V, 0⟩ (joinT_no HJ.out))
    go_wp2_with fail
    refine J1.out.mono ?_
    rintro e w8 ⟨A1, n1, c1, rfl, hn1, hc1, hcm, hr1, hb8⟩
    simp only at hn1 hr1 ⊢
    have hba : Below w8.heap.size w8 (w8.alloc (.cells #[.int .i64 3, .int .i64 2, .slice A1 n1 c1, .int .i64 0] 49)) := (Below.refl _ w8).alloc (Nat.le_refl _) _
    have HQ := Lib.hid (Held.new w8 #[.int .i64 3, .int .i64 2, .slice A1 n1 c1, .int .i64 0] 49)
    have HBd9 := Lib.hid ((HBd7.out.trans (hb8.mono HS7.out)).trans (hba.mono (Nat.le_trans HS7.out hb8.size)))
    have HB39 := Lib.hid ((HB37.out.trans (hb8.mono HB37.out.size)).trans (hba.mono (Nat.le_trans HB37.out.size hb8.size)))
    have HR1 := Lib.hid (hr1.below hba (Nat.le_refl _))
    have HN1 := Lib.hid hn1
    clear hn1
    have HS9 := Lib.hid (Nat.le_trans (Nat.le_trans HS7.out hb8.size) hba.size)
    go_wp2_with fail
    obtain ⟨p14, hp14⟩ : ∃ p, w8.heap.size = p := ⟨_, rfl⟩
    obtain ⟨w9, hw9⟩ : ∃ w9, w8.alloc (.cells #[.int .i64 3, .int .i64 2, .slice A1 n1 c1, .int .i64 0] 49) = w9 := ⟨_, rfl⟩
    have hs89 := hba.size
    rw [hw9] at HQ HBd9 HB39 HR1 hs89 HS9 ⊢
    rw [hp14] at HQ HR1 hs89 ⊢
    clear hba hr1 hb8 J1
    clear hp14 hw9 HB37
    refine (I.join w9 w3.heap.size T rs (I.below HO.out HB39.out (Nat.le_refl _)) HB39.out.size Q A5 c5 X w5.heap.size HXL.out (HU.out.below HBd9.out (Nat.le_refl _)) HS9.out hcQ hc5 (by omega) 0 none 0 [] 0 rfl Rd.nil (Nat.zero_le _) (Nat.le_refl _) (by decide) (by decide) k 1 1 ⟨k, 1, [], 1⟩ (joinT_skip (show (1 : Int) ≠ 0 by decide))).mono ?_
    rintro e w10 ⟨A7, n7, c7, rfl, -, -, -, -, hb10⟩
    have hba : Below w10.heap.size w10 (w10.alloc (.cells #[.int .i64 k, .int .i64 1, .slice A7 n7 c7, .int .i64 1] 49)) := (Below.refl _ w10).alloc (Nat.le_refl _) _
    have hb911 := hb10.trans (hba.mono hb10.size)
    have HP := Lib.hid (HQ.out.below hb911 HQ.out.lt)
    have HP2 := Lib.hid (Held.new w10 #[.int .i64 k, .int .i64 1, .slice A7 n7 c7, .int .i64 1] 49)
    have HBd11 := Lib.hid (HBd9.out.trans (hb911.mono HS9.out))
    have HB311 := Lib.hid (HB39.out.trans (hb911.mono HB39.out.size))
    have HS11 := Lib.hid (Nat.le_trans HS9.out hb911.size)
    have HR11 := Lib.hid (HR1.out.below (hb911.mono hs89) (Nat.le_refl _))
    obtain ⟨p15, hp15⟩ : ∃ p, w10.heap.size = p := ⟨_, rfl⟩
    obtain ⟨w11, hw11⟩ : ∃ w11, w10.alloc (.cells #[.int .i64 k, .int .i64 1, .slice A7 n7 c7, .int .i64 1] 49) = w11 := ⟨_, rfl⟩
    rw [hw11] at HP HP2 HBd11 HB311 HS11 HR11
    rw [hp15] at HP2
    have y0 := HP.out.cell 0
    have y1 := HP.out.cell 1
    have y2 := HP.out.cell 2
    have y3 := HP.out.cell 3
    have z0 := HP2.out.cell 0
    have z3 := HP2.out.cell 3
    have hkk : (k != k) = false := by simp
    have J2 := Lib.hid (ljoins_any N A2 c2 rs w3.heap.size w11 (HAT3.out.below HB311.out (Nat.le_refl _)) HB311.out.size Q A5 c5 X w5.heap.size HXL.out (HU.out.below HBd11.out (Nat.le_refl _)) HS11.out (by omega) S A6 c6 V w5.heap.size HVL.out (HV.out.below HBd11.out (Nat.le_refl _)) HS11.out (by omega) false HJ.out)
    clear hba hb911 hb10 HQ HBd9 HB39 HR1
    go_wp2_with fail
    clear hw11 hp15
    refine J2.out.mono ?_
    rintro e w12 ⟨rfl, hb12⟩
    have HP12 := Lib.hid (HP.out.below hb12 HP.out.lt)
    have x2 := HP12.out.cell 2
    have x3 := HP12.out.cell 3
    have HB312 := Lib.hid (HB311.out.trans (hb12.mono HB311.out.size))
    have HR12 := Lib.hid (HR11.out.below (hb12.mono (Nat.le_of_lt HP.out.lt)) (Nat.le_refl _))
    clear y0 y1 y2 y3 z0 z3 J2
    have HVd := Lib.hid (HV.out.below (HBd11.out.trans (hb12.mono HS11.out)) (Nat.le_refl _))
    clear hb12
    go_wp2_with fail
    refine (units_v n1 S A1 A6 c1 c6 V V _ _ w12 true (eqB_t rfl) HN1.out HVL.out HR12.out HVd.out (by have := HN1.out; have := HVL.out; omega)).mono ?_
    rintro e w13 ⟨rfl, q, rfl⟩
    have HBF := Lib.hid (HB3.out.trans ((below_dr HB312.out q).mono hsE))
    go_wp2_with fail
    go_ret
    exact ⟨rfl, HBF.out⟩
end Go.Proofs.Ytpbmaacchjedpaa
