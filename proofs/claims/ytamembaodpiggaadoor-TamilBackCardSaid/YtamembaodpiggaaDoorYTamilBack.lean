/- TamilBack: the walk. -/
import Derived.Test.YtamembaodpiggaaDoorZ4
import Derived.Test.YtamembaodpiggaaDoorZ16
import Derived.Test.YtamembaodpiggaaDoorZ15
import Derived.Test.YtamembaodpiggaaDoorZ13
import Derived.Test.YtamembaodpiggaaDoorZ1
namespace Go.Proofs.YtamembaodpiggaaDoor
set_option linter.unusedVariables false
set_option linter.unusedSimpArgs false
set_option linter.unnecessarySimpa false
open Go.RowKit
theorem wrongT_ok : ∀ {ts : List Tk}, (wrongT ts).err = 0 → ∀ t ∈ ts, t.err = 0
  | [], _, t, h => by cases h
  | x :: ts, h, t, ht => by
    by_cases e : x.err = 0
    · rw [wrongT_y e] at h
      rcases List.mem_cons.1 ht with rfl | ht
      · exact e
      · exact wrongT_ok h t ht
    · rw [wrongT_n e] at h; exact absurd h e
theorem wrongT_zero : ∀ {ts : List Tk}, (∀ t ∈ ts, t.err = 0) → wrongT ts = ⟨0, 0, [], 0⟩
  | [], _ => rfl
  | x :: ts, h => by rw [wrongT_y (h x (by simp))]; exact wrongT_zero fun t ht => h t (by simp [ht])
set_option maxRecDepth 100000 in
set_option maxHeartbeats 12800000 in
theorem tamilBack_any (I : TamApi) (A' : Option Addr) (c' : Nat) (zs : List Int) (w : World) (hI : I.OK w) (hz : Rd w w.heap.size A' (zs.map (Value.int .u8))) (hzr : ∀ z ∈ zs, 0 ≤ z ∧ z ≤ 255) (hzc : zs.length ≤ c') (hzm : c' ≤ maxLen) :
    Calls Tryd.prog 7 #[.slice A' zs.length c'] w fun e w' => e = .returned (.bool true) ∧ Below w.heap.size w w' := by
  obtain ⟨Z, hZ⟩ : ∃ Z, Z = zs.length := ⟨_, rfl⟩
  obtain ⟨us, hus⟩ : ∃ us, someT zs = us := ⟨_, rfl⟩
  obtain ⟨M, hM⟩ : ∃ M, us.length = M := ⟨_, rfl⟩
  have hM60 : M ≤ 60 := by rw [← hM, ← hus]; exact someT_len zs
  rw [← hZ] at hzc ⊢
  have HZM := Lib.hid hzm
  have HZ := Lib.hid hz
  have HZR := Lib.hid hzr
  have HZL := Lib.hid hZ
  have HUS := Lib.hid hus
  have HM := Lib.hid hM
  clear hzm hz hzr hZ hus hM
  obtain ⟨rs, hrs⟩ : ∃ rs, tmR = rs := ⟨_, rfl⟩
  have hlen : rs.length = 327 := by rw [← hrs]; exact tmR_len
  have HL := Lib.hid hlen
  have HI := Lib.hid hI
  clear hlen hI
  have HCK : Hid (checkR rs = (-1, 0)) := by show _ = _; rw [← hrs]; exact tmR_right
  have HCL : Hid (closedR rs = true) := by show _ = _; rw [← hrs]; exact tmR_closed
  have HG := Lib.hid (good_of HCK.out)
  have HGT : Hid (Good (turnR rs)) := good_of (turn_check HCK.out)
  obtain ⟨te, hte⟩ : ∃ te, encA rs us = te := ⟨_, rfl⟩
  have hte8 : ∀ t ∈ te, t.out.length ≤ 8 := by rw [← hte]; exact encA_out HGT.out us
  have htel : te.length ≤ 60 := by rw [← hte]; have := encA_len HGT.out us; rw [HM.out] at this; omega
  obtain ⟨bs, hbs⟩ : ∃ bs, outsT te = bs := ⟨_, rfl⟩
  have hbl : bs.length ≤ 480 := by rw [← hbs]; have := outsT_len te hte8; omega
  obtain ⟨td, htd⟩ : ∃ td, rewA rs 0 bs = td := ⟨_, rfl⟩
  have htdl : td.length ≤ 480 := by rw [← htd]; have := HG.out.rew_len bs 0; omega
  have hol : (outsT td).length ≤ 3840 := by have := outsT_len td (by rw [← htd]; exact rewA_out HG.out bs 0); omega
  have hback : (wrongT te).err = 0 → outsT td = us ∧ wrongT td = ⟨0, 0, [], 0⟩ := fun h => by
    have h2 := table_back HG.out HGT.out HCL.out us (by rw [hte]; exact wrongT_ok h) 0
    rw [hte, hbs, htd] at h2
    exact ⟨h2.1, wrongT_zero h2.2⟩
  have HTE := Lib.hid hte
  have HBS := Lib.hid hbs
  have HTD := Lib.hid htd
  have HOL := Lib.hid hol
  have HBK := Lib.hid hback
  obtain ⟨P, hP⟩ : ∃ P, bs.length = P := ⟨_, rfl⟩
  rw [hP] at hbl
  have HP := Lib.hid hP
  obtain ⟨K, hK⟩ : ∃ K, K = te.length := ⟨_, rfl⟩
  rw [← hK] at htel
  have HK := Lib.hid hK
  obtain ⟨K2, hK2⟩ : ∃ K2, K2 = td.length := ⟨_, rfl⟩
  have HK2 := Lib.hid hK2
  have HOB : Hid ((outsT te).length ≤ 480) := by show _ ≤ _; rw [HBS.out, HP.out]; exact hbl
  clear hte hte8 hbs htd hol hback hP hK htdl hK2
  go_enter Tryd.func7, Tryd.ntmps7
  go_wp2_with fail
  refine (awake17_any I w HI.out).mono ?_
  rintro e w1 ⟨rfl, hb1⟩
  have HI1 := Lib.hid (I.keep HI.out hb1)
  have HB1 := Lib.hid hb1
  have hs1 := hb1.size
  clear hb1 HI
  have R1 := Lib.hid (I.rules w1 HI1.out)
  rw [hrs] at R1
  clear hrs
  go_wp2_with fail
  refine R1.out.mono ?_
  rintro e w2 ⟨v2, rfl, ho2, hb2⟩
  obtain ⟨A2, c2, rfl, hat2⟩ := ho2.form
  rw [HL.out] at hat2 ⊢
  have HAT2 := Lib.hid hat2
  have HB2 := Lib.hid (HB1.out.trans (hb2.mono hs1))
  have HI2 := Lib.hid (I.keep HI1.out hb2)
  have hs2 := HB2.out.size
  clear ho2 hat2 hb2 R1 HI1
  go_wp2_with fail
  refine (tab_of_ok 327 A2 c2 rs w2.heap.size w2 HAT2.out (Nat.le_refl _) (by decide) HCK.out HCL.out).mono ?_
  rintro e w3 ⟨T, rfl, ho, hb3⟩
  have hs3 := hb3.size
  have HO := Lib.hid ho
  have HAT3 := Lib.hid (HAT2.out.below hb3 hs3)
  have HB3 := Lib.hid (HB2.out.trans (hb3.mono hs2))
  have HI3 := Lib.hid (I.keep HI2.out hb3)
  have hsE := HB3.out.size
  clear ho hb3 HAT2 HB2 HI2
  have S1 := Lib.hid (someT_any Z A' c' zs w.heap.size w3 HZL.out (HZ.out.below HB3.out (Nat.le_refl _)) HZR.out hsE hzc HZM.out us HUS.out)
  go_wp2_with fail
  refine S1.out.mono ?_
  rintro e w4 ⟨v4, rfl, ho4, hb4⟩
  obtain ⟨A4, c4, rfl, q1, q2⟩ := ho4.form
  have hir := ho4.rd
  rw [HM.out] at q1 ⊢
  have hs4 := hb4.size
  have HB34 := Lib.hid hb4
  have E1 := Lib.hid (tab_encode w4 w3.heap.size T rs (HO.out.below hb4 (Nat.le_refl _)) hs4 M A4 c4 us w4.heap.size HM.out.symm hir (Nat.le_refl _) q1 q2 (by omega) te HTE.out)
  clear ho4 hir hb4 S1 q1 q2
  go_wp2_with fail
  refine E1.out.mono ?_
  rintro e w5 ⟨v5, rfl, ho5, hb5⟩
  obtain ⟨A5, c5, rfl, hat5⟩ := ho5.form
  rw [← HK.out] at hat5 ⊢
  have HB35 := Lib.hid (HB34.out.trans (hb5.mono hs4))
  have hs5 := HB35.out.size
  obtain ⟨X, hX⟩ : ∃ X, wrongT te = X := ⟨_, rfl⟩
  obtain ⟨xl, hxl⟩ : ∃ xl, X.out.length = xl := ⟨_, rfl⟩
  have U1 := Lib.hid (unitsT_any K A5 c5 te w5.heap.size w5 hat5 (Nat.le_refl _) (by have := HOB.out; omega) bs X P xl HBS.out hX HP.out hxl)
  obtain ⟨xp, xz, xo, xe⟩ := X
  have HX := Lib.hid hX
  clear ho5 hat5 hb5 E1 hX hxl HB34
  go_wp2_with fail
  refine U1.out.mono ?_
  rintro e w6 ⟨A6, c6, A7, c7, rfl, hu6, -, hb6⟩
  simp only
  obtain ⟨-, r1, r2, r3⟩ := hu6.rd
  have hs6 := hb6.size
  have hbx : Below w6.heap.size w6 (w6.alloc (.cells #[.int .i64 xp, .int .i64 xz, .slice A7 xl c7, .int .i64 xe] 47)) := (Below.refl _ _).alloc (Nat.le_refl _) _
  have hx1 := Held.new w6 #[.int .i64 xp, .int .i64 xz, .slice A7 xl c7, .int .i64 xe] 47
  obtain ⟨w7, hw7⟩ : ∃ w7, w6.alloc (.cells #[.int .i64 xp, .int .i64 xz, .slice A7 xl c7, .int .i64 xe] 47) = w7 := ⟨_, rfl⟩
  obtain ⟨X1, hX1⟩ : ∃ X1, w6.heap.size = X1 := ⟨_, rfl⟩
  rw [hw7] at hbx hx1
  rw [hX1] at hx1
  have hX1s : X1 < w7.heap.size := hx1.lt
  have hb37 := HB35.out.trans ((hb6.trans (hbx.mono hs6)).mono hs5)
  have D1 := Lib.hid (tab_decode w7 w3.heap.size T rs (HO.out.below hb37 (Nat.le_refl _)) hb37.size P A6 c6 bs w7.heap.size HP.out.symm (Rd.below (r3.rd (Nat.le_refl _)) hbx hbx.size) (Nat.le_refl _) r1 r2 (by omega) td HTD.out)
  have HX1 := Lib.hid hx1
  have HB37 := Lib.hid hb37
  have HW7 := Lib.hid hw7
  have HX1E := Lib.hid hX1
  clear hu6 hb6 hbx hx1 hw7 hX1 hb37 r1 r2 r3 U1 HB35
  go_upto_region 7 with fail
  rw [HW7.out]
  try rw [HX1E.out]
  go_wp2_with fail
  refine D1.out.mono ?_
  rintro e w8 ⟨v8, rfl, ho8, hb8⟩
  obtain ⟨A8, c8, rfl, hat8⟩ := ho8.form
  rw [← HK2.out] at hat8 ⊢
  have hs8 := hb8.size
  have HB38 := Lib.hid (HB37.out.trans (hb8.mono HB37.out.size))
  have HX18 := Lib.hid (HX1.out.below hb8 hX1s)
  obtain ⟨os, hos⟩ : ∃ os, outsT td = os := ⟨_, rfl⟩
  obtain ⟨ol, holl⟩ : ∃ ol, os.length = ol := ⟨_, rfl⟩
  obtain ⟨Y, hY⟩ : ∃ Y, wrongT td = Y := ⟨_, rfl⟩
  obtain ⟨yl, hyl⟩ : ∃ yl, Y.out.length = yl := ⟨_, rfl⟩
  have U2 := Lib.hid (unitsT_any K2 A8 c8 td w8.heap.size w8 hat8 (Nat.le_refl _) (by have := HOL.out; omega) os Y ol yl hos hY holl hyl)
  obtain ⟨yp, yz, yo, ye⟩ := Y
  have HOS := Lib.hid hos
  have HOLL := Lib.hid holl
  have HY := Lib.hid hY
  clear ho8 hat8 hb8 D1 hos holl hY hyl HB37 HX1
  go_wp2_with fail
  refine U2.out.mono ?_
  rintro e w9 ⟨A9, c9, A10, c10, rfl, hu9, -, hb9⟩
  simp only
  obtain ⟨-, r1, r2, r3⟩ := hu9.rd
  have hs9 := hb9.size
  have hbx : Below w9.heap.size w9 (w9.alloc (.cells #[.int .i64 yp, .int .i64 yz, .slice A10 yl c10, .int .i64 ye] 47)) := (Below.refl _ _).alloc (Nat.le_refl _) _
  have hx2 := Held.new w9 #[.int .i64 yp, .int .i64 yz, .slice A10 yl c10, .int .i64 ye] 47
  have hx1 := (HX18.out.below hb9 (show X1 < w8.heap.size by omega)).alloc (.cells #[.int .i64 yp, .int .i64 yz, .slice A10 yl c10, .int .i64 ye] 47)
  obtain ⟨w10, hw10⟩ : ∃ w10, w9.alloc (.cells #[.int .i64 yp, .int .i64 yz, .slice A10 yl c10, .int .i64 ye] 47) = w10 := ⟨_, rfl⟩
  obtain ⟨X2, hX2⟩ : ∃ X2, w9.heap.size = X2 := ⟨_, rfl⟩
  rw [hw10] at hbx hx2 hx1
  rw [hX2] at hx2
  have z1 : w10.cell? ⟨X1, 3, none⟩ = some (.int .i64 xe) := hx1.cell 3
  have z2 : w10.cell? ⟨X2, 3, none⟩ = some (.int .i64 ye) := hx2.cell 3
  have HB310 := Lib.hid (HB38.out.trans ((hb9.trans (hbx.mono hs9)).mono HB38.out.size))
  have HRO := Lib.hid (Rd.below (r3.rd (Nat.le_refl _)) hbx hbx.size)
  have HB10 := Lib.hid (HB3.out.trans (HB310.out.mono hsE))
  have hs10 := HB10.out.size
  have HW10 := Lib.hid hw10
  have HX2E := Lib.hid hX2
  clear hu9 hb9 hbx hx1 hx2 hw10 hX2 r1 r2 r3 U2 HB38 HX18
  by_cases hxe : xe = 0
  · have hbk := HBK.out (by rw [HX.out]; exact hxe)
    have hos : os = us := by rw [← HOS.out]; exact hbk.1
    have hye : ye = 0 := by have h := hbk.2; rw [HY.out] at h; injection h
    subst hxe hye
    have S2 := Lib.hid (someT_any Z A' c' zs w.heap.size w10 HZL.out (HZ.out.below HB10.out (Nat.le_refl _)) HZR.out hs10 hzc HZM.out us HUS.out)
    have HOU := Lib.hid hos
    clear hbk hos
    go_upto_region 8 with fail
    rw [HW10.out]
    try rw [HX2E.out]
    go_wp2_with fail
    refine S2.out.mono ?_
    rintro e w11 ⟨v11, rfl, ho11, hb11⟩
    obtain ⟨A11, c11, rfl, -, -⟩ := ho11.form
    have hir := ho11.rd
    rw [HM.out]
    have V1 := Lib.hid (units_any ol M A9 A11 c9 c11 os us w11 HOU.out HOLL.out.symm HM.out.symm (HRO.out.below hb11 hb11.size) hir (by rw [HOLL.out]; have := HOL.out; rw [HOS.out, HOLL.out] at this; omega))
    have HB11 := Lib.hid (HB10.out.trans (hb11.mono hs10))
    clear ho11 hir hb11 S2
    go_wp2_with fail
    refine V1.out.mono ?_
    rintro e w12 ⟨rfl, hb12⟩
    have HB12 := Lib.hid (HB11.out.trans (hb12.mono HB11.out.size))
    clear hb12
    go_wp2_with fail
    go_ret
    exact ⟨rfl, HB12.out⟩
  · have hne : (xe != 0) = true := by simpa using hxe
    clear hxe
    go_upto_region 8 with fail
    rw [HW10.out]
    try rw [HX2E.out]
    go_wp2_with fail
    go_ret
    exact ⟨rfl, HB10.out⟩
end Go.Proofs.YtamembaodpiggaaDoor
