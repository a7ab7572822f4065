/- TamilVowels: the walk. -/
import Derived.Test.YtamembaodpiggaaDoorZ4
import Derived.Test.YtamembaodpiggaaDoorZ5
import Derived.Test.YtamembaodpiggaaDoorZ1
import Derived.Test.YtamembaodpiggaaDoorZ15
import Derived.Test.YtamembaodpiggaaDoorZ13
namespace Go.Proofs.YtamembaodpiggaaDoor
set_option linter.unusedVariables false
set_option linter.unusedSimpArgs false
set_option linter.unnecessarySimpa false
open Go.RowKit
set_option maxRecDepth 100000 in
set_option maxHeartbeats 12800000 in
theorem tamilVowels_any (I : TamApi) (k v : Int) (w : World) (hI : I.OK w) (hk : 0 ≤ k ∧ k ≤ 255) (hv : 0 ≤ v ∧ v ≤ 255) :
    Calls Tryd.prog 8 #[.int .u8 k, .int .u8 v] w fun e w' => e = .returned (.bool true) ∧ Below w.heap.size w w' := by
  obtain ⟨hk0, hk1⟩ := hk
  obtain ⟨hv0, hv1⟩ := hv
  obtain ⟨a, ha⟩ : ∃ a : Nat, k.toNat % 22 = a := ⟨_, rfl⟩
  obtain ⟨j, hj⟩ : ∃ j : Nat, v.toNat % 4 = j := ⟨_, rfl⟩
  have ha2 : a < 22 := by rw [← ha]; exact Nat.mod_lt _ (by decide)
  have hj2 : j < 4 := by rw [← hj]; exact Nat.mod_lt _ (by decide)
  have hka : k % 22 = (a : Int) := rem_nat hk0 ha
  have hvj : v % 4 = (j : Int) := rem_nat hv0 hj
  have hwa : IntKind.i64.wrap (a : Int) = a := wrap_low a (Nat.lt_trans ha2 (by decide))
  have hwj : IntKind.i64.wrap (j : Int) = j := wrap_low j (Nat.lt_trans hj2 (by decide))
  have hw1 : wrap64 (176 + (a : Int)) = 176 + a := wrap_lowC 176 a (by decide) (Nat.lt_trans ha2 (by decide))
  have hw2 : wrap64 (171 + (j : Int)) = 171 + j := wrap_lowC 171 j (by decide) (Nat.lt_trans hj2 (by decide))
  have hw3 : wrap64 (3007 + (j : Int)) = 3007 + j := wrap_lowC 3007 j (by decide) (Nat.lt_trans hj2 (by decide))
  have a0 : (0 : Int) ≤ a := Int.natCast_nonneg a
  have a1 : (a : Int) < 22 := Int.ofNat_lt.2 ha2
  have j0 : (0 : Int) ≤ j := Int.natCast_nonneg j
  have j1 : (j : Int) < 4 := Int.ofNat_lt.2 hj2
  clear ha hj hw3 hw2 hw1 hwa hwj
  obtain ⟨s, hs⟩ : ∃ s, tmCon a = s := ⟨_, rfl⟩
  obtain ⟨rs, hrs⟩ : ∃ rs, tmR = rs := ⟨_, rfl⟩
  have hlen : rs.length = 327 := by rw [← hrs]; exact tmR_len
  have HL := Lib.hid hlen
  have HI := Lib.hid hI
  clear hlen hI
  have HCK : Hid (checkR rs = (-1, 0)) := by show _ = _; rw [← hrs]; exact tmR_right
  have HCL : Hid (closedR rs = true) := by show _ = _; rw [← hrs]; exact tmR_closed
  have hde := vw_dec a j ha2 hj2
  have hen := vw_enc a j ha2 hj2
  unfold vwI at hde
  unfold vwO at hen
  rw [hs] at hde hen
  rw [hrs] at hde hen
  have HDE := Lib.hid hde
  have HEN := Lib.hid hen
  have HS := Lib.hid hs
  clear hs hde hen
  go_enter Tryd.func8, Tryd.ntmps8
  go_wp2_with fail
  refine (awake17_any I w HI.out).mono ?_
  rintro e w1 ⟨rfl, hb1⟩
  have HI1 := Lib.hid (I.keep HI.out hb1)
  have HB1 := Lib.hid hb1
  have hs1 := hb1.size
  clear hb1 HI
  have R1 := Lib.hid (I.rules w1 HI1.out)
  rw [hrs] at R1
  clear hrs
  go_wp2_with fail
  refine R1.out.mono ?_
  rintro e w2 ⟨v2, rfl, ho2, hb2⟩
  obtain ⟨A2, c2, rfl, hat2⟩ := ho2.form
  rw [HL.out] at hat2 ⊢
  have HAT2 := Lib.hid hat2
  have HB2 := Lib.hid (HB1.out.trans (hb2.mono hs1))
  have HI2 := Lib.hid (I.keep HI1.out hb2)
  have hs2 := HB2.out.size
  clear ho2 hat2 hb2 R1 HI1
  go_wp2_with fail
  refine (tab_of_ok 327 A2 c2 rs w2.heap.size w2 HAT2.out (Nat.le_refl _) (by decide) HCK.out HCL.out).mono ?_
  rintro e w3 ⟨T, rfl, ho, hb3⟩
  have hs3 := hb3.size
  have HO := Lib.hid ho
  have HAT3 := Lib.hid (HAT2.out.below hb3 hs3)
  have HB3 := Lib.hid (HB2.out.trans (hb3.mono hs2))
  have HI3 := Lib.hid (I.keep HI2.out hb3)
  have hsE := HB3.out.size
  clear ho hb3 HAT2 HB2 HI2
  have h4 : Below w3.heap.size w3 (w3.alloc (.cells #[.int .i64 (176 + (a : Int)), .int .i64 (171 + (j : Int))] 3)) := (Below.refl _ _).alloc (Nat.le_refl _) _
  have hI4 := rd_new_ints w3 .i64 [176 + (a : Int), 171 + (j : Int)] 3 #[.int .i64 (176 + (a : Int)), .int .i64 (171 + (j : Int))] rfl
  obtain ⟨w4, hw4⟩ : ∃ w4, w3.alloc (.cells #[.int .i64 (176 + (a : Int)), .int .i64 (171 + (j : Int))] 3) = w4 := ⟨_, rfl⟩
  obtain ⟨N, hN⟩ : ∃ N, w3.heap.size = N := ⟨_, rfl⟩
  rw [hw4] at h4 hI4
  rw [hN] at hI4
  have hNs : N < w4.heap.size := by rw [← hw4, ← hN]; simp
  have hN3 : w3.heap.size ≤ N := Nat.le_of_eq hN
  have HI4 := Lib.hid hI4
  have HB34 := Lib.hid h4
  have HW4 := Lib.hid hw4
  have HNE := Lib.hid hN
  clear h4 hI4 hw4 hN
  have ct : (w4.alloc (.cells tmCt 3)).cell? ⟨w4.heap.size, a, none⟩ = some (.int .i64 s) := by
    have h := (Held.new w4 tmCt 3).cell a
    rw [show tmCt[a]? = some (.int .i64 (tmC.getD a 0)) from tab_ints tmC a ha2, show tmC.getD a 0 = s from HS.out] at h
    exact h
  have CT := Lib.hid ct
  have h5 : Below w4.heap.size w4 ((w4.alloc (.cells tmCt 3)).alloc (.cells #[.int .i64 s, .int .i64 (3007 + (j : Int))] 3)) := (below_allocT w4 _).alloc (by simp) _
  have hO5 := rd_new_ints (w4.alloc (.cells tmCt 3)) .i64 [s, 3007 + (j : Int)] 3 #[.int .i64 s, .int .i64 (3007 + (j : Int))] rfl
  have hb39 := HB34.out.trans (h5.mono HB34.out.size)
  have hrI := HI4.out.below h5 (Nat.le_refl _)
  have hsz : ((w4.alloc (.cells tmCt 3)).alloc (.cells #[.int .i64 s, .int .i64 (3007 + (j : Int))] 3)).heap.size = w4.heap.size + 2 := by simp
  have hrO : Rd ((w4.alloc (.cells tmCt 3)).alloc (.cells #[.int .i64 s, .int .i64 (3007 + (j : Int))] 3)) (w4.heap.size + 2) (some ⟨w4.heap.size + 1, 0, none⟩) (([s, 3007 + (j : Int)] : List Int).map (Value.int .i64)) := by simpa using hO5
  have D1 := Lib.hid (tab_decode ((w4.alloc (.cells tmCt 3)).alloc (.cells #[.int .i64 s, .int .i64 (3007 + (j : Int))] 3)) w3.heap.size T rs (HO.out.below hb39 (Nat.le_refl _)) hb39.size 2 (some ⟨N, 0, none⟩) 2 [176 + (a : Int), 171 + (j : Int)] w4.heap.size rfl hrI (by rw [hsz]; omega) (Nat.le_refl _) (by unfold maxLen; decide) (by decide) _ HDE.out)
  have HB39 := Lib.hid hb39
  have HRI := Lib.hid hrI
  have HRO := Lib.hid hrO
  have HSZ := Lib.hid hsz
  clear ct h5 hO5 hb39 hrI hrO hsz
  go_upto_region 7 with fail
  rw [HW4.out]
  try rw [HNE.out]
  go_wp2_with fail
  refine (lcons_any w4).mono ?_
  rintro e w5 ⟨rfl, rfl⟩
  have c5 := CT.out
  go_wp2_with fail
  refine D1.out.mono ?_
  rintro e w10 ⟨v10, rfl, ho10, hb10⟩
  obtain ⟨w9, hw9⟩ : ∃ w9, ((w4.alloc (.cells tmCt 3)).alloc (.cells #[.int .i64 s, .int .i64 (3007 + (j : Int))] 3)) = w9 := ⟨_, rfl⟩
  have hb39 := HB39.out
  have hrI := HRI.out
  have hrO := HRO.out
  have hsz9 := HSZ.out
  rw [hw9] at hb39 hrI hrO hsz9 hb10 ho10
  obtain ⟨A10, c10, rfl, hat10⟩ := ho10.form
  have hb310 := hb39.trans (hb10.mono hb39.size)
  have hs9 : w4.heap.size + 2 ≤ w9.heap.size := Nat.le_of_eq hsz9.symm
  have hs10 := hb10.size
  have U1 := Lib.hid (unitsT_any 2 A10 c10 _ w10.heap.size w10 hat10 (Nat.le_refl _) (by simp [outsT]) [s, 3007 + (j : Int)] ⟨0, 0, [], 0⟩ 2 0 rfl rfl rfl rfl)
  have HB310 := Lib.hid hb310
  have HRI10 := Lib.hid (hrI.below (hb10.mono (show w4.heap.size ≤ w9.heap.size by omega)) (Nat.le_refl _))
  have HRO10 := Lib.hid (hrO.below (hb10.mono (show w4.heap.size + 2 ≤ w9.heap.size by omega)) (Nat.le_refl _))
  have hN : w4.heap.size + 2 ≤ w10.heap.size := by omega
  clear hw9 hb39 hrI hrO hsz9 hb10 ho10 hat10 hb310 D1 HB39 HRI HRO HSZ hs10 hs9 w9
  simp only [List.length_cons, List.length_nil]
  go_wp2_with fail
  refine U1.out.mono ?_
  rintro e w11 ⟨A11, c11, A12, c12, rfl, hu11, -, hb11⟩
  obtain ⟨-, r1, r2, r3⟩ := hu11.rd
  have hs11 := hb11.size
  have hbx : Below w11.heap.size w11 (w11.alloc (.cells #[.int .i64 0, .int .i64 0, .slice A12 0 c12, .int .i64 0] 47)) := (Below.refl _ _).alloc (Nat.le_refl _) _
  have hx1 := Held.new w11 #[.int .i64 0, .int .i64 0, .slice A12 0 c12, .int .i64 0] 47
  obtain ⟨w12, hw12⟩ : ∃ w12, w11.alloc (.cells #[.int .i64 0, .int .i64 0, .slice A12 0 c12, .int .i64 0] 47) = w12 := ⟨_, rfl⟩
  obtain ⟨X1, hX1⟩ : ∃ X1, w11.heap.size = X1 := ⟨_, rfl⟩
  rw [hw12] at hbx hx1
  rw [hX1] at hx1
  have hb1012 : Below w10.heap.size w10 w12 := hb11.trans (hbx.mono hs11)
  have hs12 := hb1012.size
  have HX1 := Lib.hid hx1
  have HRX := Lib.hid (Rd.below (r3.rd (Nat.le_refl _)) hbx hbx.size)
  have hX1s : X1 < w12.heap.size := hx1.lt
  have HB312 := Lib.hid (HB310.out.trans (hb1012.mono HB310.out.size))
  have HRI12 := Lib.hid (HRI10.out.below (hb1012.mono (show w4.heap.size ≤ w10.heap.size by omega)) (Nat.le_refl _))
  have HRO12 := Lib.hid (HRO10.out.below (hb1012.mono hN) (Nat.le_refl _))
  have HW12 := Lib.hid hw12
  have HX1E := Lib.hid hX1
  have E1 := Lib.hid (tab_encode w12 w3.heap.size T rs (HO.out.below HB312.out (Nat.le_refl _)) HB312.out.size 2 (some ⟨w4.heap.size + 1, 0, none⟩) 2 [s, 3007 + (j : Int)] (w4.heap.size + 2) rfl HRO12.out (by omega) (Nat.le_refl _) (by unfold maxLen; decide) (by decide) _ HEN.out)
  have R2 := Lib.hid r2
  clear hb11 hbx hx1 hb1012 r1 r2 r3 hw12 hX1 hu11 U1 HB310 HRI10 HRO10
  go_upto_region 9 with fail
  rw [HW12.out]
  try rw [HX1E.out]
  go_wp2_with fail
  refine E1.out.mono ?_
  rintro e w13 ⟨v13, rfl, ho13, hb13⟩
  obtain ⟨A13, c13, rfl, hat13⟩ := ho13.form
  have hs13 := hb13.size
  have HB313 := Lib.hid (HB312.out.trans (hb13.mono HB312.out.size))
  have HX13 := Lib.hid (HX1.out.below hb13 hX1s)
  have HRX13 := Lib.hid (HRX.out.below hb13 hs13)
  have HRI13 := Lib.hid (HRI12.out.below (hb13.mono (show w4.heap.size ≤ w12.heap.size by omega)) (Nat.le_refl _))
  have HRO13 := Lib.hid (HRO12.out.below (hb13.mono (show w4.heap.size + 2 ≤ w12.heap.size by omega)) (Nat.le_refl _))
  have hil : (2 : Nat) = ([176 + (a : Int), 171 + (j : Int)] : List Int).length := rfl
  have U2 := Lib.hid (unitsT_any 2 A13 c13 _ w13.heap.size w13 hat13 (Nat.le_refl _) (by simp [outsT]) [176 + (a : Int), 171 + (j : Int)] ⟨0, 0, [], 0⟩ 2 0 (by simp [outsT]) rfl hil.symm rfl)
  clear ho13 hat13 hb13 hil E1 HB312 HX1 HRX HRI12 HRO12
  simp only [List.length_cons, List.length_nil]
  go_wp2_with fail
  refine U2.out.mono ?_
  rintro e w14 ⟨A14, c14, A15, c15, rfl, hu14, -, hb14⟩
  obtain ⟨-, r1, r2, r3⟩ := hu14.rd
  have hs14 := hb14.size
  have hbx : Below w14.heap.size w14 (w14.alloc (.cells #[.int .i64 0, .int .i64 0, .slice A15 0 c15, .int .i64 0] 47)) := (Below.refl _ _).alloc (Nat.le_refl _) _
  have hx2 := Held.new w14 #[.int .i64 0, .int .i64 0, .slice A15 0 c15, .int .i64 0] 47
  have hx1 := (HX13.out.below hb14 (show X1 < w13.heap.size by omega)).alloc (.cells #[.int .i64 0, .int .i64 0, .slice A15 0 c15, .int .i64 0] 47)
  obtain ⟨w15, hw15⟩ : ∃ w15, w14.alloc (.cells #[.int .i64 0, .int .i64 0, .slice A15 0 c15, .int .i64 0] 47) = w15 := ⟨_, rfl⟩
  obtain ⟨X2, hX2⟩ : ∃ X2, w14.heap.size = X2 := ⟨_, rfl⟩
  rw [hw15] at hbx hx2 hx1
  rw [hX2] at hx2
  have hb1315 : Below w13.heap.size w13 w15 := hb14.trans (hbx.mono hs14)
  have hs15 := hb1315.size
  have z1 : w15.cell? ⟨X1, 3, none⟩ = some (.int .i64 0) := hx1.cell 3
  have z2 : w15.cell? ⟨X2, 3, none⟩ = some (.int .i64 0) := hx2.cell 3
  have HB315 := Lib.hid (HB313.out.trans (hb1315.mono HB313.out.size))
  have hyI := HRI13.out.below (hb1315.mono (show w4.heap.size ≤ w13.heap.size by omega)) (show w4.heap.size ≤ w15.heap.size by omega)
  have hyO := HRO13.out.below (hb1315.mono (show w4.heap.size + 2 ≤ w13.heap.size by omega)) (show w4.heap.size + 2 ≤ w15.heap.size by omega)
  have hxI := Rd.below (r3.rd (Nat.le_refl _)) hbx (show w14.heap.size ≤ w15.heap.size from hbx.size)
  have hxO := HRX13.out.below hb1315 hs15
  have V1 := Lib.hid (units_any 2 2 A11 (some ⟨w4.heap.size + 1, 0, none⟩) c11 2 [s, 3007 + (j : Int)] [s, 3007 + (j : Int)] w15 rfl rfl rfl hxO hyO (by simp))
  have hil : (2 : Nat) = ([176 + (a : Int), 171 + (j : Int)] : List Int).length := rfl
  have V2 := Lib.hid (fun (w' : World) (hb : Below w15.heap.size w15 w') => units_any 2 2 A14 (some ⟨N, 0, none⟩) c14 2 [176 + (a : Int), 171 + (j : Int)] [176 + (a : Int), 171 + (j : Int)] w' rfl hil hil (hxI.below hb hb.size) (hyI.below hb hb.size) (by omega))
  have HW15 := Lib.hid hw15
  have HX2E := Lib.hid hX2
  clear hb14 hbx hx2 hx1 hb1315 r1 r2 r3 hw15 hX2 hu14 hyI hyO hxI hxO hil U2 HB313 HX13 HRX13 HRI13 HRO13
  go_upto_region 10 with fail
  rw [HW15.out]
  try rw [HX2E.out]
  go_wp2_with fail
  refine V1.out.mono ?_
  rintro e w16 ⟨rfl, hb16⟩
  have V3 := Lib.hid (V2.out w16 hb16)
  have HB316 := Lib.hid (HB315.out.trans (hb16.mono HB315.out.size))
  clear hb16 V1 V2
  go_wp2_with fail
  refine V3.out.mono ?_
  rintro e w17 ⟨rfl, hb17⟩
  have HBF := Lib.hid (HB3.out.trans ((HB316.out.trans (hb17.mono HB316.out.size)).mono hsE))
  clear hb17
  go_wp2_with fail
  go_ret
  exact ⟨rfl, HBF.out⟩
end Go.Proofs.YtamembaodpiggaaDoor
