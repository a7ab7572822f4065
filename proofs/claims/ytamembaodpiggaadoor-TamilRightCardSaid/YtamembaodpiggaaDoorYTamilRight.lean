/- TamilRight: the walk. -/
import Derived.Test.YtamembaodpiggaaDoorZ4
import Derived.Test.YtamembaodpiggaaDoorZ5
import Derived.Test.YtamembaodpiggaaDoorZ15
import Derived.Test.YtamembaodpiggaaDoorZ3
namespace Go.Proofs.YtamembaodpiggaaDoor
set_option linter.unusedVariables false
set_option linter.unusedSimpArgs false
set_option linter.unnecessarySimpa false
open Go.RowKit
set_option maxRecDepth 100000 in
set_option maxHeartbeats 12800000 in
theorem tamilRight_any (I : TamApi) (a b : Int) (w : World) (hI : I.OK w) (ha : 0 ≤ a ∧ a ≤ 255) (hb : 0 ≤ b ∧ b ≤ 255) :
    Calls Tryd.prog 5 #[.int .u8 a, .int .u8 b] w fun e w' => e = .returned (.bool true) ∧ Below w.heap.size w w' := by
  obtain ⟨ha0, ha1⟩ := ha
  obtain ⟨hb0, hb1⟩ := hb
  have hwa : IntKind.i64.wrap a = a := by rw [IntKind.wrap_i64]; omega
  have hwb : IntKind.i64.wrap b = b := by rw [IntKind.wrap_i64]; omega
  obtain ⟨m, hm⟩ : ∃ m : Nat, a * b = (m : Int) := ⟨(a * b).toNat, by have := Int.mul_nonneg ha0 hb0; omega⟩
  have hm9 : m ≤ 65025 := by
    have h1 : a * b ≤ 255 * 255 := Int.mul_le_mul ha1 hb1 hb0 (by decide)
    omega
  obtain ⟨x, hx⟩ : ∃ x : Nat, m % 327 = x := ⟨_, rfl⟩
  have hx9 : x < 327 := by omega
  have hmx : (m : Int) % 327 = x := by omega
  have hwm : IntKind.i64.wrap (a * b) = (m : Int) := by rw [hm, IntKind.wrap_i64]; omega
  have hwm2 : wrap64 (a * b) = (m : Int) := by rw [hm]; unfold wrap64; omega
  obtain ⟨rs, hrs⟩ : ∃ rs, tmR = rs := ⟨_, rfl⟩
  have hlen : rs.length = 327 := by rw [← hrs]; exact tmR_len
  have HL := Lib.hid hlen
  have HI := Lib.hid hI
  clear hlen hI
  have HCK : Hid (checkR rs = (-1, 0)) := by show _ = _; rw [← hrs]; exact tmR_right
  have HCL : Hid (closedR rs = true) := by show _ = _; rw [← hrs]; exact tmR_closed
  obtain ⟨tt, htt⟩ : ∃ tt, turnR rs = tt := ⟨_, rfl⟩
  have htl : tt.length = 327 := by rw [← htt, ← hrs, tmR_turn]; exact tmT_len
  have HTT := Lib.hid htt
  have HTL := Lib.hid htl
  have HTF : Hid (∀ h : x < rs.length, findR tt (rs[x]'h).2 = x) := by
    intro h
    subst htt hrs
    rw [tmR_turn]; exact tmT_find x hx9
  have HLR : Hid (longR rs = 3) := by show _ = _; rw [← hrs]; exact tmR_long
  have HLT : Hid (longR (turnR rs) = 2) := by show _ = _; rw [← hrs, tmR_turn]; exact tmT_long
  have HSD : Hid (∀ r ∈ rs, r.1.length ≤ 3 ∧ r.2.length ≤ 2) := by show _; rw [← hrs]; exact tmR_sides
  clear htt htl hx hm
  go_enter Tryd.func5, Tryd.ntmps5
  go_wp2_with fail
  refine (awake17_any I w HI.out).mono ?_
  rintro e w1 ⟨rfl, hb1⟩
  have HI1 := Lib.hid (I.keep HI.out hb1)
  have HB1 := Lib.hid hb1
  have hs1 := hb1.size
  clear hb1 HI
  have R1 := Lib.hid (I.rules w1 HI1.out)
  rw [hrs] at R1
  clear hrs
  go_wp2_with fail
  refine R1.out.mono ?_
  rintro e w2 ⟨v2, rfl, ho2, hb2⟩
  obtain ⟨A2, c2, rfl, hat2⟩ := ho2.form
  rw [HL.out] at hat2 ⊢
  have HAT2 := Lib.hid hat2
  have HB2 := Lib.hid (HB1.out.trans (hb2.mono hs1))
  have HI2 := Lib.hid (I.keep HI1.out hb2)
  have hs2 := HB2.out.size
  clear ho2 hat2 hb2 R1 HI1
  go_wp2_with fail
  refine (tab_of_ok 327 A2 c2 rs w2.heap.size w2 HAT2.out (Nat.le_refl _) (by decide) HCK.out HCL.out).mono ?_
  rintro e w3 ⟨T, rfl, ho, hb3⟩
  have hs3 := hb3.size
  have HO := Lib.hid ho
  have HAT3 := Lib.hid (HAT2.out.below hb3 hs3)
  have HB3 := Lib.hid (HB2.out.trans (hb3.mono hs2))
  have HI3 := Lib.hid (I.keep HI2.out hb3)
  have hsE := HB3.out.size
  clear ho hb3 HAT2 HB2 HI2
  have T1 := Lib.hid (turn_any 327 A2 c2 rs w3.heap.size w3 HAT3.out (Nat.le_refl _) (by decide) (fun r h => by have := HSD.out r h; omega) tt HTT.out)
  go_wp2_with fail
  refine T1.out.mono ?_
  rintro e w4 ⟨v4, rfl, ho4, hb4⟩
  obtain ⟨A4, c4, rfl, hat4⟩ := ho4.form
  rw [HTL.out] at hat4 ⊢
  have HAT4 := Lib.hid hat4
  have HB34 := Lib.hid hb4
  have hs4 := hb4.size
  have L1 := Lib.hid (tab_longest w4 w3.heap.size T rs (HO.out.below hb4 (Nat.le_refl _)) hs4)
  rw [HLR.out, HLT.out] at L1
  clear ho4 hat4 hb4 T1 HO HI3
  go_wp2_with fail
  refine L1.out.mono ?_
  rintro e w5 ⟨rfl, hb5⟩
  have hs5 := hb5.size
  have hat5 := HAT3.out.below (HB34.out.trans (hb5.mono hs4)) (Nat.le_refl _)
  obtain ⟨b2, of2, rfl, hbB, A6, n6, c6, A7, n7, c7, g1, g2, e1, e2, e3, e4, f1, f2, f3, f4⟩ := hat5.at (k := x) (by rw [HL.out]; exact hx9)
  have htf := HTF.out (by rw [HL.out]; exact hx9)
  have F1 := Lib.hid (find_any 327 n7 A4 A7 c4 c7 tt _ w5.heap.size _ w5 (HAT4.out.below hb5 (by omega)) f1 f4 f2 f3 (Nat.le_refl _) (by omega) x htf)
  have HB5 := Lib.hid (HB3.out.trans ((HB34.out.trans (hb5.mono hs4)).mono hsE))
  have x0 : (0 : Int) ≤ x := by omega
  have x1 : (x : Int) < 327 := by omega
  clear hat5 e1 e4 f1 f4 htf hb5 L1 HAT3 HAT4 HB34 g1
  go_wp2_with fail
  refine F1.out.mono ?_
  rintro e w6 ⟨rfl, hb6⟩
  have HB6 := Lib.hid (HB5.out.trans (hb6.mono HB5.out.size))
  clear hb6 F1
  go_wp2_with fail
  go_ret
  exact ⟨ret_bool (by simp), HB6.out⟩
end Go.Proofs.YtamembaodpiggaaDoor
