/- IndicRight: the walk. -/
import Derived.Test.YthgomhmalmmhlaaDoorInH
import Derived.Test.YthgomhmalmmhlaaDoorRuleF
import Derived.Test.YthgomhmalmmhlaaDoorRuleO
namespace Go.Proofs.YthgomhmalmmhlaaDoor
set_option linter.unusedVariables false
set_option linter.unusedSimpArgs false
set_option linter.unnecessarySimpa false
open Go.RowKit
set_option maxRecDepth 100000 in
set_option maxHeartbeats 3200000 in
theorem indicRight_any (a b : Int) (w : World) (ha : 0 ≤ a ∧ a ≤ 255) (hb : 0 ≤ b ∧ b ≤ 255) (hT : TabI w) :
    Calls Tryd.prog 7 #[.int .u8 a, .int .u8 b] w fun e w' => e = .returned (.bool true) ∧ Below w.heap.size w w' := by
  have A0 := Lib.hid (awake14_any w hT)
  have HT := Lib.hid hT
  obtain ⟨a0, a1⟩ := ha
  obtain ⟨b0, b1⟩ := hb
  have wa : IntKind.i64.wrap a = a := by rw [IntKind.wrap_i64]; omega
  have wb : IntKind.i64.wrap b = b := by rw [IntKind.wrap_i64]; omega
  obtain ⟨K, hKe⟩ : ∃ K : Nat, a % 240 = (K : Int) := ⟨(a % 240).toNat, by omega⟩
  obtain ⟨J, hJe⟩ : ∃ J : Nat, b % 240 = (J : Int) := ⟨(b % 240).toNat, by omega⟩
  have hK : K < 240 := by omega
  have n0 : (0 : Int) ≤ K := by omega
  have n1 : (K : Int) < 240 := by omega
  have ht1 : a.tmod 240 = (K : Int) := by rw [Int.tmod_eq_emod_of_nonneg a0]; exact hKe
  have ht2 : b.tmod 240 = (J : Int) := by rw [Int.tmod_eq_emod_of_nonneg b0]; exact hJe
  have HF1 := Lib.hid (inR_find K hK)
  have HF2 := Lib.hid (inT_find K hK)
  obtain ⟨q, hq⟩ : ∃ q, ((K : Int) == (J : Int)) = q := ⟨_, rfl⟩
  clear hT
  go_enter Tryd.func7, Tryd.ntmps7
  go_wp2_with fail
  refine A0.out.mono ?_
  rintro e w1 ⟨rfl, hb1⟩
  have hs1 := hb1.size
  have R1 := Lib.hid (inrules_any w1 (HT.out.below hb1))
  have HB1 := Lib.hid hb1
  clear hb1 A0 HT
  go_wp2_with fail
  refine R1.out.mono ?_
  rintro e w2 ⟨v, rfl, hO, hb2⟩
  obtain ⟨A2, c2, rfl, hr2⟩ := hO.form
  have HB2 := Lib.hid (HB1.out.trans (hb2.mono hs1))
  have hs2 := HB2.out.size
  rw [inR_len] at hr2 ⊢
  have C1 := Lib.hid (check_any 240 A2 c2 inR _ w2 hr2 (Nat.le_refl _) (-1) 0 inR_right)
  have HR2 := Lib.hid hr2
  clear hO hb2 R1 HB1 hr2
  go_wp2_with fail
  refine C1.out.mono ?_
  rintro e w3 ⟨rfl, hb3⟩
  have hs3 := hb3.size
  have hr3 := HR2.out.below hb3 hs3
  have T1 := Lib.hid (turn_any 240 A2 c2 inR _ w3 hr3 (Nat.le_refl _) (by decide) (fun r hr => by have := inR_sides r hr; omega) inT inR_turn)
  have HR3 := Lib.hid hr3
  have HB3 := Lib.hid (HB2.out.trans (hb3.mono hs2))
  clear hb3 C1 HB2 HR2 hr3
  go_wp2_with fail
  refine T1.out.mono ?_
  rintro e w4 ⟨v4, rfl, hO4, hb4⟩
  obtain ⟨A4, c4, rfl, hr4⟩ := hO4.form
  have hs4 := hb4.size
  rw [inT_len] at hr4 ⊢
  have HR4 := Lib.hid hr4
  have HR34 := Lib.hid (HR3.out.below hb4 hs4)
  have HB4 := Lib.hid (HB3.out.trans (hb4.mono (by omega)))
  clear hO4 hb4 T1 HB3 HR3 hr4
  go_wp2_with fail
  go_quiet (fail)
  have hs4w := HB4.out.size
  have hr4d := HR4.out.drewN nq
  have hr34d := HR34.out.drewN nq
  have hb4d := HB4.out.trans ((below_dN w4 nq).mono hs4w)
  have hsd : (w4.drewN nq).heap.size = w4.heap.size := rfl
  obtain ⟨wd, hwd⟩ : ∃ wd, w4.drewN nq = wd := ⟨_, rfl⟩
  rw [hwd] at hr4d hr34d hb4d hsd ⊢
  obtain ⟨b', o, rfl, hbl, A5, k5, d5, A6, k6, d6, g1, g2, e1, e2, e3, e4, f1, f2, f3, f4⟩ := hr34d.at (k := K) (by rw [inR_len]; exact hK)
  have hle : w4.heap.size ≤ wd.heap.size := Nat.le_of_eq hsd.symm
  have F1 := Lib.hid (find_any 240 k5 (some ⟨b', o, none⟩) A5 c2 d5 inR _ _ _ wd hr34d e1 e4 e2 e3 hle hle (K : Int) HF1.out)
  have HR4d := Lib.hid hr4d
  have HB4d := Lib.hid hb4d
  have E1 := Lib.hid f1
  have E2 := Lib.hid f2
  have E3 := Lib.hid f3
  have E4 := Lib.hid f4
  have hbq : (q == q) = true := by simp
  clear hwd hr4d hr34d hb4d HR4 HR34 HB4 e1 e2 e3 e4 f1 f2 f3 f4 HF1 hsd hs4w
  go_wp2_with fail
  refine F1.out.mono ?_
  rintro e w5 ⟨rfl, hb5⟩
  have hs5 := hb5.size
  have g3 := (hb5.cell (p := ⟨b', o + K * 2 + 1, none⟩) (show b' < wd.heap.size by omega)).trans g2
  have F2 := Lib.hid (find_any 240 k6 A4 A6 c4 d6 inT _ _ _ w5 (HR4d.out.below (hb5.mono hle) (Nat.le_refl _)) E1.out (E4.out.below (hb5.mono hle) (Nat.le_refl _)) E2.out E3.out (Nat.le_trans hle hs5) (Nat.le_trans hle hs5) (K : Int) HF2.out)
  have HB5 := Lib.hid (HB4d.out.trans (hb5.mono HB4d.out.size))
  clear hb5 F1 HB4d HR4d E1 E2 E3 E4 HF2 g1 g2
  go_wp2_with fail
  refine F2.out.mono ?_
  rintro e w6 ⟨rfl, hb6⟩
  have HB6 := Lib.hid (HB5.out.trans (hb6.mono HB5.out.size))
  clear hb6 F2 HB5 g3
  go_wp2_with fail
  go_ret
  exact ⟨ret_bool (by simp), HB6.out⟩
end Go.Proofs.YthgomhmalmmhlaaDoor
