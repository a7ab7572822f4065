/- VniRight: the walk. -/
import Derived.Test.YtgjmclbcmfkhdaaDoorVnE
import Derived.Test.YtgjmclbcmfkhdaaDoorRuleF
import Derived.Test.YtgjmclbcmfkhdaaDoorRuleO
namespace Go.Proofs.YtgjmclbcmfkhdaaDoor
set_option linter.unusedVariables false
set_option linter.unusedSimpArgs false
set_option linter.unnecessarySimpa false
open Go.RowKit Go.Shelf
set_option maxRecDepth 100000 in
set_option maxHeartbeats 3200000 in
theorem vniRight_any (n : Int) (w : World) (hn : 0 ≤ n ∧ n ≤ 255) (hT : TabN w) :
    Calls Tryd.prog 5 #[.int .u8 n] w fun e w' => e = .returned (.bool true) ∧ Below w.heap.size w w' := by
  have A0 := Lib.hid (awake13_any w hT)
  have HT := Lib.hid hT
  obtain ⟨K, rfl⟩ : ∃ K : Nat, n = (K : Int) := ⟨n.toNat, by omega⟩
  have hK : K < 262 := by omega
  have n0 : (0 : Int) ≤ K := by omega
  have n1 : (K : Int) ≤ 255 := by omega
  have hw1 : IntKind.i64.wrap (K : Int) = K := by rw [IntKind.wrap_i64]; omega
  have hn262 : (K : Int) < 262 := by omega
  have HF := Lib.hid (vnT_find K hK)
  have HSD := Lib.hid (vnR_sides _ (List.getElem_mem (by rw [vnR_len]; exact hK)))
  clear hT hn
  go_enter Tryd.func5, Tryd.ntmps5
  go_wp2_with fail
  refine A0.out.mono ?_
  rintro e w1 ⟨rfl, hb1⟩
  have hs1 := hb1.size
  have R1 := Lib.hid (vnrules_any w1 (HT.out.below hb1))
  have HB1 := Lib.hid hb1
  clear hb1 A0 HT
  go_wp2_with fail
  refine R1.out.mono ?_
  rintro e w2 ⟨v, rfl, hO, hb2⟩
  obtain ⟨A2, c2, rfl, hr2⟩ := hO.form
  have HB2 := Lib.hid (HB1.out.trans (hb2.mono hs1))
  have hs2 := HB2.out.size
  rw [vnR_len] at hr2 ⊢
  have C1 := Lib.hid (check_any 262 A2 c2 vnR _ w2 hr2 (Nat.le_refl _) (-1) 0 vnR_right)
  have HR2 := Lib.hid hr2
  clear hO hb2 R1 HB1 hr2
  go_wp2_with fail
  refine C1.out.mono ?_
  rintro e w3 ⟨rfl, hb3⟩
  have hs3 := hb3.size
  have hr3 := HR2.out.below hb3 hs3
  have T1 := Lib.hid (turn_any 262 A2 c2 vnR _ w3 hr3 (Nat.le_refl _) (by decide) (fun r hr => by have := vnR_sides r hr; omega) vnT vnR_turn)
  have HR3 := Lib.hid hr3
  have HB3 := Lib.hid (HB2.out.trans (hb3.mono hs2))
  clear hb3 C1 HB2 HR2 hr3
  go_wp2_with fail
  refine T1.out.mono ?_
  rintro e w4 ⟨v4, rfl, hO4, hb4⟩
  obtain ⟨A4, c4, rfl, hr4⟩ := hO4.form
  have hs4 := hb4.size
  rw [vnT_len] at hr4 ⊢
  have hr34 := HR3.out.below hb4 hs4
  have HB4 := Lib.hid (HB3.out.trans (hb4.mono (by omega)))
  obtain ⟨b, o, rfl, hbl, A5, k5, d5, A6, k6, d6, g1, g2, e1, e2, e3, e4, f1, f2, f3, f4⟩ := hr34.at (k := K) (by rw [vnR_len]; exact hK)
  have F1 := Lib.hid (find_any 262 k6 A4 A6 c4 d6 vnT _ _ _ w4 hr4 f1 f4 f2 f3 (Nat.le_refl _) (Nat.le_refl _) (K : Int) HF.out)
  have HR4 := Lib.hid hr4
  have HR34 := Lib.hid hr34
  clear hO4 hb4 T1 HB3 HR3 hr34 hr4 g1 e1 e2 e3 e4 f1 f2 f3 f4 HF HSD
  go_wp2_with fail
  refine F1.out.mono ?_
  rintro e w5 ⟨rfl, hb5⟩
  have hs5 := hb5.size
  have hr5 := HR34.out.below hb5 hs5
  have L1 := Lib.hid (longest_any 262 _ c2 vnR _ w5 hr5 (Nat.le_refl _) 2 vnR_long)
  have HR5 := Lib.hid (HR4.out.below hb5 hs5)
  have HB5 := Lib.hid (HB4.out.trans (hb5.mono (by have := HB4.out.size; omega)))
  clear hb5 F1 HB4 HR4 HR34 hr5 g2
  go_wp2_with fail
  refine L1.out.mono ?_
  rintro e w6 ⟨rfl, hb6⟩
  have hs6 := hb6.size
  have hr6 := HR5.out.below hb6 hs6
  have L2 := Lib.hid (longest_any 262 _ c4 vnT _ w6 hr6 (Nat.le_refl _) 1 vnT_long)
  have HB6 := Lib.hid (HB5.out.trans (hb6.mono (by have := HB5.out.size; omega)))
  clear hb6 L1 HB5 HR5 hr6
  go_wp2_with fail
  refine L2.out.mono ?_
  rintro e w7 ⟨rfl, hb7⟩
  have HB7 := Lib.hid (HB6.out.trans (hb7.mono (by have := HB6.out.size; omega)))
  clear hb7 L2 HB6
  go_wp2_with fail
  go_ret
  exact ⟨ret_bool (by simp), HB7.out⟩
end Go.Proofs.YtgjmclbcmfkhdaaDoor
