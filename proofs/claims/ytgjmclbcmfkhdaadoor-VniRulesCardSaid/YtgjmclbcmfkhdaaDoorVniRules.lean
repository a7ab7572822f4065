/- VniRules: the walk. -/
import Derived.Test.YtgjmclbcmfkhdaaDoorVnE
import Derived.Test.YtgjmclbcmfkhdaaDoorVnK
import Derived.Test.YtgjmclbcmfkhdaaDoorSameR
namespace Go.Proofs.YtgjmclbcmfkhdaaDoor
set_option linter.unusedVariables false
set_option linter.unusedSimpArgs false
set_option linter.unnecessarySimpa false
open Go.RowKit Go.Shelf
set_option maxRecDepth 100000 in
set_option maxHeartbeats 1600000 in
theorem vniRules_any (n : Int) (w : World) (hn : 0 ≤ n ∧ n ≤ 255) (hT : TabN w) :
    Calls Tryd.prog 4 #[.int .u8 n] w fun e w' => e = .returned (.bool true) ∧ Below w.heap.size w w' := by
  have A0 := Lib.hid (awake13_any w hT)
  have HT := Lib.hid hT
  have n0 := hn.1
  have n1 := hn.2
  have hw1 : IntKind.i64.wrap n = n := by rw [IntKind.wrap_i64]; omega
  have hn262 : n < 262 := by omega
  clear hT hn
  go_enter Tryd.func4, Tryd.ntmps4
  go_wp2_with fail
  refine A0.out.mono ?_
  rintro e w1 ⟨rfl, hb1⟩
  have hs1 := hb1.size
  have R1 := Lib.hid (vnrules_any w1 (HT.out.below hb1))
  have HB1 := Lib.hid hb1
  clear hb1 A0 HT
  go_wp2_with fail
  refine R1.out.mono ?_
  rintro e w2 ⟨v, rfl, hO, hb2⟩
  obtain ⟨A2, c2, rfl, hr2⟩ := hO.form
  have HR2 := Lib.hid hr2
  have HB2 := Lib.hid (HB1.out.trans (hb2.mono hs1))
  have hs2 := HB2.out.size
  rw [vnR_len] at HR2 ⊢
  clear hO hb2 R1 HB1 hr2
  go_wp2_with fail
  refine (vnlrules_any w2).mono ?_
  rintro e w3 ⟨v3, rfl, hO3, hb3⟩
  obtain ⟨A3, c3, rfl, hr3⟩ := hO3.form
  rw [vnR_len] at hr3 ⊢
  have S1 := Lib.hid (rsame_any 262 262 A2 A3 c2 c3 vnR _ _ w3 (HR2.out.below hb3 (Nat.le_refl _)) hr3)
  have HB3 := Lib.hid (HB2.out.trans (hb3.mono hs2))
  clear hO3 hb3 hr3 HR2 HB2
  go_wp2_with fail
  refine S1.out.mono ?_
  rintro e w4 ⟨rfl, m, hm⟩
  have HB4 := Lib.hid (show Below w.heap.size w w4 by rw [hm]; exact HB3.out.trans ⟨rfl, rfl, rfl, Nat.le_refl _, fun _ _ => rfl⟩)
  clear hm S1 HB3
  go_wp2_with fail
  go_ret
  exact ⟨ret_bool (by simp), HB4.out⟩
end Go.Proofs.YtgjmclbcmfkhdaaDoor
