/- TamilRules: the walk. -/
import Derived.Test.YtamembaodpiggaaDoorZ4
import Derived.Test.YtamembaodpiggaaDoorZ5
namespace Go.Proofs.YtamembaodpiggaaDoor
set_option linter.unusedVariables false
set_option linter.unusedSimpArgs false
set_option linter.unnecessarySimpa false
open Go.RowKit
set_option maxRecDepth 100000 in
set_option maxHeartbeats 12800000 in
theorem tamilRules_any (I : TamApi) (n : Int) (w : World) (hI : I.OK w) (hn : 0 ≤ n ∧ n ≤ 255) :
    Calls Tryd.prog 3 #[.int .u8 n] w fun e w' => e = .returned (.bool true) ∧ Below w.heap.size w w' := by
  obtain ⟨hn0, hn1⟩ := hn
  have hwn : IntKind.i64.wrap n = n := by rw [IntKind.wrap_i64]; omega
  obtain ⟨rs, hrs⟩ : ∃ rs, tmR = rs := ⟨_, rfl⟩
  have hlen : rs.length = 327 := by rw [← hrs]; exact tmR_len
  have HL := Lib.hid hlen
  have HI := Lib.hid hI
  clear hlen hI
  go_enter Tryd.func3, Tryd.ntmps3
  go_wp2_with fail
  refine (awake17_any I w HI.out).mono ?_
  rintro e w1 ⟨rfl, hb1⟩
  have HI1 := Lib.hid (I.keep HI.out hb1)
  have HB1 := Lib.hid hb1
  have hs1 := hb1.size
  clear hb1 HI
  have R1 := Lib.hid (I.rules w1 HI1.out)
  rw [hrs] at R1
  have HRS := Lib.hid hrs
  clear hrs
  go_wp2_with fail
  refine R1.out.mono ?_
  rintro e w2 ⟨v2, rfl, ho2, hb2⟩
  obtain ⟨A2, c2, rfl, hat2⟩ := ho2.form
  rw [HL.out] at hat2 ⊢
  have HAT2 := Lib.hid hat2
  have HB2 := Lib.hid (HB1.out.trans (hb2.mono hs1))
  have HI2 := Lib.hid (I.keep HI1.out hb2)
  have hs2 := HB2.out.size
  have L1 := Lib.hid (lrulesT_any w2)
  rw [HRS.out] at L1
  clear ho2 hat2 hb2 R1 HI1 HB1
  go_wp2_with fail
  refine L1.out.mono ?_
  rintro e w3 ⟨v3, rfl, ho3, hb3⟩
  obtain ⟨A3, c3, rfl, hat3⟩ := ho3.form
  rw [HL.out] at hat3 ⊢
  have hs3 := hb3.size
  have S1 := Lib.hid (rsame_any 327 327 A2 A3 c2 c3 rs w3.heap.size w3.heap.size w3 (HAT2.out.below hb3 hs3) hat3)
  have HB3 := Lib.hid (HB2.out.trans (hb3.mono hs2))
  have HI3 := Lib.hid (I.keep HI2.out hb3)
  clear ho3 hat3 hb3 L1 HI2 HB2 HAT2
  go_wp2_with fail
  refine S1.out.mono ?_
  rintro e w4 ⟨rfl, m, rfl⟩
  have HB4 := Lib.hid (below_dr HB3.out m)
  have R2 := Lib.hid (I.rules (w3.drewN m) (I.keep HI3.out (below_dN w3 m)))
  rw [HRS.out] at R2
  clear S1 HI3 HB3
  go_wp2_with fail
  refine R2.out.mono ?_
  rintro e w5 ⟨v5, rfl, ho5, hb5⟩
  obtain ⟨A5, c5, rfl, -⟩ := ho5.form
  rw [HL.out]
  have HB5 := Lib.hid (HB4.out.trans (hb5.mono HB4.out.size))
  have hd : decide ((327 : Int) > n) = true := by simp; omega
  clear ho5 hb5 R2
  go_wp2_with fail
  go_ret
  exact ⟨ret_bool (by simp), HB5.out⟩
end Go.Proofs.YtamembaodpiggaaDoor
