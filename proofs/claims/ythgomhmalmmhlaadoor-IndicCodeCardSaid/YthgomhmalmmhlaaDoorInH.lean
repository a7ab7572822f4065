/- Layer 14: the law's examples. -/
import Derived.Test.YthgomhmalmmhlaaDoorInD
namespace Go.Proofs.YthgomhmalmmhlaaDoor
set_option linter.unusedVariables false
set_option linter.unusedSimpArgs false
set_option linter.unnecessarySimpa false
open Go.RowKit
set_option maxRecDepth 100000 in
set_option maxHeartbeats 3200000 in
theorem awake14_any (w : World) (hT : TabI w) : Calls Tryd.prog 10 #[] w fun e w' => e = .returned (.bool true) ∧ Below w.heap.size w w' := by
  have P1 : Hid (Calls Tryd.prog 11 #[.int .u8 179] w fun e w' => e = .returned (.tuple #[.int .i64 21, .bool true]) ∧ w' = w) := Lib.hid (place_any 179 w (by decide) hT)
  have O1 : Hid (Calls Tryd.prog 13 #[.int .i64 2453] w fun e w' => e = .returned (.tuple #[.int .i64 1, .int .i64 21, .bool true]) ∧ w' = w) := Lib.hid (of_yes 2453 w (by decide) (by decide) (by decide))
  have C1 : Hid (Calls Tryd.prog 15 #[.int .i64 8] w fun e w' => e = .returned (.tuple #[.int .i64 73, .bool true]) ∧ w' = w) := Lib.hid (code_at 8 w (by decide) hT)
  have O2 := Lib.hid (of_no 2404 w (by decide))
  have S1 : Hid (Calls Tryd.prog 14 #[.int .i64 0, .int .i64 21] w fun e w' => e = .returned (.int .i64 2325) ∧ w' = w) := Lib.hid (scalar_any 0 21 w (by decide) (by decide))
  have R1 := Lib.hid (inrules_any w hT)
  clear hT
  go_enter Tryd.func10, Tryd.ntmps10
  go_wp2_with fail
  refine P1.out.mono ?_
  rintro e w1 ⟨rfl, rfl⟩
  go_wp2_with fail
  refine O1.out.mono ?_
  rintro e w2 ⟨rfl, rfl⟩
  go_wp2_with fail
  refine C1.out.mono ?_
  rintro e w3 ⟨rfl, rfl⟩
  go_wp2_with fail
  refine O2.out.mono ?_
  rintro e w4 ⟨rfl, rfl⟩
  go_wp2_with fail
  refine S1.out.mono ?_
  rintro e w5 ⟨rfl, rfl⟩
  go_wp2_with fail
  refine R1.out.mono ?_
  rintro e w6 ⟨v, rfl, hO, hb⟩
  obtain ⟨A, c, rfl, -⟩ := hO.form
  rw [inR_len]
  have HB := Lib.hid hb
  clear hO hb
  go_wp2_with fail
  go_ret
  exact ⟨rfl, HB.out⟩
end Go.Proofs.YthgomhmalmmhlaaDoor
