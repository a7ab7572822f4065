/- Layer 7: contracts of the law's Scalar, and of its examples. -/
import Derived.Test.YtbegfdlkhmiilaaDoorThaiA
namespace Go.Proofs.YtbegfdlkhmiilaaDoor
set_option linter.unusedVariables false
open Go.RowKit

set_option maxHeartbeats 400000 in
theorem scalarL_any (c : Int) (w : World) (h0 : 0 ≤ c) (h1 : c ≤ 255) :
    Calls Tryd.prog 10 #[.int .u8 c] w fun e w' => e = .returned (.tuple #[.int .i64 (scF c).1, .bool (scF c).2]) ∧ w' = w := by
  rcases byte_cases c h0 h1 with h | h | h | h | h | h
  all_goals try (obtain ⟨h, h'⟩ := h)
  all_goals
    go_enter Tryd.func10, Tryd.ntmps10
    go_wp2
    go_ret2
    exact ⟨ret_ib (by unfold scF; (repeat' split) <;> first | rfl | omega), rfl⟩

set_option maxHeartbeats 1600000 in
theorem tawake7_any (w : World) (hh : HighAt w) : Calls Tryd.prog 8 #[] w fun e w' => e = .returned (.bool true) ∧ w' = w := by
  have D1 := Lib.hid (decode_any 161 w (by decide) (by decide))
  have D2 := Lib.hid (decode_any 219 w (by decide) (by decide))
  have E1 := Lib.hid (encode_any 3675 w (by decide) (by decide))
  have O1 := Lib.hid (of_any 232 w (by decide) (by decide) hh)
  have O2 := Lib.hid (of_any 161 w (by decide) (by decide) hh)
  have O3 := Lib.hid (of_any 7 w (by decide) (by decide) hh)
  rw [show scF 161 = (3585, true) from rfl] at D1
  rw [show scF 219 = (0, false) from rfl] at D2
  rw [show ecF 3675 = (251, true) from rfl] at E1
  rw [show clF 232 = 10 from rfl] at O1
  rw [show clF 161 = 2 from rfl] at O2
  rw [show clF 7 = 0 from rfl] at O3
  clear hh
  go_enter Tryd.func8, Tryd.ntmps8
  go_wp2_with fail
  refine D1.out.mono ?_
  rintro e w' ⟨rfl, rfl⟩
  go_wp2_with fail
  refine E1.out.mono ?_
  rintro e w' ⟨rfl, rfl⟩
  go_wp2_with fail
  refine D2.out.mono ?_
  rintro e w' ⟨rfl, rfl⟩
  go_wp2_with fail
  refine O1.out.mono ?_
  rintro e w' ⟨rfl, rfl⟩
  go_wp2_with fail
  refine O2.out.mono ?_
  rintro e w' ⟨rfl, rfl⟩
  go_wp2_with fail
  refine O3.out.mono ?_
  rintro e w' ⟨rfl, rfl⟩
  go_wp2_with fail
  go_ret
  exact ⟨rfl, rfl⟩
end Go.Proofs.YtbegfdlkhmiilaaDoor
