/- ThaiDecode: the walk. -/
import Derived.Test.YtbegfdlkhmiilaaDoorThaiL
namespace Go.Proofs.YtbegfdlkhmiilaaDoor
set_option linter.unusedVariables false
open Go.RowKit
set_option maxHeartbeats 800000 in
theorem thaiDecode_any (c : Int) (w : World) (h0 : 0 ≤ c ∧ c ≤ 255) (hh : HighAt w) :
    Calls Tryd.prog 3 #[.int .u8 c] w fun e w' => e = .returned (.bool true) ∧ Below w.heap.size w w' := by
  have A1 := Lib.hid (tawake7_any w hh)
  obtain ⟨s, ok, hs⟩ : ∃ s ok, scF c = (s, ok) := ⟨_, _, rfl⟩
  have D1 := Lib.hid (decode_any c w h0.1 h0.2)
  have D2 := Lib.hid (scalarL_any c w h0.1 h0.2)
  rw [hs] at D1 D2
  clear hs hh
  go_enter Tryd.func3, Tryd.ntmps3
  go_wp2_with fail
  refine A1.out.mono ?_
  rintro e w' ⟨rfl, rfl⟩
  go_wp2_with fail
  refine D1.out.mono ?_
  rintro e w' ⟨rfl, rfl⟩
  go_wp2_with fail
  refine D2.out.mono ?_
  rintro e w' ⟨rfl, rfl⟩
  go_wp2_with fail
  go_ret
  exact ⟨ret_bool (by simp), Below.refl _ _⟩
end Go.Proofs.YtbegfdlkhmiilaaDoor
