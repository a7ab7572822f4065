/- ThaiClass: the walk. -/
import Derived.Test.YtbegfdlkhmiilaaDoorThaiL
import Derived.Test.YtbegfdlkhmiilaaDoorThaiC
import Derived.Test.YtbegfdlkhmiilaaDoorGlob
namespace Go.Proofs.YtbegfdlkhmiilaaDoor
set_option linter.unusedVariables false
open Go.RowKit
theorem clF_range (c : Int) : 0 ≤ clF c ∧ clF c < 17 := by unfold clF; (repeat' split) <;> omega
theorem HighAt.stay {w w' : World} (h : HighAt w) (hb : Stay 0 w w') : HighAt w' := tab_block h (by kernel_rfl) hb
theorem HighAt.lt {w : World} (h : HighAt w) : 0 < w.heap.size := World.block_lt_of_cell? w _ (h.cell 0 (by decide))
set_option maxHeartbeats 1600000 in
theorem thaiClass_any (c : Int) (w : World) (h0 : 0 ≤ c ∧ c ≤ 255) (hh : HighAt w) :
    Calls Tryd.prog 5 #[.int .u8 c] w fun e w' => e = .returned (.bool true) ∧ Below w.heap.size w w' := by
  have A1 := Lib.hid (tawake7_any w hh)
  have D2 := Lib.hid (classL_any c w h0.1 h0.2)
  have HH := Lib.hid hh
  have HL := Lib.hid hh.lt
  have hr := clF_range c
  obtain ⟨s, hs⟩ : ∃ s, clF c = s := ⟨_, rfl⟩
  rw [hs] at D2 hr
  have b0 : (s == s) = true := by simp
  obtain ⟨hr0, hr1⟩ := hr
  have O3 : ∀ w' : World, HighAt w' → Calls Tryd.prog 12 #[.int .u8 c] w' fun e w'' => e = .returned (.int .i64 s) ∧ w'' = w' := fun w' h => by rw [← hs]; exact of_any c w' h0.1 h0.2 h
  have O3 := Lib.hid O3
  clear hs hh
  go_enter Tryd.func5, Tryd.ntmps5
  go_wp2_with fail
  refine A1.out.mono ?_
  rintro e w' ⟨rfl, rfl⟩
  go_wp2_with fail
  refine (O3.out _ HH.out).mono ?_
  rintro e w1 ⟨rfl, rfl⟩
  go_wp2_with fail
  refine D2.out.mono ?_
  rintro e w2 ⟨rfl, hb⟩
  have HH2 := Lib.hid (HH.out.stay (Stay.of hb HL.out))
  go_wp2_with fail
  refine (O3.out _ HH2.out).mono ?_
  rintro e w3 ⟨rfl, rfl⟩
  go_wp2_with fail
  refine (O3.out _ HH2.out).mono ?_
  rintro e w3 ⟨rfl, rfl⟩
  go_wp2_with fail
  go_ret
  exact ⟨ret_bool (by simp), hb⟩
end Go.Proofs.YtbegfdlkhmiilaaDoor
