/- Texts of this seat, one behind the other: ThaiDl. -/
import Derived.Test.YtncpokioagpclaaGreatDoorZ4
import Derived.Test.YtncpokioagpclaaGreatDoorLib
import Derived.Test.YtncpokioagpclaaGreatDoorProg
import Derived.Lib.LaidTab
namespace Go.Proofs.YtncpokioagpclaaGreatDoor
set_option linter.unusedVariables false
open Go.RowKit

theorem ret_ib {k : IntKind} {a c : Int} {b d : Bool} (h : (a, b) = (c, d)) : Ending.returned (.tuple #[.int k c, .bool d]) = .returned (.tuple #[.int k a, .bool b]) := by
  injection h with h1 h2; rw [h1, h2]

theorem byte_cases (c : Int) (h0 : 0 ≤ c) (h1 : c ≤ 255) : c ≤ 127 ∨ (128 ≤ c ∧ c < 161) ∨ (161 ≤ c ∧ c ≤ 218) ∨ (219 ≤ c ∧ c < 223) ∨ (223 ≤ c ∧ c ≤ 251) ∨ 252 ≤ c := by omega

set_option maxHeartbeats 400000 in
theorem decode_any (c : Int) (w : World) (h0 : 0 ≤ c) (h1 : c ≤ 255) :
    Calls Tryz.prog 56 #[.int .u8 c] w fun e w' => e = .returned (.tuple #[.int .i64 (scF c).1, .bool (scF c).2]) ∧ w' = w := by
  rcases byte_cases c h0 h1 with h | h | h | h | h | h
  all_goals try (obtain ⟨h, h'⟩ := h)
  all_goals
    go_enter Tryz.func56, Tryz.ntmps56
    go_wp2
    go_ret2
    exact ⟨ret_ib (by unfold scF; (repeat' split) <;> first | rfl | omega), rfl⟩

end Go.Proofs.YtncpokioagpclaaGreatDoor
