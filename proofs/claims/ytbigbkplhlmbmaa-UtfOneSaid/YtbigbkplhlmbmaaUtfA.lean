/- Contracts of the plain number functions of layer 1. -/
import Derived.Test.YtbigbkplhlmbmaaProg
import Derived.Test.YtbigbkplhlmbmaaLib
namespace Go.Proofs.Ytbigbkplhlmbmaa
set_option linter.unusedVariables false
open Go.RowKit

/-- is s a scalar? -/
def scB (s : Int) : Bool := decide (0 ≤ s ∧ s < 55296 ∨ 57344 ≤ s ∧ s < 1114112)
theorem scB_t {s : Int} : scB s = true ↔ (0 ≤ s ∧ s < 55296 ∨ 57344 ≤ s ∧ s < 1114112) := by simp [scB]
theorem scB_f {s : Int} : scB s = false ↔ ¬ (0 ≤ s ∧ s < 55296 ∨ 57344 ≤ s ∧ s < 1114112) := by simp only [scB, decide_eq_false_iff_not]


set_option maxHeartbeats 400000 in
theorem scalarU (s : Int) (w : World) :
    Calls Try.prog 12 #[.int .i64 s] w fun e w' => e = .returned (.bool (scB s)) ∧ w = w' := by
  by_cases h1 : 0 ≤ s <;> by_cases h2 : s < 55296 <;> by_cases h3 : 57343 < s <;> by_cases h4 : s ≤ 1114111
  all_goals
    go_enter Try.func12, Try.ntmps12
    go_wp2
    go_ret
    first | exact ⟨ret_bool (scB_t.2 (by omega)), rfl⟩ | exact ⟨ret_bool (scB_f.2 (by omega)), rfl⟩

set_option maxHeartbeats 400000 in
theorem scalarL (s : Int) (w : World) :
    Calls Try.prog 10 #[.int .i64 s] w fun e w' => e = .returned (.bool (scB s)) ∧ w = w' := by
  by_cases h1 : s ≥ 0 <;> by_cases h2 : s < 1114112 <;> by_cases h3 : s < 55296 <;> by_cases h4 : s ≥ 57344
  all_goals
    go_enter Try.func10, Try.ntmps10
    go_wp2
    go_ret
    first | exact ⟨ret_bool (scB_t.2 (by omega)), rfl⟩ | exact ⟨ret_bool (scB_f.2 (by omega)), rfl⟩

/-- how many bytes a scalar has -/
def szI (s : Int) : Int := if scB s = false then 0 else if s < 128 then 1 else if s < 2048 then 2 else if s < 65536 then 3 else 4

set_option maxHeartbeats 400000 in
theorem sizeU (s : Int) (w : World) :
    Calls Try.prog 13 #[.int .i64 s] w fun e w' => e = .returned (.int .i64 (szI s)) ∧ w = w' := by
  cases hb : scB s
  all_goals
    go_enter Try.func13, Try.ntmps13
    go_wp2_with (go_at_call 12; refine (scalarU _ _).mono ?_; rintro e w' ⟨rfl, rfl⟩)
    all_goals go_ret
    all_goals exact ⟨ret_int (by unfold szI; rw [hb]; first | rfl | (simp only [Bool.true_eq_false, if_false]; (repeat' split) <;> first | rfl | omega)), rfl⟩

set_option maxHeartbeats 400000 in
theorem nextU (s : Int) (w : World) (h0 : 0 ≤ s) (h1 : s < 2097152) :
    Calls Try.prog 32 #[.int .i64 s] w fun e w' => e = .returned (.int .u8 (128 + s % 64)) ∧ w = w' := by
  go_enter Try.func32, Try.ntmps32
  go_wp2
  go_ret
  exact ⟨ret_int (by rw [i64_and63 s (by omega) (by omega), i64_join 7 128 (s % 64) (by omega) (by omega) (by omega) (by omega) rfl (by omega)]; omega), rfl⟩

end Go.Proofs.Ytbigbkplhlmbmaa
