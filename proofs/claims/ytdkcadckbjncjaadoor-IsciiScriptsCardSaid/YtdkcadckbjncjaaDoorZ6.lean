/- Texts of this seat, one behind the other: UtfS. -/
import Derived.Test.YtdkcadckbjncjaaDoorProg
import Derived.Test.YtdkcadckbjncjaaDoorLib
namespace Go.Proofs.YtdkcadckbjncjaaDoor
set_option linter.unusedVariables false
open Go.RowKit

/-- is s a scalar? -/
def scB (s : Int) : Bool := decide (0 ≤ s ∧ s < 55296 ∨ 57344 ≤ s ∧ s < 1114112)
theorem scB_t {s : Int} : scB s = true ↔ (0 ≤ s ∧ s < 55296 ∨ 57344 ≤ s ∧ s < 1114112) := by simp [scB]
theorem scB_f {s : Int} : scB s = false ↔ ¬ (0 ≤ s ∧ s < 55296 ∨ 57344 ≤ s ∧ s < 1114112) := by simp only [scB, decide_eq_false_iff_not]


set_option maxHeartbeats 400000 in
theorem scalarU (s : Int) (w : World) :
    Calls Tryd.prog 40 #[.int .i64 s] w fun e w' => e = .returned (.bool (scB s)) ∧ w = w' := by
  by_cases h1 : 0 ≤ s <;> by_cases h2 : s < 55296 <;> by_cases h3 : 57343 < s <;> by_cases h4 : s ≤ 1114111
  all_goals
    go_enter Tryd.func40, Tryd.ntmps40
    go_wp2
    go_ret
    first | exact ⟨ret_bool (scB_t.2 (by omega)), rfl⟩ | exact ⟨ret_bool (scB_f.2 (by omega)), rfl⟩
end Go.Proofs.YtdkcadckbjncjaaDoor
