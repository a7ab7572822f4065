/- Layer 8: the card's condition gives both tables. -/
import Derived.Test.YtgeecngpmcjdpaaDoorWttA
import Derived.Test.YtgeecngpmcjdpaaDoorThaiT
import Derived.Test.YtgeecngpmcjdpaaDoorRows
namespace Go.Proofs.YtgeecngpmcjdpaaDoor
set_option linter.unusedVariables false
theorem rows_data : (Rows.laid_lontar_wtt_rows : DataW Unit) = strData kdR := by kernel_rfl
theorem rows_of {W : World} {rest : List (String × DataW Unit)} (h : laidMet Tryd.prog (("lontar/wtt.rows", Rows.laid_lontar_wtt_rows) :: rest) W) : RowsAt W := by
  rw [rows_data] at h
  exact strs_of_head (g := 0) (t := 46) (e := 9) (n := 17) (by kernel_rfl) (by kernel_rfl) (by kernel_rfl) (by kernel_rfl) (by kernel_rfl) (by kernel_rfl) h
end Go.Proofs.YtgeecngpmcjdpaaDoor
