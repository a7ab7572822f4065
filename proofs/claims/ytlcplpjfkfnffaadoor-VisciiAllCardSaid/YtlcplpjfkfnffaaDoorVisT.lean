/- Layer 11: the card's condition gives the program's table. -/
import Derived.Test.YtlcplpjfkfnffaaDoorVisA
import Derived.Test.YtlcplpjfkfnffaaDoorRows
namespace Go.Proofs.YtlcplpjfkfnffaaDoor
set_option linter.unusedVariables false
theorem hv_data : (Rows.laid_lontar_viscii_high : DataW Unit) = Lib.tabData .u16 hiVL := by kernel_rfl
theorem hv_of {W : World} {rest : List (String × DataW Unit)} (h : laidMet Tryd.prog (("lontar/viscii.high", Rows.laid_lontar_viscii_high) :: rest) W) : HvAt W := by
  rw [hv_data] at h
  exact Lib.tabIs_of_head (g := 0) (t := 42) (e := 27) (n := 128) (by kernel_rfl) (by kernel_rfl) (by kernel_rfl) (by kernel_rfl) (by kernel_rfl) (by kernel_rfl) h
end Go.Proofs.YtlcplpjfkfnffaaDoor
