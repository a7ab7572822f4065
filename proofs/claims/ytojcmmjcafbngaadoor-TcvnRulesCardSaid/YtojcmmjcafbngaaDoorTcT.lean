/- Layer 12: the card's condition gives the program's table. -/
import Derived.Test.YtojcmmjcafbngaaDoorTcA
import Derived.Test.YtojcmmjcafbngaaDoorRows
namespace Go.Proofs.YtojcmmjcafbngaaDoor
set_option linter.unusedVariables false
theorem tc_data : (Rows.laid_lontar_tcvn_high : DataW Unit) = Lib.tabData .u16 tcHL := by kernel_rfl
theorem tc_of {W : World} {rest : List (String × DataW Unit)} (h : laidMet Tryd.prog (("lontar/tcvn.high", Rows.laid_lontar_tcvn_high) :: rest) W) : TcAt W := by
  rw [tc_data] at h
  exact Lib.tabIs_of_head (g := 0) (t := 49) (e := 27) (n := 96) (by kernel_rfl) (by kernel_rfl) (by kernel_rfl) (by kernel_rfl) (by kernel_rfl) (by kernel_rfl) h
end Go.Proofs.YtojcmmjcafbngaaDoor
