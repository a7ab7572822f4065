/- Layer 7: the card's condition gives the table of classes. -/
import Derived.Test.YtgeecngpmcjdpaaDoorThaiO
import Derived.Test.YtgeecngpmcjdpaaDoorRows
namespace Go.Proofs.YtgeecngpmcjdpaaDoor
set_option linter.unusedVariables false
theorem high_data : (Rows.laid_lontar_thai_high : DataW Unit) = Lib.tabData .i64 highL := by kernel_rfl
theorem high_of {W : World} {rest : List (String × DataW Unit)} (h : laidMet Tryd.prog (("lontar/thai.high", Rows.laid_lontar_thai_high) :: rest) W) : HighAt W := by
  rw [high_data] at h
  exact Lib.tabIs_of_head (g := 1) (t := 50) (e := 24) (n := 96) (by kernel_rfl) (by kernel_rfl) (by kernel_rfl) (by kernel_rfl) (by kernel_rfl) (by kernel_rfl) h
end Go.Proofs.YtgeecngpmcjdpaaDoor
