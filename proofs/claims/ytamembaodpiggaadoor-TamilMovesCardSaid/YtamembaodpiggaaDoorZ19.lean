/- Texts of this seat, one behind the other: TmT. -/
import Derived.Test.YtamembaodpiggaaDoorZ18
import Derived.Test.YtamembaodpiggaaDoorRows
namespace Go.Proofs.YtamembaodpiggaaDoor
set_option linter.unusedVariables false
theorem tmC_data : (Rows.laid_lontar_tamil_consonants : DataW Unit) = Lib.tabData .i64 tmC := by kernel_rfl
theorem tabC_of {W : World} {r0 : List (String × DataW Unit)} (h0 : laidMet Tryd.prog (("lontar/tamil.consonants", Rows.laid_lontar_tamil_consonants) :: r0) W) : TabC W := by
  rw [tmC_data] at h0
  exact Lib.tabIs_of_head (g := 0) (t := 58) (e := 3) (n := 22) (by kernel_rfl) (by kernel_rfl) (by kernel_rfl) (by kernel_rfl) (by kernel_rfl) (by kernel_rfl) h0
end Go.Proofs.YtamembaodpiggaaDoor
