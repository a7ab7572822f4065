/- Texts of this seat, one behind the other: InT. -/
import Derived.Test.YtdkcadckbjncjaaDoorZ20
import Derived.Test.YtdkcadckbjncjaaDoorRows
namespace Go.Proofs.YtdkcadckbjncjaaDoor
set_option linter.unusedVariables false
theorem inPl_data : (Rows.laid_lontar_indic_places : DataW Unit) = Lib.tabData .u8 inPl := by kernel_rfl
theorem inCd_data : (Rows.laid_lontar_indic_codes : DataW Unit) = Lib.tabData .u8 inCd := by kernel_rfl
theorem tabI_of {W : World} {r0 r1 : List (String × DataW Unit)} (h0 : laidMet Tryd.prog (("lontar/indic.places", Rows.laid_lontar_indic_places) :: r0) W) (h1 : laidMet Tryd.prog (("lontar/indic.codes", Rows.laid_lontar_indic_codes) :: r1) W) : TabI W := by
  rw [inPl_data] at h0
  rw [inCd_data] at h1
  exact ⟨Lib.tabIs_of_head (g := 1) (t := 123) (e := 5) (n := 90) (by kernel_rfl) (by kernel_rfl) (by kernel_rfl) (by kernel_rfl) (by kernel_rfl) (by kernel_rfl) h0,
    Lib.tabIs_of_head (g := 0) (t := 105) (e := 5) (n := 9) (by kernel_rfl) (by kernel_rfl) (by kernel_rfl) (by kernel_rfl) (by kernel_rfl) (by kernel_rfl) h1⟩
end Go.Proofs.YtdkcadckbjncjaaDoor
