/- Texts of this seat, one behind the other: VisT, TcT, TmT. -/
import Derived.Test.YtncpokioagpclaaGreatDoorZ13
import Derived.Test.YtncpokioagpclaaGreatDoorRows
namespace Go.Proofs.YtncpokioagpclaaGreatDoor
set_option linter.unusedVariables false
theorem hv_data : (Rows.laid_lontar_viscii_high : DataW Unit) = Lib.tabData .u16 hiVL := by kernel_rfl
theorem hv_of {W : World} {rest : List (String × DataW Unit)} (h : laidMet Tryz.prog (("lontar/viscii.high", Rows.laid_lontar_viscii_high) :: rest) W) : HvAt W := by
  rw [hv_data] at h
  exact Lib.tabIs_of_head (g := 1) (t := 221) (e := 220) (n := 128) (by kernel_rfl) (by kernel_rfl) (by kernel_rfl) (by kernel_rfl) (by kernel_rfl) (by kernel_rfl) h
end Go.Proofs.YtncpokioagpclaaGreatDoor
namespace Go.Proofs.YtncpokioagpclaaGreatDoor
set_option linter.unusedVariables false
theorem tc_data : (Rows.laid_lontar_tcvn_high : DataW Unit) = Lib.tabData .u16 tcHL := by kernel_rfl
theorem tc_of {W : World} {rest : List (String × DataW Unit)} (h : laidMet Tryz.prog (("lontar/tcvn.high", Rows.laid_lontar_tcvn_high) :: rest) W) : TcAt W := by
  rw [tc_data] at h
  exact Lib.tabIs_of_head (g := 2) (t := 222) (e := 220) (n := 96) (by kernel_rfl) (by kernel_rfl) (by kernel_rfl) (by kernel_rfl) (by kernel_rfl) (by kernel_rfl) h
end Go.Proofs.YtncpokioagpclaaGreatDoor
namespace Go.Proofs.YtncpokioagpclaaGreatDoor
set_option linter.unusedVariables false
theorem tmC_data : (Rows.laid_lontar_tamil_consonants : DataW Unit) = Lib.tabData .i64 tmC := by kernel_rfl
theorem tabC_of {W : World} {r0 : List (String × DataW Unit)} (h0 : laidMet Tryz.prog (("lontar/tamil.consonants", Rows.laid_lontar_tamil_consonants) :: r0) W) : TabC W := by
  rw [tmC_data] at h0
  exact Lib.tabIs_of_head (g := 0) (t := 178) (e := 3) (n := 22) (by kernel_rfl) (by kernel_rfl) (by kernel_rfl) (by kernel_rfl) (by kernel_rfl) (by kernel_rfl) h0
end Go.Proofs.YtncpokioagpclaaGreatDoor
