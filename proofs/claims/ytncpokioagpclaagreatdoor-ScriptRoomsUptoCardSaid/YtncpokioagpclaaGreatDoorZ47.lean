/- Texts of this seat, one behind the other: LowT. -/
import Derived.Test.YtncpokioagpclaaGreatDoorZ39
import Derived.Test.YtncpokioagpclaaGreatDoorRows
import Derived.PinnedBridge
namespace Go.Proofs.YtncpokioagpclaaGreatDoor
set_option linter.unusedVariables false
open Go.RowKit Go.Lib
theorem case_of {l : List (String × DataW Unit)} {W : World} (h : laidMet Tryz.prog (("unicode.CaseRanges", Rows.laid_unicode_CaseRanges) :: l) W) : CaseVar 5 caseA W :=
  caseVar_of_reads (ρ := laysLow_ren) { laysLow with } laysLow.t206 ⟨by kernel_rfl, by kernel_rfl, by kernel_rfl, by kernel_rfl, by kernel_rfl, by kernel_rfl⟩ (Pinned.caseRanges_eq ▸ Lib.laidMet.reads h (.head _))
theorem utf_of {l l' : List (String × DataW Unit)} {W : World} (h : laidMet Tryz.prog (("unicode/utf8.first", Rows.laid_unicode_utf8_first) :: l) W) (h' : laidMet Tryz.prog (("unicode/utf8.acceptRanges", Rows.laid_unicode_utf8_acceptRanges) :: l') W) : Lib.Utf8Tabs 7 8 W :=
  utf8Tabs_of_reads (ρ := laysLow_ren) { laysLow with } ⟨by kernel_rfl, by kernel_rfl, by kernel_rfl, by kernel_rfl, by kernel_rfl, by kernel_rfl, by kernel_rfl⟩ (Pinned.utf8First_eq ▸ Lib.laidMet.reads h (.head _)) ((show Rows.laid_unicode_utf8_acceptRanges = acceptData by kernel_rfl) ▸ Lib.laidMet.reads h' (.head _))
end Go.Proofs.YtncpokioagpclaaGreatDoor
