/- Layer 10: the card's condition gives both tables. -/
import Derived.Test.YtjolbdfkkhphiaaDoorVcI
import Derived.Test.YtjolbdfkkhphiaaDoorVietG
namespace Go.Proofs.YtjolbdfkkhphiaaDoor
set_option linter.unusedVariables false
set_option linter.unusedSimpArgs false
set_option linter.unnecessarySimpa false
theorem signs_data : (Rows.laid_lontar_vcanon_signs : DataW Unit) = Lib.tabData .i64 ((List.range 8).map mkS) := by kernel_rfl
theorem tabV_of {W : World} {r0 r1 : List (String × DataW Unit)} (h0 : laidMet Tryd.prog (("lontar/viet.rows", Rows.laid_lontar_viet_rows) :: r0) W) (h1 : laidMet Tryd.prog (("lontar/vcanon.signs", Rows.laid_lontar_vcanon_signs) :: r1) W) : TabV W := by
  refine ⟨rowsV_of h0, ?_⟩
  rw [signs_data] at h1
  have := Lib.tabIs_of_head (g := 1) (t := 70) (e := 3) (n := 8) (by kernel_rfl) (by kernel_rfl) (by kernel_rfl) (by kernel_rfl) (by kernel_rfl) (by kernel_rfl) h1
  unfold Lib.TabIs at this
  unfold SigV
  rw [this]
  rfl
end Go.Proofs.YtjolbdfkkhphiaaDoor
