/- Layer 11: the law's examples. -/
import Derived.Test.YtlcplpjfkfnffaaDoorVisB
import Derived.Test.YtlcplpjfkfnffaaDoorVisC
namespace Go.Proofs.YtlcplpjfkfnffaaDoor
set_option linter.unusedVariables false
set_option linter.unusedSimpArgs false
set_option linter.unnecessarySimpa false
open Go.RowKit
set_option maxRecDepth 100000 in
set_option maxHeartbeats 1600000 in
theorem awake11_any (w : World) (hh : HvAt w) : Calls Tryd.prog 9 #[] w fun e w' => e = .returned (.bool true) ∧ Below w.heap.size w w' := by
  have E1 := Lib.hid (venc_any 0x1ebf w hh)
  have E2 := Lib.hid (venc_any 2 w hh)
  have D1 := Lib.hid (vdec_any 0x80 w (by decide) hh)
  have D2 := Lib.hid (vdec_any 0xff w (by decide) hh)
  have D3 := Lib.hid (vdec_any 97 w (by decide) hh)
  have R1 := Lib.hid (vrules_any w hh)
  rw [show vsC 0x1ebf = 0xaa by decide +kernel, show vsE 0x1ebf = some 0xaa by decide +kernel] at E1
  rw [show vsC 2 = 0 by decide +kernel, show vsE 2 = none by decide +kernel] at E2
  rw [show vsD 0x80 = 0x1ea0 by decide +kernel] at D1
  rw [show vsD 0xff = 0x1eee by decide +kernel] at D2
  rw [show vsD 97 = 97 by decide +kernel] at D3
  clear hh
  go_enter Tryd.func9, Tryd.ntmps9
  go_wp2_with fail
  refine E1.out.mono ?_
  rintro e w' ⟨rfl, rfl⟩
  go_wp2_with fail
  refine E2.out.mono ?_
  rintro e w' ⟨rfl, rfl⟩
  go_wp2_with fail
  refine D1.out.mono ?_
  rintro e w' ⟨rfl, rfl⟩
  go_wp2_with fail
  refine D2.out.mono ?_
  rintro e w' ⟨rfl, rfl⟩
  go_wp2_with fail
  refine D3.out.mono ?_
  rintro e w' ⟨rfl, rfl⟩
  go_wp2_with fail
  refine R1.out.mono ?_
  rintro e w2 ⟨v, rfl, hO, hB⟩
  obtain ⟨A, c, rfl, _⟩ := hO.form
  rw [vsR_len]
  have HB := Lib.hid hB
  clear hO hB
  go_wp2_with fail
  go_ret
  exact ⟨rfl, HB.out⟩
end Go.Proofs.YtlcplpjfkfnffaaDoor
