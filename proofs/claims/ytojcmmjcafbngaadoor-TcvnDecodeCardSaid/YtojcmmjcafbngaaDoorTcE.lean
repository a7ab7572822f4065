/- Layer 12: the law's examples. -/
import Derived.Test.YtojcmmjcafbngaaDoorTcB
namespace Go.Proofs.YtojcmmjcafbngaaDoor
set_option linter.unusedVariables false
set_option linter.unusedSimpArgs false
set_option linter.unnecessarySimpa false
open Go.RowKit
set_option maxRecDepth 100000 in
set_option maxHeartbeats 1600000 in
theorem awake12_any (w : World) (hh : TcAt w) : Calls Tryd.prog 9 #[] w fun e w' => e = .returned (.bool true) ∧ Below w.heap.size w w' := by
  have D1 := Lib.hid (tdec_any 0xb8 w (by decide) hh)
  have E1 := Lib.hid (tenc_any 0x1ef5 w hh)
  have D2 := Lib.hid (tdec_any 0x80 w (by decide) hh)
  have R1 := Lib.hid (trules_any w hh)
  rw [show tcD 0xb8 = 0xe1 by decide +kernel, show tcK 0xb8 = true by decide +kernel] at D1
  rw [show tcC 0x1ef5 = 0xfe by decide +kernel, show tcE 0x1ef5 = some 0xfe by decide +kernel] at E1
  rw [show tcD 0x80 = 0 by decide +kernel, show tcK 0x80 = false by decide +kernel] at D2
  clear hh
  go_enter Tryd.func9, Tryd.ntmps9
  go_wp2_with fail
  refine D1.out.mono ?_
  rintro e w' ⟨rfl, rfl⟩
  go_wp2_with fail
  refine E1.out.mono ?_
  rintro e w' ⟨rfl, rfl⟩
  go_wp2_with fail
  refine D2.out.mono ?_
  rintro e w' ⟨rfl, rfl⟩
  go_wp2_with fail
  refine R1.out.mono ?_
  rintro e w2 ⟨v, rfl, hO, hB⟩
  obtain ⟨A, c, rfl, _⟩ := hO.form
  rw [tcR_len]
  have HB := Lib.hid hB
  clear hO hB
  go_wp2_with fail
  go_ret
  exact ⟨rfl, HB.out⟩
end Go.Proofs.YtojcmmjcafbngaaDoor
