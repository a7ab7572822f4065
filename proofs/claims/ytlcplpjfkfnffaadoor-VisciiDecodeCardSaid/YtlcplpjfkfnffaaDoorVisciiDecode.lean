/- VisciiDecode: the walk. -/
import Derived.Test.YtlcplpjfkfnffaaDoorVisE
namespace Go.Proofs.YtlcplpjfkfnffaaDoor
set_option linter.unusedVariables false
set_option linter.unusedSimpArgs false
set_option linter.unnecessarySimpa false
open Go.RowKit
set_option maxHeartbeats 800000 in
theorem visciiDecode_any (c : Nat) (w : World) (h0 : c < 256) (hh : HvAt w) :
    Calls Tryd.prog 3 #[.int .u8 (c : Int)] w fun e w' => e = .returned (.bool true) ∧ Below w.heap.size w w' := by
  have A1 := Lib.hid (awake11_any w hh)
  have HH := Lib.hid hh
  have k3 : (0 : Int) ≤ c := by omega
  have k4 : (c : Int) < 256 := by omega
  clear hh
  go_enter Tryd.func3, Tryd.ntmps3
  go_wp2_with fail
  refine A1.out.mono ?_
  rintro e w1 ⟨rfl, hb1⟩
  have D1 := Lib.hid (vdec_any c w1 h0 (HH.out.below hb1))
  obtain ⟨d, hd⟩ : ∃ d, vsD c = d := ⟨_, rfl⟩
  rw [hd] at D1
  have HD := Lib.hid hd
  have HB1 := Lib.hid hb1
  clear hd hb1
  go_wp2_with fail
  refine D1.out.mono ?_
  rintro e w' ⟨rfl, rfl⟩
  go_wp2_with fail
  refine (vtab_any w').mono ?_
  rintro e w2 ⟨v, rfl, hI, hb2⟩
  obtain ⟨g, cp, rfl, _, _, hc⟩ := hI.vis
  have hc1 := hc c h0
  rw [HD.out] at hc1
  have HB := Lib.hid (HB1.out.trans (hb2.mono HB1.out.size))
  clear hI hb2 hc
  go_wp2_with fail
  go_ret
  exact ⟨ret_bool (by simp), HB.out⟩
theorem visciiDecode_i (c : Int) (w : World) (h0 : 0 ≤ c ∧ c ≤ 255) (hh : HvAt w) :
    Calls Tryd.prog 3 #[.int .u8 c] w fun e w' => e = .returned (.bool true) ∧ Below w.heap.size w w' := by
  obtain ⟨k, rfl⟩ := Int.eq_ofNat_of_zero_le h0.1
  exact visciiDecode_any k w (by omega) hh
end Go.Proofs.YtlcplpjfkfnffaaDoor
