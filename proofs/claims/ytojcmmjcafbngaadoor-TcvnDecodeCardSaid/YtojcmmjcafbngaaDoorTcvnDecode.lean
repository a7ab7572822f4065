/- TcvnDecode: the walk. -/
import Derived.Test.YtojcmmjcafbngaaDoorTcE
import Derived.Test.YtojcmmjcafbngaaDoorTcS
namespace Go.Proofs.YtojcmmjcafbngaaDoor
set_option linter.unusedVariables false
set_option linter.unusedSimpArgs false
set_option linter.unnecessarySimpa false
open Go.RowKit
set_option maxHeartbeats 800000 in
theorem tcvnDecode_any (c : Nat) (w : World) (h0 : c < 256) (hh : TcAt w) :
    Calls Tryd.prog 3 #[.int .u8 (c : Int)] w fun e w' => e = .returned (.bool true) ∧ Below w.heap.size w w' := by
  have A1 := Lib.hid (awake12_any w hh)
  have HH := Lib.hid hh
  have k3 : (0 : Int) ≤ c := by omega
  have k4 : (c : Int) < 256 := by omega
  have k5 : IntKind.i64.wrap (c : Int) = c := by rw [IntKind.wrap_i64]; omega
  have hD := fun (w1 : World) (h : TcAt w1) => Lib.hid (tdec_any c w1 h0 h)
  have hL := fun (w1 : World) => Lib.hid (lscal_any c w1 h0)
  obtain ⟨d, hd⟩ : ∃ d, tcD c = d := ⟨_, rfl⟩
  obtain ⟨b, hb⟩ : ∃ d, tcK c = d := ⟨_, rfl⟩
  simp only [hd, hb] at hD hL
  clear hh hd hb
  go_enter Tryd.func3, Tryd.ntmps3
  go_wp2_with fail
  refine A1.out.mono ?_
  rintro e w1 ⟨rfl, hb1⟩
  have D1 := hD w1 (HH.out.below hb1)
  have L1 := hL w1
  have HB1 := Lib.hid hb1
  clear hb1 hD hL
  go_wp2_with fail
  refine D1.out.mono ?_
  rintro e w' ⟨rfl, rfl⟩
  go_wp2_with fail
  refine L1.out.mono ?_
  rintro e w2 ⟨rfl, hb2⟩
  have HB := Lib.hid (HB1.out.trans (hb2.mono HB1.out.size))
  clear hb2 L1 D1
  go_wp2_with fail
  go_ret
  exact ⟨ret_bool (by simp), HB.out⟩
theorem tcvnDecode_i (c : Int) (w : World) (h0 : 0 ≤ c ∧ c ≤ 255) (hh : TcAt w) :
    Calls Tryd.prog 3 #[.int .u8 c] w fun e w' => e = .returned (.bool true) ∧ Below w.heap.size w w' := by
  obtain ⟨k, rfl⟩ := Int.eq_ofNat_of_zero_le h0.1
  exact tcvnDecode_any k w (by omega) hh
end Go.Proofs.YtojcmmjcafbngaaDoor
