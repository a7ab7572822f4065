/- VisciiAscii: the walk. -/
import Derived.Test.YtlcplpjfkfnffaaDoorVisE
namespace Go.Proofs.YtlcplpjfkfnffaaDoor
set_option linter.unusedVariables false
set_option linter.unusedSimpArgs false
set_option linter.unnecessarySimpa false
open Go.RowKit
set_option maxRecDepth 100000 in
set_option maxHeartbeats 800000 in
theorem visciiAscii_any (c : Nat) (w : World) (h0 : c < 256) (hh : HvAt w) :
    Calls Tryd.prog 8 #[.int .u8 (c : Int)] w fun e w' => e = .returned (.bool true) ∧ Below w.heap.size w w' := by
  have A1 := Lib.hid (awake11_any w hh)
  have HH := Lib.hid hh
  have k3 : (0 : Int) ≤ c := by omega
  have k4 : (c : Int) < 256 := by omega
  clear hh
  by_cases h : 127 < c
  · have hd := vsD_above c h0 (by omega)
    have hci : (127 : Int) < c := by omega
    go_enter Tryd.func8, Tryd.ntmps8
    go_wp2_with fail
    refine A1.out.mono ?_
    rintro e w1 ⟨rfl, hb1⟩
    have D1 := Lib.hid (vdec_any c w1 h0 (HH.out.below hb1))
    have HB1 := Lib.hid hb1
    clear hb1
    go_wp2_with fail
    refine D1.out.mono ?_
    rintro e w' ⟨rfl, rfl⟩
    go_wp2_with fail
    go_ret
    exact ⟨ret_bool (by simp [hd]), HB1.out⟩
  · have hci : ¬ (127 : Int) < c := by omega
    have ha := vsE_ascii c (by omega)
    have hw1 : IntKind.i64.wrap (c : Int) = c := by rw [IntKind.wrap_i64]; omega
    go_enter Tryd.func8, Tryd.ntmps8
    go_wp2_with fail
    refine A1.out.mono ?_
    rintro e w1 ⟨rfl, hb1⟩
    have D1 := Lib.hid (vdec_any c w1 h0 (HH.out.below hb1))
    have E1 := Lib.hid (venc_any (c : Int) w1 (HH.out.below hb1))
    have HB1 := Lib.hid hb1
    clear hb1
    by_cases hd : 127 < vsD c
    · rw [if_pos hd] at ha
      obtain ⟨ha1, ha2⟩ := ha
      rw [show vsC (c : Int) = 0 by unfold vsC; rw [ha1], ha1] at E1
      have hc32 : (c : Int) < 32 := by omega
      obtain ⟨d, hdd⟩ : ∃ d, vsD c = d := ⟨_, rfl⟩
      rw [hdd] at hd D1
      clear hdd ha1
      go_wp2_with fail
      refine E1.out.mono ?_
      rintro e w' ⟨rfl, rfl⟩
      go_wp2_with fail
      refine D1.out.mono ?_
      rintro e w' ⟨rfl, rfl⟩
      go_wp2_with fail
      go_ret
      exact ⟨ret_bool (by simp), HB1.out⟩
    · rw [if_neg hd] at ha
      rw [show vsC (c : Int) = c by unfold vsC; rw [ha], ha] at E1
      obtain ⟨d, hdd⟩ : ∃ d, vsD c = d := ⟨_, rfl⟩
      rw [hdd] at hd D1
      clear hdd ha
      go_wp2_with fail
      refine E1.out.mono ?_
      rintro e w' ⟨rfl, rfl⟩
      go_wp2_with fail
      refine D1.out.mono ?_
      rintro e w' ⟨rfl, rfl⟩
      go_wp2_with fail
      go_ret
      exact ⟨ret_bool (by simp), HB1.out⟩
theorem visciiAscii_i (c : Int) (w : World) (h0 : 0 ≤ c ∧ c ≤ 255) (hh : HvAt w) :
    Calls Tryd.prog 8 #[.int .u8 c] w fun e w' => e = .returned (.bool true) ∧ Below w.heap.size w w' := by
  obtain ⟨k, rfl⟩ := Int.eq_ofNat_of_zero_le h0.1
  exact visciiAscii_any k w (by omega) hh
end Go.Proofs.YtlcplpjfkfnffaaDoor
