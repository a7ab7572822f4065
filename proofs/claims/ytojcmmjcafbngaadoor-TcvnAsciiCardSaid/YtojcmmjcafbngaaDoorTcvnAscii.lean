/- TcvnAscii: the walk. -/
import Derived.Test.YtojcmmjcafbngaaDoorTcE
import Derived.Test.YtojcmmjcafbngaaDoorVietLs
namespace Go.Proofs.YtojcmmjcafbngaaDoor
set_option linter.unusedVariables false
set_option linter.unusedSimpArgs false
set_option linter.unnecessarySimpa false
open Go.RowKit
attribute [local go_sem] run_store_complex
theorem lV_two (k : Option Nat) : ∃ b r i, lV k = #[.int .i64 b, .complex .f64 r i] := by
  cases k with
  | none => exact ⟨0, 0, 0, rfl⟩
  | some k => exact ⟨LB k, fl (LM k), fl (LT k), rfl⟩
set_option maxRecDepth 100000 in
set_option maxHeartbeats 1600000 in
theorem tcvnAscii_any (c : Nat) (w : World) (h0 : c < 256) (hh : TcAt w) :
    Calls Tryd.prog 8 #[.int .u8 (c : Int)] w fun e w' => e = .returned (.bool true) ∧ Below w.heap.size w w' := by
  have A1 := Lib.hid (awake12_any w hh)
  have HH := Lib.hid hh
  have k3 : (0 : Int) ≤ c := by omega
  have k4 : (c : Int) < 256 := by omega
  have hw1 : IntKind.i64.wrap (c : Int) = c := by rw [IntKind.wrap_i64]; omega
  clear hh
  by_cases h : c < 128
  · have hci : (c : Int) < 128 := by omega
    go_enter Tryd.func8, Tryd.ntmps8
    go_wp2_with fail
    refine A1.out.mono ?_
    rintro e w1 ⟨rfl, hb1⟩
    have D1 := Lib.hid (tdec_any c w1 h0 (HH.out.below hb1))
    rw [tcD_low c h, tcK_low c h] at D1
    have HB1 := Lib.hid hb1
    clear hb1
    go_wp2_with fail
    refine D1.out.mono ?_
    rintro e w' ⟨rfl, rfl⟩
    go_wp2_with fail
    go_ret
    exact ⟨ret_bool (by simp), HB1.out⟩
  · have hci : ¬ (c : Int) < 128 := by omega
    go_enter Tryd.func8, Tryd.ntmps8
    go_wp2_with fail
    refine A1.out.mono ?_
    rintro e w1 ⟨rfl, hb1⟩
    have D1 := Lib.hid (tdec_any c w1 h0 (HH.out.below hb1))
    have L1 := Lib.hid (lsplit_any (tcD c) w1)
    have HB1 := Lib.hid hb1
    have hs1 := hb1.size
    cases hk : tcK c with
    | true =>
      obtain ⟨hl1, hl2⟩ := tcD_letter c h0 (by omega) hk
      have e1 : (splitF (tcD c)).isSome = true := hl1
      obtain ⟨b, r, i, hv⟩ := lV_two (splitF (tcD c))
      rw [e1, hv] at L1
      rw [hk] at D1
      obtain ⟨d, hd⟩ : ∃ d, tcD c = d := ⟨_, rfl⟩
      rw [hd] at D1 L1 hl2
      clear hb1 hk hl1 e1 hv hd A1
      go_wp2_with fail
      refine D1.out.mono ?_
      rintro e w' ⟨rfl, rfl⟩
      go_wp2_with fail
      refine L1.out.mono ?_
      rintro e w2 ⟨rfl, hb2⟩
      have HB2 := Lib.hid ((HB1.out.trans (hb2.mono hs1)).alloc (by have := HB1.out.size; have := hb2.size; omega) (.cells #[.int .i64 b, .complex .f64 r i] 42))
      clear hb2
      go_wp2_with fail
      go_ret
      exact ⟨ret_bool (by simp [hl2]), HB2.out⟩
    | false =>
      rw [hk] at D1
      rw [tcK_no hk] at D1 L1
      obtain ⟨b, r, i, hv⟩ := lV_two (splitF 0)
      obtain ⟨s, hs⟩ : ∃ s, (splitF 0).isSome = s := ⟨_, rfl⟩
      rw [hv, hs] at L1
      clear hb1 hk hv hs A1
      go_wp2_with fail
      refine D1.out.mono ?_
      rintro e w' ⟨rfl, rfl⟩
      go_wp2_with fail
      refine L1.out.mono ?_
      rintro e w2 ⟨rfl, hb2⟩
      have HB2 := Lib.hid ((HB1.out.trans (hb2.mono hs1)).alloc (by have := HB1.out.size; have := hb2.size; omega) (.cells #[.int .i64 b, .complex .f64 r i] 42))
      clear hb2
      go_wp2_with fail
      go_ret
      exact ⟨ret_bool (by simp), HB2.out⟩
theorem tcvnAscii_i (c : Int) (w : World) (h0 : 0 ≤ c ∧ c ≤ 255) (hh : TcAt w) :
    Calls Tryd.prog 8 #[.int .u8 c] w fun e w' => e = .returned (.bool true) ∧ Below w.heap.size w w' := by
  obtain ⟨k, rfl⟩ := Int.eq_ofNat_of_zero_le h0.1
  exact tcvnAscii_any k w (by omega) hh
end Go.Proofs.YtojcmmjcafbngaaDoor
