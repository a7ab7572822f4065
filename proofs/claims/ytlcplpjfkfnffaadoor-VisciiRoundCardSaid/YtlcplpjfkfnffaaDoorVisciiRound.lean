/- VisciiRound: the walk. -/
import Derived.Test.YtlcplpjfkfnffaaDoorVisE
namespace Go.Proofs.YtlcplpjfkfnffaaDoor
set_option linter.unusedVariables false
set_option linter.unusedSimpArgs false
set_option linter.unnecessarySimpa false
open Go.RowKit
set_option maxHeartbeats 800000 in
theorem visciiRound_any (a b : Nat) (w : World) (h0 : a < 256) (h1 : b < 256) (hh : HvAt w) :
    Calls Tryd.prog 7 #[.int .u8 (a : Int), .int .u8 (b : Int)] w fun e w' => e = .returned (.bool true) ∧ Below w.heap.size w w' := by
  have A1 := Lib.hid (awake11_any w hh)
  have HH := Lib.hid hh
  have hab : (vsD a == vsD b) = ((a : Int) == (b : Int)) := by
    by_cases h : a = b
    · subst h; simp
    · have h2 : vsD a ≠ vsD b := fun e => h (vsD_inj a b h0 h1 e)
      have h3 : (a : Int) ≠ b := by omega
      rw [beq_eq_false_iff_ne.2 h2, beq_eq_false_iff_ne.2 h3]
  have hE := vsE_self a h0
  clear hh
  go_enter Tryd.func7, Tryd.ntmps7
  go_wp2_with fail
  refine A1.out.mono ?_
  rintro e w1 ⟨rfl, hb1⟩
  have D1 := Lib.hid (vdec_any a w1 h0 (HH.out.below hb1))
  have D2 := Lib.hid (vdec_any b w1 h1 (HH.out.below hb1))
  have E1 := Lib.hid (venc_any (vsD a) w1 (HH.out.below hb1))
  rw [show vsC (vsD a) = a by unfold vsC; rw [hE], hE] at E1
  obtain ⟨x, hx⟩ : ∃ x, vsD a = x := ⟨_, rfl⟩
  obtain ⟨y, hy⟩ : ∃ y, vsD b = y := ⟨_, rfl⟩
  obtain ⟨A, hA⟩ : ∃ A : Int, (a : Int) = A := ⟨_, rfl⟩
  obtain ⟨B, hB⟩ : ∃ B : Int, (b : Int) = B := ⟨_, rfl⟩
  rw [hx] at D1 E1 hab
  rw [hy] at D2 hab
  rw [hA] at D1 E1 hab ⊢
  rw [hB] at D2 hab ⊢
  have HAB := Lib.hid hab
  have HB1 := Lib.hid hb1
  clear hx hy hA hB hE hab hb1
  go_wp2_with fail
  refine D1.out.mono ?_
  rintro e w' ⟨rfl, rfl⟩
  go_wp2_with fail
  refine E1.out.mono ?_
  rintro e w' ⟨rfl, rfl⟩
  go_wp2_with fail
  refine D1.out.mono ?_
  rintro e w' ⟨rfl, rfl⟩
  go_wp2_with fail
  refine D2.out.mono ?_
  rintro e w' ⟨rfl, rfl⟩
  go_wp2_with fail
  go_ret
  exact ⟨ret_bool (by simp [HAB.out]), HB1.out⟩
theorem visciiRound_i (a b : Int) (w : World) (h0 : 0 ≤ a ∧ a ≤ 255) (h1 : 0 ≤ b ∧ b ≤ 255) (hh : HvAt w) :
    Calls Tryd.prog 7 #[.int .u8 a, .int .u8 b] w fun e w' => e = .returned (.bool true) ∧ Below w.heap.size w w' := by
  obtain ⟨k, rfl⟩ := Int.eq_ofNat_of_zero_le h0.1
  obtain ⟨l, rfl⟩ := Int.eq_ofNat_of_zero_le h1.1
  exact visciiRound_any k l w (by omega) (by omega) hh
end Go.Proofs.YtlcplpjfkfnffaaDoor
