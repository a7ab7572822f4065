/- TcvnRound: the walk. -/
import Derived.Test.YtojcmmjcafbngaaDoorTcE
namespace Go.Proofs.YtojcmmjcafbngaaDoor
set_option linter.unusedVariables false
set_option linter.unusedSimpArgs false
set_option linter.unnecessarySimpa false
open Go.RowKit
set_option maxHeartbeats 1600000 in
theorem tcvnRound_any (a b : Nat) (w : World) (h0 : a < 256) (h1 : b < 256) (hh : TcAt w) :
    Calls Tryd.prog 7 #[.int .u8 (a : Int), .int .u8 (b : Int)] w fun e w' => e = .returned (.bool true) ∧ Below w.heap.size w w' := by
  have A1 := Lib.hid (awake12_any w hh)
  have HH := Lib.hid hh
  have hab : tcK a = true → tcK b = true → (tcD a == tcD b) = ((a : Int) == (b : Int)) := by
    intro ka kb
    by_cases h : a = b
    · subst h; simp
    · have h2 : tcD a ≠ tcD b := fun e => h (tcD_inj h0 h1 ka kb e)
      have h3 : (a : Int) ≠ b := by omega
      rw [beq_eq_false_iff_ne.2 h2, beq_eq_false_iff_ne.2 h3]
  have hE := fun k => tcE_self a h0 k
  have nA := fun k => tcK_no (k := a) k
  have nB := fun k => tcK_no (k := b) k
  have hD : ∀ w1, Below w.heap.size w w1 → Hid (Calls Tryd.prog 10 #[.int .u8 (a : Int)] w1 fun e w' => e = .returned (.tuple #[.int .i64 (tcD a), .bool (tcK a)]) ∧ w' = w1) := fun w1 hb => Lib.hid (tdec_any a w1 h0 (HH.out.below hb))
  have hD' : ∀ w1, Below w.heap.size w w1 → Hid (Calls Tryd.prog 10 #[.int .u8 (b : Int)] w1 fun e w' => e = .returned (.tuple #[.int .i64 (tcD b), .bool (tcK b)]) ∧ w' = w1) := fun w1 hb => Lib.hid (tdec_any b w1 h1 (HH.out.below hb))
  have hX : ∀ w1, Below w.heap.size w w1 → tcK a = true → Hid (Calls Tryd.prog 12 #[.int .i64 (tcD a)] w1 fun e w' => e = .returned (.tuple #[.int .u8 (a : Int), .bool true]) ∧ w' = w1) := fun w1 hb k => Lib.hid (by
    have := tenc_any (tcD a) w1 (HH.out.below hb)
    rw [show tcC (tcD a) = a by unfold tcC; rw [hE k], hE k] at this
    exact this)
  obtain ⟨x, hx⟩ : ∃ x, tcD a = x := ⟨_, rfl⟩
  obtain ⟨y, hy⟩ : ∃ y, tcD b = y := ⟨_, rfl⟩
  obtain ⟨A, hA⟩ : ∃ A : Int, (a : Int) = A := ⟨_, rfl⟩
  obtain ⟨B, hB⟩ : ∃ B : Int, (b : Int) = B := ⟨_, rfl⟩
  rw [hx] at nA
  rw [hy] at nB
  rw [hx, hy, hA, hB] at hab
  simp only [hx, hy, hA, hB] at hD hD' hX ⊢
  clear hE hh hx hy hA hB
  go_enter Tryd.func7, Tryd.ntmps7
  go_wp2_with fail
  refine A1.out.mono ?_
  rintro e w1 ⟨rfl, hb1⟩
  have D1 := hD w1 hb1
  have D2 := hD' w1 hb1
  have E1 := hX w1 hb1
  have HB1 := Lib.hid hb1
  clear hD hD' hX hb1 A1
  cases ka : tcK a with
  | false =>
    rw [ka] at D1
    have nx := nA ka
    subst nx
    cases kb : tcK b with
    | false =>
      rw [kb] at D2
      have ny := nB kb
      subst ny
      clear nA nB hab ka kb E1
      go_wp2_with fail
      refine D1.out.mono ?_
      rintro e w' ⟨rfl, rfl⟩
      go_wp2_with fail
      refine D2.out.mono ?_
      rintro e w' ⟨rfl, rfl⟩
      go_wp2_with fail
      go_ret
      exact ⟨ret_bool (by simp), HB1.out⟩
    | true =>
      rw [kb] at D2
      clear nA nB hab ka kb E1
      go_wp2_with fail
      refine D1.out.mono ?_
      rintro e w' ⟨rfl, rfl⟩
      go_wp2_with fail
      refine D2.out.mono ?_
      rintro e w' ⟨rfl, rfl⟩
      go_wp2_with fail
      go_ret
      exact ⟨ret_bool (by simp), HB1.out⟩
  | true =>
    rw [ka] at D1
    have E2 := E1 ka
    cases kb : tcK b with
    | false =>
      rw [kb] at D2
      have ny := nB kb
      subst ny
      clear nA nB hab ka kb E1 E2
      go_wp2_with fail
      refine D1.out.mono ?_
      rintro e w' ⟨rfl, rfl⟩
      go_wp2_with fail
      refine D2.out.mono ?_
      rintro e w' ⟨rfl, rfl⟩
      go_wp2_with fail
      go_ret
      exact ⟨ret_bool (by simp), HB1.out⟩
    | true =>
      rw [kb] at D2
      have HAB := Lib.hid (hab ka kb)
      clear nA nB hab ka kb E1
      go_wp2_with fail
      refine D1.out.mono ?_
      rintro e w' ⟨rfl, rfl⟩
      go_wp2_with fail
      refine D2.out.mono ?_
      rintro e w' ⟨rfl, rfl⟩
      go_wp2_with fail
      refine E2.out.mono ?_
      rintro e w' ⟨rfl, rfl⟩
      go_wp2_with fail
      go_ret
      exact ⟨ret_bool (by simp [HAB.out]), HB1.out⟩
theorem tcvnRound_i (a b : Int) (w : World) (h0 : 0 ≤ a ∧ a ≤ 255) (h1 : 0 ≤ b ∧ b ≤ 255) (hh : TcAt w) :
    Calls Tryd.prog 7 #[.int .u8 a, .int .u8 b] w fun e w' => e = .returned (.bool true) ∧ Below w.heap.size w w' := by
  obtain ⟨k, rfl⟩ := Int.eq_ofNat_of_zero_le h0.1
  obtain ⟨l, rfl⟩ := Int.eq_ofNat_of_zero_le h1.1
  exact tcvnRound_any k l w (by omega) (by omega) hh
end Go.Proofs.YtojcmmjcafbngaaDoor
