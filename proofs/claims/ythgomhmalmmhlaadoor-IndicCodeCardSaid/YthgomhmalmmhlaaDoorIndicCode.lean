/- IndicCode: the walk. -/
import Derived.Test.YthgomhmalmmhlaaDoorInH
namespace Go.Proofs.YthgomhmalmmhlaaDoor
set_option linter.unusedVariables false
set_option linter.unusedSimpArgs false
set_option linter.unnecessarySimpa false
open Go.RowKit
set_option maxRecDepth 100000 in
set_option maxHeartbeats 3200000 in
theorem indicCode_any (s n : Int) (w : World) (hs : -128 ≤ s ∧ s ≤ 127) (hn : 0 ≤ n ∧ n ≤ 255) (hT : TabI w) :
    Calls Tryd.prog 5 #[.int .i8 s, .int .u8 n] w fun e w' => e = .returned (.bool true) ∧ Below w.heap.size w w' := by
  have A0 := Lib.hid (awake14_any w hT)
  have HT := Lib.hid hT
  obtain ⟨s0, s1⟩ := hs
  obtain ⟨n0, n1⟩ := hn
  have ws : IntKind.i64.wrap s = s := by rw [IntKind.wrap_i64]; omega
  clear hT
  by_cases hc : 0 ≤ s ∧ s ≤ 8
  · obtain ⟨K, rfl⟩ : ∃ K : Nat, s = (K : Int) := ⟨s.toNat, by omega⟩
    have hK : K < 9 := by omega
    obtain ⟨m, hm⟩ : ∃ m : Nat, n % 9 = (m : Int) := ⟨(n % 9).toNat, by omega⟩
    have hm9 : m < 9 := by omega
    have m0 : (0 : Int) ≤ m := by omega
    have m1 : (m : Int) < 9 := by omega
    have hmt : n.tmod 9 = (m : Int) := by rw [Int.tmod_eq_emod_of_nonneg n0]; exact hm
    have wm : IntKind.i64.wrap (m : Int) = m := by rw [IntKind.wrap_i64]; omega
    have k0 : (0 : Int) ≤ K := by omega
    have k1 : ¬ (8 : Int) < K := by omega
    have k2 : (K : Int) < 9 := by omega
    have k3 : (K : Int) ≤ 8 := by omega
    have D1 := fun W hW => code_at K W hK hW
    have D2 := fun W hW => code_at m W hm9 hW
    have l1 := cdTab_at K hK
    have l2 := cdTab_at m hm9
    obtain ⟨d1, hd1⟩ : ∃ d, cdC K = d := ⟨_, rfl⟩
    obtain ⟨d2, hd2⟩ : ∃ d, cdC m = d := ⟨_, rfl⟩
    rw [hd1] at D1 l1
    rw [hd2] at D2 l2
    replace D1 := Lib.hid D1
    replace D2 := Lib.hid D2
    replace l1 := Lib.hid l1
    replace l2 := Lib.hid l2
    clear hd1 hd2 hc s0 s1
    go_enter Tryd.func5, Tryd.ntmps5
    go_wp2_with fail
    refine A0.out.mono ?_
    rintro e w1 ⟨rfl, hb1⟩
    have hs1 := hb1.size
    have HB1 := Lib.hid hb1
    have HT1 := Lib.hid (HT.out.below hb1)
    clear hb1 A0 HT
    go_wp2_with fail
    refine (D1.out w1 HT1.out).mono ?_
    rintro e w2 ⟨rfl, rfl⟩
    go_wp2_with fail
    refine (D2.out w2 HT1.out).mono ?_
    rintro e w3 ⟨rfl, rfl⟩
    go_wp2_with fail
    refine (lcodes_any w3).mono ?_
    rintro e w4 ⟨rfl, rfl⟩
    have c1 := ((Held.new w3 cdTab 3).cell K).trans l1.out
    have HB4 := Lib.hid (HB1.out.trans ((below_alloc14 w3 (.cells cdTab 3)).mono hs1))
    obtain ⟨M, hM⟩ : ∃ M, w3.heap.size = M := ⟨_, rfl⟩
    obtain ⟨W, hW⟩ : ∃ W, w3.alloc (.cells cdTab 3) = W := ⟨_, rfl⟩
    rw [hW] at c1 HB4 ⊢
    rw [hM] at c1 ⊢
    clear hW hM HB1 HT1 hs1
    go_wp2_with fail
    refine (lcodes_any W).mono ?_
    rintro e w5 ⟨rfl, rfl⟩
    have c2 := ((Held.new W cdTab 3).cell m).trans l2.out
    have HB5 := Lib.hid (HB4.out.trans ((below_alloc14 W (.cells cdTab 3)).mono HB4.out.size))
    go_wp2_with fail
    go_ret
    exact ⟨ret_bool (by simp), HB5.out⟩
  · have D1 := Lib.hid (fun W => code_no s W (by omega))
    rcases (show s < 0 ∨ 8 < s by omega) with h | h
    · clear hc
      go_enter Tryd.func5, Tryd.ntmps5
      go_wp2_with fail
      refine A0.out.mono ?_
      rintro e w1 ⟨rfl, hb1⟩
      have HB1 := Lib.hid hb1
      clear hb1 A0
      go_wp2_with fail
      refine (D1.out w1).mono ?_
      rintro e w2 ⟨rfl, rfl⟩
      go_wp2_with fail
      go_ret
      exact ⟨rfl, HB1.out⟩
    · have g : ¬ s < 0 := by omega
      clear hc
      go_enter Tryd.func5, Tryd.ntmps5
      go_wp2_with fail
      refine A0.out.mono ?_
      rintro e w1 ⟨rfl, hb1⟩
      have HB1 := Lib.hid hb1
      clear hb1 A0
      go_wp2_with fail
      refine (D1.out w1).mono ?_
      rintro e w2 ⟨rfl, rfl⟩
      go_wp2_with fail
      go_ret
      exact ⟨rfl, HB1.out⟩
end Go.Proofs.YthgomhmalmmhlaaDoor
