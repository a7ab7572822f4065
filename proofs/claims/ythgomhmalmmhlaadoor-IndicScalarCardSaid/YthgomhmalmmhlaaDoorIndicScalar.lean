/- IndicScalar: the walk. -/
import Derived.Test.YthgomhmalmmhlaaDoorInH
namespace Go.Proofs.YthgomhmalmmhlaaDoor
set_option linter.unusedVariables false
set_option linter.unusedSimpArgs false
set_option linter.unnecessarySimpa false
open Go.RowKit
set_option maxRecDepth 100000 in
set_option maxHeartbeats 3200000 in
theorem indicScalar_any (s p q : Int) (w : World) (hs : 0 ≤ s ∧ s ≤ 255) (hp : 0 ≤ p ∧ p ≤ 255) (hq : 0 ≤ q ∧ q ≤ 255) (hT : TabI w) :
    Calls Tryd.prog 8 #[.int .u8 s, .int .u8 p, .int .u8 q] w fun e w' => e = .returned (.bool true) ∧ Below w.heap.size w w' := by
  have A0 := Lib.hid (awake14_any w hT)
  obtain ⟨s0, s1⟩ := hs
  obtain ⟨p0, p1⟩ := hp
  obtain ⟨q0, q1⟩ := hq
  obtain ⟨a, ha⟩ : ∃ a, s % 9 = a := ⟨_, rfl⟩
  obtain ⟨d, hd⟩ : ∃ d, s / 9 = d := ⟨_, rfl⟩
  obtain ⟨b, hb⟩ : ∃ b, d % 9 = b := ⟨_, rfl⟩
  obtain ⟨x, hx⟩ : ∃ x, p % 128 = x := ⟨_, rfl⟩
  obtain ⟨y, hy⟩ : ∃ y, q % 128 = y := ⟨_, rfl⟩
  have d0 : 0 ≤ d ∧ d ≤ 28 := by omega
  have a0 : 0 ≤ a ∧ a ≤ 8 := by omega
  have b0 : 0 ≤ b ∧ b ≤ 8 := by omega
  have x0 : 0 ≤ x ∧ x ≤ 127 := by omega
  have y0 : 0 ≤ y ∧ y ≤ 127 := by omega
  have t1 : s.tmod 9 = a := by rw [Int.tmod_eq_emod_of_nonneg s0]; exact ha
  have t2 : s.tdiv 9 = d := by rw [Int.tdiv_eq_ediv_of_nonneg s0]; exact hd
  have t3 : d.tmod 9 = b := by rw [Int.tmod_eq_emod_of_nonneg d0.1]; exact hb
  have t4 : p.tmod 128 = x := by rw [Int.tmod_eq_emod_of_nonneg p0]; exact hx
  have t5 : q.tmod 128 = y := by rw [Int.tmod_eq_emod_of_nonneg q0]; exact hy
  have S1 := fun W => scalar_any a x W a0 x0
  have S2 := fun W => scalar_any b y W b0 y0
  obtain ⟨u, hu⟩ : ∃ u, 2304 + a * 128 + x = u := ⟨_, rfl⟩
  obtain ⟨v, hv⟩ : ∃ v, 2304 + b * 128 + y = v := ⟨_, rfl⟩
  rw [hu] at S1
  rw [hv] at S2
  replace S1 := Lib.hid S1
  replace S2 := Lib.hid S2
  have hF := of_yes u
  have hN := of_no 2404
  have hdiv : (u - 2304) / 128 = a := by omega
  have hmod : (u - 2304) % 128 = x := by omega
  have hlo : 2304 ≤ u := by omega
  have hhi : u < 3456 := by omega
  have a1 := a0.1
  have a2 := a0.2
  have b1 := b0.1
  have b2 := b0.2
  have d1 := d0.1
  have d2 := d0.2
  have x1 := x0.1
  have x2 := x0.2
  have y1 := y0.1
  have y2 := y0.2
  have wa : IntKind.i64.wrap a = a := by rw [IntKind.wrap_i64]; omega
  have wb : IntKind.i64.wrap b = b := by rw [IntKind.wrap_i64]; omega
  have wx : IntKind.i64.wrap x = x := by rw [IntKind.wrap_i64]; omega
  have wy : IntKind.i64.wrap y = y := by rw [IntKind.wrap_i64]; omega
  have O1 : Hid (∀ W, u ≠ 2404 → Calls Tryd.prog 13 #[.int .i64 u] W fun e w' => e = .returned (.tuple #[.int .i64 a, .int .i64 x, .bool true]) ∧ w' = W) := Lib.hid fun W h => by
    have := hF W hlo hhi h
    rwa [hdiv, hmod] at this
  have O2 := Lib.hid (fun W => hN W (by decide))
  have hcs : (a = b ∧ x = y ∧ u = v) ∨ (a = b ∧ x ≠ y ∧ u ≠ v) ∨ (a ≠ b ∧ u ≠ v) := by omega
  clear a0 b0 d0 x0 y0 hF hN hdiv hmod hlo hhi hu hv hT
  rcases hcs with ⟨h1, h2, h3⟩ | ⟨h1, h2, h3⟩ | ⟨h1, h3⟩
  · have e1 : (u == v) = true := by simp [h3]
    have e2 : (a == b) = true := by simp [h1]
    have e3 : (x == y) = true := by simp [h2]
    clear h1 h2 h3
    by_cases hd4 : u = 2404
    · have e4 : (u == 2404) = true := by simp [hd4]
      have O3 : Hid (∀ W, Calls Tryd.prog 13 #[.int .i64 u] W fun e w' => e = .returned (.tuple #[.int .i64 0, .int .i64 0, .bool false]) ∧ w' = W) := by rw [hd4]; exact O2
      clear hd4
      go_enter Tryd.func8, Tryd.ntmps8
      go_wp2_with fail
      refine A0.out.mono ?_
      rintro e w1 ⟨rfl, hb1⟩
      have HB1 := Lib.hid hb1
      clear hb1 A0
      go_wp2_with fail
      refine (S1.out w1).mono ?_
      rintro e w2 ⟨rfl, rfl⟩
      go_wp2_with fail
      refine (S2.out w2).mono ?_
      rintro e w3 ⟨rfl, rfl⟩
      go_wp2_with fail
      refine (O3.out w3).mono ?_
      rintro e w4 ⟨rfl, rfl⟩
      go_wp2_with fail
      go_ret
      exact ⟨ret_bool (by simp), HB1.out⟩
    · have O3 := Lib.hid (fun W => O1.out W hd4)
      clear hd4
      go_enter Tryd.func8, Tryd.ntmps8
      go_wp2_with fail
      refine A0.out.mono ?_
      rintro e w1 ⟨rfl, hb1⟩
      have HB1 := Lib.hid hb1
      clear hb1 A0
      go_wp2_with fail
      refine (S1.out w1).mono ?_
      rintro e w2 ⟨rfl, rfl⟩
      go_wp2_with fail
      refine (S2.out w2).mono ?_
      rintro e w3 ⟨rfl, rfl⟩
      go_wp2_with fail
      refine (O3.out w3).mono ?_
      rintro e w4 ⟨rfl, rfl⟩
      go_wp2_with fail
      go_ret
      exact ⟨ret_bool (by simp), HB1.out⟩
  · have e1 : (u == v) = false := by simp [h3]
    have e2 : (a == b) = true := by simp [h1]
    have e3 : (x == y) = false := by simp [h2]
    clear h1 h2 h3
    by_cases hd4 : u = 2404
    · have e4 : (u == 2404) = true := by simp [hd4]
      have O3 : Hid (∀ W, Calls Tryd.prog 13 #[.int .i64 u] W fun e w' => e = .returned (.tuple #[.int .i64 0, .int .i64 0, .bool false]) ∧ w' = W) := by rw [hd4]; exact O2
      clear hd4
      go_enter Tryd.func8, Tryd.ntmps8
      go_wp2_with fail
      refine A0.out.mono ?_
      rintro e w1 ⟨rfl, hb1⟩
      have HB1 := Lib.hid hb1
      clear hb1 A0
      go_wp2_with fail
      refine (S1.out w1).mono ?_
      rintro e w2 ⟨rfl, rfl⟩
      go_wp2_with fail
      refine (S2.out w2).mono ?_
      rintro e w3 ⟨rfl, rfl⟩
      go_wp2_with fail
      refine (O3.out w3).mono ?_
      rintro e w4 ⟨rfl, rfl⟩
      go_wp2_with fail
      go_ret
      exact ⟨ret_bool (by simp), HB1.out⟩
    · have O3 := Lib.hid (fun W => O1.out W hd4)
      clear hd4
      go_enter Tryd.func8, Tryd.ntmps8
      go_wp2_with fail
      refine A0.out.mono ?_
      rintro e w1 ⟨rfl, hb1⟩
      have HB1 := Lib.hid hb1
      clear hb1 A0
      go_wp2_with fail
      refine (S1.out w1).mono ?_
      rintro e w2 ⟨rfl, rfl⟩
      go_wp2_with fail
      refine (S2.out w2).mono ?_
      rintro e w3 ⟨rfl, rfl⟩
      go_wp2_with fail
      refine (O3.out w3).mono ?_
      rintro e w4 ⟨rfl, rfl⟩
      go_wp2_with fail
      go_ret
      exact ⟨ret_bool (by simp), HB1.out⟩
  · have e1 : (u == v) = false := by simp [h3]
    have e2 : (a == b) = false := by simp [h1]
    clear h1 h3
    by_cases hd4 : u = 2404
    · have e4 : (u == 2404) = true := by simp [hd4]
      have O3 : Hid (∀ W, Calls Tryd.prog 13 #[.int .i64 u] W fun e w' => e = .returned (.tuple #[.int .i64 0, .int .i64 0, .bool false]) ∧ w' = W) := by rw [hd4]; exact O2
      clear hd4
      go_enter Tryd.func8, Tryd.ntmps8
      go_wp2_with fail
      refine A0.out.mono ?_
      rintro e w1 ⟨rfl, hb1⟩
      have HB1 := Lib.hid hb1
      clear hb1 A0
      go_wp2_with fail
      refine (S1.out w1).mono ?_
      rintro e w2 ⟨rfl, rfl⟩
      go_wp2_with fail
      refine (S2.out w2).mono ?_
      rintro e w3 ⟨rfl, rfl⟩
      go_wp2_with fail
      refine (O3.out w3).mono ?_
      rintro e w4 ⟨rfl, rfl⟩
      go_wp2_with fail
      go_ret
      exact ⟨ret_bool (by simp), HB1.out⟩
    · have O3 := Lib.hid (fun W => O1.out W hd4)
      clear hd4
      go_enter Tryd.func8, Tryd.ntmps8
      go_wp2_with fail
      refine A0.out.mono ?_
      rintro e w1 ⟨rfl, hb1⟩
      have HB1 := Lib.hid hb1
      clear hb1 A0
      go_wp2_with fail
      refine (S1.out w1).mono ?_
      rintro e w2 ⟨rfl, rfl⟩
      go_wp2_with fail
      refine (S2.out w2).mono ?_
      rintro e w3 ⟨rfl, rfl⟩
      go_wp2_with fail
      refine (O3.out w3).mono ?_
      rintro e w4 ⟨rfl, rfl⟩
      go_wp2_with fail
      go_ret
      exact ⟨ret_bool (by simp), HB1.out⟩
end Go.Proofs.YthgomhmalmmhlaaDoor
