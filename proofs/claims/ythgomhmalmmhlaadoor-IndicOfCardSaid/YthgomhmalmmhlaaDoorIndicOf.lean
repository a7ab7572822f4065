/- IndicOf: the walk. -/
import Derived.Test.YthgomhmalmmhlaaDoorInH
namespace Go.Proofs.YthgomhmalmmhlaaDoor
set_option linter.unusedVariables false
set_option linter.unusedSimpArgs false
set_option linter.unnecessarySimpa false
open Go.RowKit
set_option maxRecDepth 100000 in
set_option maxHeartbeats 3200000 in
theorem indicOf_any (s n : Int) (w : World) (hn : 0 ≤ n ∧ n ≤ 65535) (hT : TabI w) :
    Calls Tryd.prog 4 #[.int .i64 s, .int .u16 n] w fun e w' => e = .returned (.bool true) ∧ Below w.heap.size w w' := by
  have A0 := Lib.hid (awake14_any w hT)
  obtain ⟨n0, n1⟩ := hn
  obtain ⟨r, hr⟩ : ∃ r, n % 1200 = r := ⟨_, rfl⟩
  have r0 : 0 ≤ r := by omega
  have r1 : r < 1200 := by omega
  have t1 : n.tmod 1200 = r := by rw [Int.tmod_eq_emod_of_nonneg n0]; exact hr
  have wr0 : IntKind.i64.wrap r = r := by rw [IntKind.wrap_i64]; omega
  obtain ⟨z, hz⟩ : ∃ z, 2288 + r = z := ⟨_, rfl⟩
  clear hT
  go_enter Tryd.func4, Tryd.ntmps4
  go_wp2_with fail
  refine A0.out.mono ?_
  rintro e w1 ⟨rfl, hb1⟩
  have hs1 := hb1.size
  have HB1 := Lib.hid hb1
  clear hb1 A0
  have HQ := Lib.hid (Held.new w1 #[.int .i64 s, .int .i64 z] 3)
  have HB2 := Lib.hid (HB1.out.trans ((below_alloc14 w1 (.cells #[.int .i64 s, .int .i64 z] 3)).mono hs1))
  go_wp2_with fail
  obtain ⟨W, hW⟩ : ∃ W, w1.alloc (.cells #[.int .i64 s, .int .i64 z] 3) = W := ⟨_, rfl⟩
  obtain ⟨M, hM⟩ : ∃ M, w1.heap.size = M := ⟨_, rfl⟩
  rw [hW] at HQ HB2 ⊢
  rw [hM] at HQ ⊢
  clear hW hM HB1 hs1 hz hr t1 r0 r1 wr0
  go_loopw [20] (fun i wr => ∃ K : Nat, K ≤ 2 ∧ i = .int .i64 K ∧ wr = W) (fun i _ => 2 - (intOf i).toNat)
  case atStart => exact ⟨0, by omega, rfl, rfl⟩
  case round =>
    obtain ⟨K, hK, rfl, rfl⟩ := hrel
    by_cases hKn : K = 2
    · subst hKn
      rw [show ((2 : Nat) : Int) = 2 from rfl]
      go_wp2_with fail
      go_ret
      exact ⟨rfl, HB2.out⟩
    have hK' : K < 2 := by omega
    have k3 : (0 : Int) ≤ K := by omega
    have k4 : (K : Int) < 2 := by omega
    obtain ⟨x, hx⟩ : ∃ x : Int, (#[.int .i64 s, .int .i64 z] : Array Value)[K]? = some (.int .i64 x) := by
      rcases (show K = 0 ∨ K = 1 by omega) with rfl | rfl
      · exact ⟨s, rfl⟩
      · exact ⟨z, rfl⟩
    have l0 := (HQ.out.cell K).trans hx
    clear hx hKn
    have hcs : (2304 ≤ x ∧ x < 3456 ∧ x ≠ 2404) ∨ x < 2304 ∨ 3456 ≤ x ∨ x = 2404 := by omega
    rcases hcs with ⟨h1, h2, h3⟩ | h
    · have O1 := of_yes x wr h1 h2 h3
      have h4 : (x == 2404) = false := by simpa using h3
      have h5 : (x != 2404) = true := by simpa using h3
      obtain ⟨y, hy⟩ : ∃ y, x - 2304 = y := ⟨_, rfl⟩
      have y0 : 0 ≤ y := by omega
      have y1 : y < 1152 := by omega
      obtain ⟨a, ha⟩ : ∃ a, y / 128 = a := ⟨_, rfl⟩
      obtain ⟨p, hp⟩ : ∃ p, y % 128 = p := ⟨_, rfl⟩
      have q1 : y.tdiv 128 = a := by rw [Int.tdiv_eq_ediv_of_nonneg y0]; exact ha
      have q2 : x % 128 = p := by omega
      have q3 : x.tmod 128 = p := by rw [Int.tmod_eq_emod_of_nonneg (by omega)]; exact q2
      have S1 := scalar_any a p wr (by omega) (by omega)
      rw [show 2304 + a * 128 + p = x by omega] at S1
      rw [hy, ha, hp] at O1
      replace O1 := Lib.hid O1
      replace S1 := Lib.hid S1
      clear hp h3
      go_wp2_with fail
      refine O1.out.mono ?_
      rintro e w3 ⟨rfl, rfl⟩
      go_wp2_with fail
      refine S1.out.mono ?_
      rintro e w4 ⟨rfl, rfl⟩
      go_wp2_with fail
      go_roundw
      case rel => exact ⟨K + 1, by omega, by go_num, by trivial⟩
      case measure => simp [intOf]; omega
    · have O1 := Lib.hid (of_no x wr h)
      rcases h with h | h | h
      · go_wp2_with fail
        refine O1.out.mono ?_
        rintro e w3 ⟨rfl, rfl⟩
        go_wp2_with fail
        go_roundw
        case rel => exact ⟨K + 1, by omega, by go_num, by trivial⟩
        case measure => simp [intOf]; omega
      · have g1 : 2304 ≤ x := by omega
        go_wp2_with fail
        refine O1.out.mono ?_
        rintro e w3 ⟨rfl, rfl⟩
        go_wp2_with fail
        go_roundw
        case rel => exact ⟨K + 1, by omega, by go_num, by trivial⟩
        case measure => simp [intOf]; omega
      · subst h
        go_wp2_with fail
        refine O1.out.mono ?_
        rintro e w3 ⟨rfl, rfl⟩
        go_wp2_with fail
        go_roundw
        case rel => exact ⟨K + 1, by omega, by go_num, by trivial⟩
        case measure => simp [intOf]; omega
end Go.Proofs.YthgomhmalmmhlaaDoor
