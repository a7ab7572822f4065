/- ThaiMany: the walk. -/
import Derived.Test.YtbegfdlkhmiilaaDoorThaiL
namespace Go.Proofs.YtbegfdlkhmiilaaDoor
set_option linter.unusedVariables false
open Go.RowKit
def letterB (k : Nat) : Bool := (scF (k : Int)).2 && decide (3584 < (scF (k : Int)).1)
def lettersN (K : Nat) : Nat := ((List.range K).filter letterB).length
theorem lettersN_all : lettersN 256 = 87 := by decide +kernel
theorem lettersN_succ (K : Nat) : lettersN (K + 1) = lettersN K + if letterB K then 1 else 0 := by
  unfold lettersN; rw [List.range_succ, List.filter_append, List.length_append]
  by_cases h : letterB K = true <;> simp [h]
theorem lettersN_le (K : Nat) : lettersN K ≤ K := by
  unfold lettersN; exact Nat.le_trans (List.length_filter_le _ _) (by simp)
set_option maxRecDepth 100000 in
set_option maxHeartbeats 1600000 in
theorem thaiMany_any (n : Int) (w : World) (h0 : 0 ≤ n ∧ n ≤ 255) (hh : HighAt w) :
    Calls Tryd.prog 7 #[.int .u8 n] w fun e w' => e = .returned (.bool true) ∧ Below w.heap.size w w' := by
  have A1 := Lib.hid (tawake7_any w hh)
  have k1 := h0.1
  have k2 := h0.2
  clear hh h0
  go_enter Tryd.func7, Tryd.ntmps7
  go_wp2_with fail
  refine A1.out.mono ?_
  rintro e w' ⟨rfl, rfl⟩
  go_wp2_with fail
  go_loopw [3, 4] (fun l i wr => ∃ K L : Nat, K ≤ 256 ∧ i = .int .i64 K ∧ l = .int .i64 L ∧ L ≤ K ∧ lettersN K = L ∧ wr = w') (fun _ i _ => 256 - (intOf i).toNat)
  case atStart => exact ⟨0, 0, by omega, rfl, rfl, by omega, rfl, rfl⟩
  case round =>
    obtain ⟨K, L, hK, rfl, rfl, hLK, hL, rfl⟩ := hrel
    by_cases hKn : K = 256
    · subst hKn
      have hL' : L = 87 := by rw [← hL]; exact lettersN_all
      subst hL'
      have hm1 : 0 ≤ n % 58 := by omega
      have hm2 : n % 58 < 58 := by omega
      have D1 := Lib.hid (decode_any (161 + n % 58) wr (by omega) (by omega))
      rw [show scF (161 + n % 58) = (3585 + n % 58, true) by unfold scF; rw [if_neg (by omega), if_pos (by omega), Prod.mk.injEq]; exact ⟨by omega, rfl⟩] at D1
      clear hL hLK hK
      go_wp2_with fail
      refine D1.out.mono ?_
      rintro e w' ⟨rfl, rfl⟩
      go_wp2_with fail
      go_ret
      exact ⟨ret_bool (by simp), Below.refl _ _⟩
    have hK' : K < 256 := by omega
    have k3 : (0 : Int) ≤ K := by omega
    have k4 : (K : Int) < 256 := by omega
    have hS := lettersN_succ K
    rw [hL] at hS
    unfold letterB at hS
    obtain ⟨s, ok, hs⟩ : ∃ s ok, scF (K : Int) = (s, ok) := ⟨_, _, rfl⟩
    have D1 := Lib.hid (decode_any K wr k3 (by omega))
    rw [hs] at D1 hS
    have HL := Lib.hid hLK
    have HS := Lib.hid hS
    clear hs hS hL hLK
    go_wp2_with fail
    refine D1.out.mono ?_
    rintro e w' ⟨rfl, rfl⟩
    cases ok with
    | false =>
      have HE := Lib.hid (show lettersN (K + 1) = L by have := HS.out; simpa using this)
      go_wp2
      go_roundw
      case rel => exact ⟨K + 1, L, by omega, by go_num, rfl, by have := HL.out; omega, HE.out, by trivial⟩
      case measure => simp [intOf]; omega
    | true =>
      by_cases hs : 3584 < s
      · have HE := Lib.hid (show lettersN (K + 1) = L + 1 by have := HS.out; simpa [hs] using this)
        have hL2 : L ≤ 256 := by have := HL.out; omega
        go_wp2
        go_roundw
        case rel => exact ⟨K + 1, L + 1, by omega, by go_num, by go_num, by have := HL.out; omega, HE.out, by trivial⟩
        case measure => simp [intOf]; omega
      · have HE := Lib.hid (show lettersN (K + 1) = L by have := HS.out; simpa [hs] using this)
        go_wp2
        go_roundw
        case rel => exact ⟨K + 1, L, by omega, by go_num, rfl, by have := HL.out; omega, HE.out, by trivial⟩
        case measure => simp [intOf]; omega
end Go.Proofs.YtbegfdlkhmiilaaDoor
