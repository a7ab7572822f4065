/- Layer 3: what may be a side; the longest In; a copy. -/
import Derived.Test.YthgomhmalmmhlaaDoorRuleB
namespace Go.Proofs.YthgomhmalmmhlaaDoor
set_option linter.unusedVariables false
open Go.RowKit

theorem all_getD {us : List Int} (h : ∀ j, j < us.length → 0 ≤ us.getD j 0 ∧ us.getD j 0 ≤ 1114111) : ∀ u ∈ us, 0 ≤ u ∧ u ≤ 1114111 := by
  intro u hu
  obtain ⟨j, hj, rfl⟩ := List.getElem_of_mem hu
  have := h j hj
  simpa [List.getD_eq_getElem?_getD, hj] using this
theorem side_t {us : List Int} (h1 : 1 ≤ us.length) (h2 : us.length ≤ 8) (h : ∀ j, j < us.length → 0 ≤ us.getD j 0 ∧ us.getD j 0 ≤ 1114111) : sideB us = true := by
  simp only [sideB, decide_eq_true_eq]; exact ⟨h1, h2, all_getD h⟩
theorem side_f {us : List Int} (h : ¬ (1 ≤ us.length ∧ us.length ≤ 8)) : sideB us = false := by
  simp only [sideB, decide_eq_false_iff_not]; exact fun hh => h ⟨hh.1, hh.2.1⟩
theorem side_u {us : List Int} {j : Nat} (hj : j < us.length) (h : ¬ (0 ≤ us.getD j 0 ∧ us.getD j 0 ≤ 1114111)) : sideB us = false := by
  simp only [sideB, decide_eq_false_iff_not]
  intro hh
  have := hh.2.2 _ (List.getElem_mem hj)
  apply h
  simpa [List.getD_eq_getElem?_getD, hj] using this
theorem all_next {us : List Int} {K : Nat} (h : ∀ j, j < K → 0 ≤ us.getD j 0 ∧ us.getD j 0 ≤ 1114111) (h1 : 0 ≤ us.getD K 0 ∧ us.getD K 0 ≤ 1114111) : ∀ j, j < K + 1 → 0 ≤ us.getD j 0 ∧ us.getD j 0 ≤ 1114111 := by
  intro j hj
  by_cases e : j = K
  · rw [e]; exact h1
  · exact h j (by omega)

set_option maxHeartbeats 800000 in
theorem side_any (n : Nat) (A : Option Addr) (c : Nat) (us : List Int) (B : Nat) (w : World) (hn : n = us.length) (hr : Rd w B A (us.map (Value.int .i64))) (hl : n ≤ 9223372036854775807) (v : Bool) (hv : sideB us = v) :
    Calls Tryd.prog 28 #[.slice A n c] w fun e w' => e = .returned (.bool v) ∧ w = w' := by
  have HN := Lib.hid hn
  have HR := Lib.hid hr
  have HV := Lib.hid hv
  clear hn hr hv
  by_cases h0 : n < 1
  · go_enter Tryd.func28, Tryd.ntmps28
    go_wp2
    go_ret
    exact ⟨ret_bool (HV.out.symm.trans (side_f (by rw [← HN.out]; omega))), rfl⟩
  by_cases h9 : 8 < n
  · go_enter Tryd.func28, Tryd.ntmps28
    go_wp2
    go_ret
    exact ⟨ret_bool (HV.out.symm.trans (side_f (by rw [← HN.out]; omega))), rfl⟩
  go_enter Tryd.func28, Tryd.ntmps28
  go_wp2
  go_loop [15] (fun i => ∃ K : Nat, K ≤ n ∧ i = .int .i64 K ∧ Hid (∀ j, j < K → 0 ≤ us.getD j 0 ∧ us.getD j 0 ≤ 1114111)) (fun i => n - (intOf i).toNat)
  case atStart => exact ⟨0, by omega, rfl, by intro j hj; omega⟩
  case round =>
    obtain ⟨K, hK, rfl, ht⟩ := hrel
    by_cases hKn : K = n
    · have hK' : ¬ K < n := by omega
      have ha : ∀ j, j < us.length → 0 ≤ us.getD j 0 ∧ us.getD j 0 ≤ 1114111 := fun j hj => ht.out j (by rw [hKn, HN.out]; exact hj)
      have HA := Lib.hid ha
      clear hKn ha
      go_wp2
      go_ret
      exact ⟨ret_bool (HV.out.symm.trans (side_t (by rw [← HN.out]; omega) (by rw [← HN.out]; omega) HA.out)), rfl⟩
    have hK' : K < n := by omega
    have hK1 : K < us.length := by rw [← HN.out]; exact hK'
    obtain ⟨b, o, rfl, _, hc⟩ := rd_ints HR.out (by omega)
    have k1 := hc K hK1
    obtain ⟨p, hp⟩ : ∃ p, us.getD K 0 = p := ⟨_, rfl⟩
    rw [hp] at k1
    have HP := Lib.hid hp
    clear hc hp
    by_cases h1 : p < 0
    · go_wp2
      go_ret
      exact ⟨ret_bool (HV.out.symm.trans (side_u hK1 (by rw [HP.out]; omega))), rfl⟩
    by_cases h2 : 1114111 < p
    · go_wp2
      go_ret
      exact ⟨ret_bool (HV.out.symm.trans (side_u hK1 (by rw [HP.out]; omega))), rfl⟩
    have HT := Lib.hid (all_next ht.out (by rw [HP.out]; omega))
    go_wp2
    go_round
    case rel => exact ⟨K + 1, by omega, by go_num, HT⟩
    case measure => simp [intOf]; omega
end Go.Proofs.YthgomhmalmmhlaaDoor
