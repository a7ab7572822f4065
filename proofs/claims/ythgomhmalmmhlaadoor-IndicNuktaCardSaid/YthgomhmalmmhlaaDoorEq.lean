/- Two rows of units: the same? -/
import Derived.Test.YthgomhmalmmhlaaDoorRep
import Derived.Test.YthgomhmalmmhlaaDoorRuleM
namespace Go.Proofs.YthgomhmalmmhlaaDoor
set_option linter.unusedVariables false
open Go.RowKit

def eqB (a b : List Int) : Bool := decide (a = b)
theorem eqB_t {a b : List Int} (h : a = b) : eqB a b = true := by simp [eqB, h]
theorem eqB_f {a b : List Int} (h : a ≠ b) : eqB a b = false := by simp [eqB, h]
theorem take_next {a b : List Int} {K : Nat} (h : a.take K = b.take K) (ha : K < a.length) (hb : K < b.length) (he : a.getD K 0 = b.getD K 0) : a.take (K + 1) = b.take (K + 1) := by
  have e1 : a.getD K 0 = a[K] := by simp [List.getD_eq_getElem?_getD, ha]
  have e2 : b.getD K 0 = b[K] := by simp [List.getD_eq_getElem?_getD, hb]
  rw [List.take_succ_eq_append_getElem ha, List.take_succ_eq_append_getElem hb, h, ← e1, ← e2, he]
theorem take_all {a b : List Int} {K : Nat} (h : a.take K = b.take K) (ha : K = a.length) (hb : K = b.length) : a = b := by
  rw [List.take_of_length_le (by omega), List.take_of_length_le (by omega)] at h
  exact h
theorem take_not {a b : List Int} {K : Nat} (he : a.getD K 0 ≠ b.getD K 0) : a ≠ b := fun h => he (by rw [h])

set_option maxHeartbeats 800000 in
theorem units_eq (n n' : Nat) (A A' : Option Addr) (c c' : Nat) (zs zs' : List Int) (B B' : Nat) (w : World) (hn : n = zs.length) (hn' : n' = zs'.length) (hr : Rd w B A (zs.map (Value.int .i64))) (hr' : Rd w B' A' (zs'.map (Value.int .i64))) (hl : n ≤ 9223372036854775807) :
    Calls Tryd.prog 25 #[.slice A n c, .slice A' n' c'] w fun e w' => e = .returned (.bool (eqB zs zs')) ∧ ∃ m, w' = w.drewN m := by
  by_cases hnn : n = n'
  · have HR := Lib.hid hr
    have HR' := Lib.hid hr'
    have HN := Lib.hid hn
    have HN' := Lib.hid hn'
    subst hnn
    clear hr hr' hn hn'
    go_enter Tryd.func25, Tryd.ntmps25
    go_wp2
    go_loopw [13] (fun i wr => ∃ K m : Nat, K ≤ n ∧ i = .int .i64 K ∧ wr = w.drewN m ∧ Hid (zs.take K = zs'.take K)) (fun i _ => n - (intOf i).toNat)
    case atStart => exact ⟨0, 0, by omega, rfl, rfl, by simp [Hid]⟩
    case round =>
      obtain ⟨K, m, hK, rfl, rfl, ht⟩ := hrel
      by_cases hKl : K = n
      · have hKl' : ¬ K < n := by omega
        have hall := take_all ht.out (by rw [← HN.out, hKl]) (by rw [← HN'.out, hKl])
        have HA := Lib.hid (eqB_t hall)
        clear hKl hall
        go_wp2
        go_ret
        exact ⟨ret_bool HA.out, m, rfl⟩
      have hKl' : K < n := by omega
      have hK1 : K < zs.length := by rw [← HN.out]; exact hKl'
      have hK2 : K < zs'.length := by rw [← HN'.out]; exact hKl'
      obtain ⟨b, o, rfl, _, hc⟩ := rd_ints HR.out (by omega)
      obtain ⟨b', o', rfl, _, hc'⟩ := rd_ints HR'.out (by omega)
      have k1 := hc K hK1
      have k2 := hc' K hK2
      have k3 : (0 : Int) ≤ K := by omega
      have k4 : (K : Int) < n := by omega
      clear hc hc'
      obtain ⟨p, hp⟩ : ∃ p, zs.getD K 0 = p := ⟨_, rfl⟩
      obtain ⟨q, hq⟩ : ∃ q, zs'.getD K 0 = q := ⟨_, rfl⟩
      rw [hp] at k1
      rw [hq] at k2
      by_cases he : p = q
      · subst he
        have k0 : (p != p) = false := by simp
        have HT := Lib.hid (take_next ht.out hK1 hK2 (hp.trans hq.symm))
        clear hp hq
        go_wp2_with fail
        go_quiet (fail)
        go_wp2
        go_roundw
        case rel => exact ⟨K + 1, _, by omega, by go_num, rfl, HT⟩
        case measure => simp [intOf]; omega
      · have k0 : (p != q) = true := by simpa using he
        have HA := Lib.hid (eqB_f (take_not (a := zs) (b := zs') (K := K) (by rw [hp, hq]; exact he)))
        clear hp hq he
        go_wp2_with fail
        go_quiet (fail)
        go_wp2
        go_ret
        exact ⟨ret_bool HA.out, _, by rw [World.drewN_drewN]⟩
  · have h0 : ((n : Int) != n') = true := by rw [bne_iff_ne]; omega
    have HA := Lib.hid (eqB_f (a := zs) (b := zs') (by intro h; rw [h] at hn; omega))
    clear hr hr' hn hn' hnn
    go_enter Tryd.func25, Tryd.ntmps25
    go_wp2
    go_ret
    exact ⟨ret_bool HA.out, 0, rfl⟩

set_option maxHeartbeats 800000 in
theorem equal_eq (n n' : Nat) (A A' : Option Addr) (c c' : Nat) (zs zs' : List Int) (B B' : Nat) (w : World) (hn : n = zs.length) (hn' : n' = zs'.length) (hr : Rd w B A (zs.map (Value.int .i64))) (hr' : Rd w B' A' (zs'.map (Value.int .i64))) (hl : n ≤ 9223372036854775807) :
    Calls Tryd.prog 30 #[.slice A n c, .slice A' n' c'] w fun e w' => e = .returned (.bool (eqB zs zs')) ∧ ∃ m, w' = w.drewN m := by
  by_cases hnn : n = n'
  · have HR := Lib.hid hr
    have HR' := Lib.hid hr'
    have HN := Lib.hid hn
    have HN' := Lib.hid hn'
    subst hnn
    clear hr hr' hn hn'
    go_enter Tryd.func30, Tryd.ntmps30
    go_wp2
    go_loopw [13] (fun i wr => ∃ K m : Nat, K ≤ n ∧ i = .int .i64 K ∧ wr = w.drewN m ∧ Hid (zs.take K = zs'.take K)) (fun i _ => n - (intOf i).toNat)
    case atStart => exact ⟨0, 0, by omega, rfl, rfl, by simp [Hid]⟩
    case round =>
      obtain ⟨K, m, hK, rfl, rfl, ht⟩ := hrel
      by_cases hKl : K = n
      · have hKl' : ¬ K < n := by omega
        have hall := take_all ht.out (by rw [← HN.out, hKl]) (by rw [← HN'.out, hKl])
        have HA := Lib.hid (eqB_t hall)
        clear hKl hall
        go_wp2
        go_ret
        exact ⟨ret_bool HA.out, m, rfl⟩
      have hKl' : K < n := by omega
      have hK1 : K < zs.length := by rw [← HN.out]; exact hKl'
      have hK2 : K < zs'.length := by rw [← HN'.out]; exact hKl'
      obtain ⟨b, o, rfl, _, hc⟩ := rd_ints HR.out (by omega)
      obtain ⟨b', o', rfl, _, hc'⟩ := rd_ints HR'.out (by omega)
      have k1 := hc K hK1
      have k2 := hc' K hK2
      have k3 : (0 : Int) ≤ K := by omega
      have k4 : (K : Int) < n := by omega
      clear hc hc'
      obtain ⟨p, hp⟩ : ∃ p, zs.getD K 0 = p := ⟨_, rfl⟩
      obtain ⟨q, hq⟩ : ∃ q, zs'.getD K 0 = q := ⟨_, rfl⟩
      rw [hp] at k1
      rw [hq] at k2
      by_cases he : p = q
      · subst he
        have k0 : (p != p) = false := by simp
        have HT := Lib.hid (take_next ht.out hK1 hK2 (hp.trans hq.symm))
        clear hp hq
        go_wp2_with fail
        go_quiet (fail)
        go_wp2
        go_roundw
        case rel => exact ⟨K + 1, _, by omega, by go_num, rfl, HT⟩
        case measure => simp [intOf]; omega
      · have k0 : (p != q) = true := by simpa using he
        have HA := Lib.hid (eqB_f (take_not (a := zs) (b := zs') (K := K) (by rw [hp, hq]; exact he)))
        clear hp hq he
        go_wp2_with fail
        go_quiet (fail)
        go_wp2
        go_ret
        exact ⟨ret_bool HA.out, _, by rw [World.drewN_drewN]⟩
  · have h0 : ((n : Int) != n') = true := by rw [bne_iff_ne]; omega
    have HA := Lib.hid (eqB_f (a := zs) (b := zs') (by intro h; rw [h] at hn; omega))
    clear hr hr' hn hn' hnn
    go_enter Tryd.func30, Tryd.ntmps30
    go_wp2
    go_ret
    exact ⟨ret_bool HA.out, 0, rfl⟩
end Go.Proofs.YthgomhmalmmhlaaDoor
