/- lontarlaw01.Units, without the rest of layer 1. -/
import Derived.Test.YthgomhmalmmhlaaDoorIntR
namespace Go.Proofs.YthgomhmalmmhlaaDoor
set_option linter.unusedVariables false
set_option linter.unusedSimpArgs false
set_option linter.unnecessarySimpa false
open Go.RowKit

theorem rd_dN {w : World} {B : Nat} {A : Option Addr} {xs : List Value} (h : Rd w B A xs) (m : Nat) : Rd (w.drewN m) B A xs := h.keep (Nat.le_refl _) fun _ _ _ => rfl
set_option maxHeartbeats 800000 in
theorem units_eqA (n : Nat) (A A' : Option Addr) (c c' : Nat) (zs : List Int) (B B' : Nat) (w : World) (hn : n = zs.length) (hr : Rd w B A (zs.map (Value.int .i64))) (hr' : Rd w B' A' (zs.map (Value.int .i64))) (hl : zs.length ≤ 9223372036854775807) :
    Calls Tryd.prog 25 #[.slice A n c, .slice A' n c'] w fun e w' => e = .returned (.bool true) ∧ ∃ m, w' = w.drewN m := by
  subst hn
  have HR := Lib.hid hr
  have HR' := Lib.hid hr'
  clear hr hr'
  go_enter Tryd.func25, Tryd.ntmps25
  go_wp2
  go_loopw [13] (fun i wr => ∃ K m : Nat, K ≤ zs.length ∧ i = .int .i64 K ∧ wr = w.drewN m) (fun i _ => zs.length - (intOf i).toNat)
  case atStart => exact ⟨0, 0, by omega, rfl, rfl⟩
  case round =>
    obtain ⟨K, m, hK, rfl, rfl⟩ := hrel
    by_cases hKl : K = zs.length
    · have hKl' : ¬ K < zs.length := by omega
      clear hKl
      go_wp2
      go_ret
      exact ⟨rfl, m, rfl⟩
    have hKl' : K < zs.length := by omega
    obtain ⟨b, o, rfl, _, hc⟩ := rd_ints HR.out (by omega)
    obtain ⟨b', o', rfl, _, hc'⟩ := rd_ints HR'.out (by omega)
    have k1 := hc K hKl'
    have k2 := hc' K hKl'
    have k0 : (zs.getD K 0 != zs.getD K 0) = false := by simp
    have k3 : (0 : Int) ≤ K := by omega
    have k4 : (K : Int) < zs.length := by omega
    clear hc hc'
    go_wp2_with fail
    go_quiet (fail)
    go_wp2
    go_roundw
    case rel => exact ⟨K + 1, _, by omega, by go_num, rfl⟩
    case measure => simp [intOf]; omega
/-- as the laws ask it -/
theorem units_any (n n' : Nat) (A A' : Option Addr) (c c' : Nat) (xs ys : List Int) (w : World) (he : xs = ys) (hn : n = xs.length) (hn' : n' = ys.length) (hr : RI w A xs) (hr' : RI w A' ys) (hl : xs.length ≤ 140737488355328) :
    Calls Tryd.prog 25 #[.slice A n c, .slice A' n' c'] w fun e w' => e = .returned (.bool true) ∧ Below w.heap.size w w' := by
  subst he
  rw [hn', ← hn]
  exact (units_eqA n A A' c c' xs _ _ w hn hr hr' (by omega)).mono fun e w' ⟨h, m, hm⟩ => ⟨h, by rw [hm]; exact below_dN w m⟩
end Go.Proofs.YthgomhmalmmhlaaDoor
