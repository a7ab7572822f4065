/- The law's Same answers true of tokens that are the same. -/
import Derived.Test.YtmjcnopkckkaoaaTok
import Derived.Test.YtmjcnopkckkaoaaTrieQ
namespace Go.Proofs.Ytmjcnopkckkaoaa
set_option linter.unusedVariables false
open Go.RowKit
theorem TkAt.drewN {w : World} {B : Nat} {A : Option Addr} {n c : Nat} {ts : List Tk} (h : TkAt w B A n c ts) (m : Nat) : TkAt (w.drewN m) B A n c ts := h.below (below_drewN (B := B) (w := w) m) (Nat.le_refl _)
set_option maxHeartbeats 1600000 in
theorem same_tk (n : Nat) (A A' : Option Addr) (c c' : Nat) (ts : List Tk) (B B' : Nat) (w : World) (hr : TkAt w B A n c ts) (hr' : TkAt w B' A' n c' ts) :
    Calls Try.prog 14 #[.slice A n c, .slice A' n c'] w fun e w' => e = .returned (.bool true) ∧ ∃ m, w' = w.drewN m := by
  have hn := hr.len
  have hc1 := hr.fits
  have hc2 := hr.small
  unfold maxLen at hc2
  have HN := Lib.hid hn
  have HR := Lib.hid hr
  have HR' := Lib.hid hr'
  clear hr hr' hn
  go_enter Try.func14, Try.ntmps14
  go_wp2
  go_loopw [13] (fun i wr => ∃ K m : Nat, K ≤ n ∧ i = .int .i64 K ∧ Hid (wr = w.drewN m)) (fun i _ => n - (intOf i).toNat)
  case atStart => exact ⟨0, 0, by omega, rfl, rfl⟩
  case round =>
    obtain ⟨K, m, hK, rfl, HW⟩ := hrel
    by_cases hKl : K = n
    · have hKl' : ¬ K < n := by omega
      clear hKl
      go_wp2
      go_ret
      exact ⟨rfl, m, HW.out⟩
    have hKl' : K < n := by omega
    have hK1 : K < ts.length := by rw [← HN.out]; exact hKl'
    obtain ⟨b, o, rfl, hb, A1, n1, c1, k1, k2, k3, k4, l1, _, hm1, hr1⟩ := TkAt.at (w := wr) (by rw [HW.out]; exact HR.out.drewN m) hK1
    obtain ⟨b', o', rfl, hb', A2, n2, c2, q1, q2, q3, q4, l2, _, hm2, hr2⟩ := TkAt.at (w := wr) (by rw [HW.out]; exact HR'.out.drewN m) hK1
    obtain ⟨P, hP⟩ : ∃ x, x = ts[K].pos := ⟨_, rfl⟩
    obtain ⟨S, hS⟩ : ∃ x, x = ts[K].size := ⟨_, rfl⟩
    obtain ⟨E, hE⟩ : ∃ x, x = ts[K].err := ⟨_, rfl⟩
    obtain ⟨O, hO⟩ : ∃ x, x = ts[K].out := ⟨_, rfl⟩
    rw [← hP] at k1 q1
    rw [← hS] at k2 q2
    rw [← hE] at k4 q4
    rw [← hO] at l1 l2 hr1 hr2
    have l3 : n2 = n1 := by rw [l1, l2]
    subst l3
    have HR1 := Lib.hid hr1
    have HR2 := Lib.hid hr2
    have L1 := Lib.hid l1
    have L2 : Hid (n2 ≤ 9223372036854775807) := by unfold maxLen at hm1; exact (show n2 ≤ 9223372036854775807 by omega)
    clear hP hS hE hO hr1 hr2 l1 l2 hm1 hm2
    have e1 : (P != P) = false := by simp
    have e2 : (S != S) = false := by simp
    have e3 : (E != E) = false := by simp
    have e4 : (0 : Int) ≤ K := by omega
    have e5 : (K : Int) < n := by omega
    have HQ := Lib.hid (show eqB O O = true by simp [eqB])
    go_wp2_with fail
    go_quiet ((go_at_call 30; exact Calls.quiet_of (units_v n2 n2 _ _ _ _ O O B B' _ true HQ.out L1.out L1.out (HR1.out.below (below_drewN (B := B) _) (Nat.le_refl _)) (HR2.out.below (below_drewN (B := B') _) (Nat.le_refl _)) L2.out)))
    go_wp2
    go_roundw
    case rel => exact ⟨K + 1, _, by omega, by go_num, by rw [HW.out, World.drewN_drewN]; rfl⟩
    case measure => simp [intOf]; omega
theorem same_below (n : Nat) (A A' : Option Addr) (c c' : Nat) (ts : List Tk) (B B' : Nat) (w : World) (hr : TkAt w B A n c ts) (hr' : TkAt w B' A' n c' ts) :
    Calls Try.prog 14 #[.slice A n c, .slice A' n c'] w fun e w' => e = .returned (.bool true) ∧ Below w.heap.size w w' :=
  (same_tk n A A' c c' ts B B' w hr hr').mono fun e w' ⟨h, m, hm⟩ => ⟨h, by rw [hm]; exact below_drewN m⟩
end Go.Proofs.Ytmjcnopkckkaoaa
