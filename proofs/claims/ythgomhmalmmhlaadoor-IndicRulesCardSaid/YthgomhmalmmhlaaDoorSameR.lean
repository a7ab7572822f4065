/- The law's Same, of rules: without the rest of layer 3. -/
import Derived.Test.YthgomhmalmmhlaaDoorRep
import Derived.Test.YthgomhmalmmhlaaDoorUnitsA
namespace Go.Proofs.YthgomhmalmmhlaaDoor
set_option linter.unusedVariables false
open Go.RowKit
set_option maxHeartbeats 1600000 in
theorem rsame_any (n n' : Nat) (A A' : Option Addr) (c c' : Nat) (rs : List Rl) (B B' : Nat) (w : World) (hr : RsAt w B A n c rs) (hr' : RsAt w B' A' n' c' rs) :
    Calls Tryd.prog 19 #[.slice A n c, .slice A' n' c'] w fun e w' => e = .returned (.bool true) ∧ ∃ m, w' = w.drewN m := by
  obtain rfl : n = n' := hr.len.trans hr'.len.symm
  have HR := Lib.hid hr
  have HR' := Lib.hid hr'
  have hn1 := hr.fits
  have hn2 := hr.small
  unfold maxLen at hn2
  clear hr hr'
  go_enter Tryd.func19, Tryd.ntmps19
  go_wp2
  go_loopw [13] (fun i wr => ∃ K m : Nat, K ≤ n ∧ i = .int .i64 K ∧ wr = w.drewN m) (fun i _ => n - (intOf i).toNat)
  case atStart => exact ⟨0, 0, by omega, rfl, rfl⟩
  case round =>
    obtain ⟨K, m, hK, rfl, hw⟩ := hrel
    have HW := Lib.hid hw
    clear hw
    by_cases hKl : K = n
    · have hKl' : ¬ K < n := by omega
      clear hKl
      go_wp2
      go_ret
      exact ⟨rfl, m, HW.out⟩
    have hKl' : K < n := by omega
    have hK1 : K < rs.length := by rw [← HR.out.len]; exact hKl'
    obtain ⟨b, o, rfl, hbB, A1, n1, c1, A2, n2, c2, g1, g2, e1, e2, e3, e4, f1, f2, f3, f4⟩ := (show RsAt wr B A n c rs by rw [HW.out]; exact HR.out.drewN m).at hK1
    obtain ⟨b', o', rfl, hbB', A3, n3, c3, A4, n4, c4, q1, q2, r1, r2, r3, r4, s1, s2, s3, s4⟩ := (show RsAt wr B' A' n c' rs by rw [HW.out]; exact HR'.out.drewN m).at hK1
    have e5 : (0 : Int) ≤ K := by omega
    have e6 : (K : Int) < n := by omega
    obtain ⟨I, hI⟩ : ∃ x, x = rs[K].1 := ⟨_, rfl⟩
    obtain ⟨O, hO⟩ : ∃ x, x = rs[K].2 := ⟨_, rfl⟩
    rw [← hI] at e1 e4 r1 r4
    rw [← hO] at f1 f4 s1 s4
    obtain rfl : n1 = n3 := e1.trans r1.symm
    obtain rfl : n2 = n4 := f1.trans s1.symm
    have M1 : Hid (I.length ≤ 9223372036854775807) := by rw [← e1]; unfold maxLen at e3; exact (show n1 ≤ 9223372036854775807 by omega)
    have M2 : Hid (O.length ≤ 9223372036854775807) := by rw [← f1]; unfold maxLen at f3; exact (show n2 ≤ 9223372036854775807 by omega)
    have E1 := Lib.hid e1
    have E4 := Lib.hid e4
    have R1 := Lib.hid r1
    have R4 := Lib.hid r4
    have F1 := Lib.hid f1
    have F4 := Lib.hid f4
    have S1 := Lib.hid s1
    have S4 := Lib.hid s4
    clear hI hO e1 e4 r1 r4 f1 f4 s1 s4 e2 e3 f2 f3 r2 r3 s2 s3
    go_wp2_with fail
    go_quiet ((first | (go_at_call_of 25 (Value.slice A1 n1 c1); exact Calls.quiet_of (units_eqA _ _ _ _ _ I B B' _ E1.out (rd_dN E4.out _) (rd_dN R4.out _) M1.out)) | (go_at_call_of 25 (Value.slice A2 n2 c2); exact Calls.quiet_of (units_eqA _ _ _ _ _ O B B' _ F1.out (rd_dN F4.out _) (rd_dN S4.out _) M2.out))))
    go_wp2
    go_roundw
    case rel => exact ⟨K + 1, _, by omega, by go_num, by rw [HW.out, World.drewN_drewN]⟩
    case measure => simp [intOf]; omega
end Go.Proofs.YthgomhmalmmhlaaDoor
