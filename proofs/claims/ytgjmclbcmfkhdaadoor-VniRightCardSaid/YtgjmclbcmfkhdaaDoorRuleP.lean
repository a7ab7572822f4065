/- Layer 3: Longest. -/
import Derived.Test.YtgjmclbcmfkhdaaDoorRuleE
namespace Go.Proofs.YtgjmclbcmfkhdaaDoor
set_option linter.unusedVariables false
open Go.RowKit
theorem long_next {rs : List Rl} {K : Nat} {v N M : Int} (h : longFrom N (rs.drop K) = v) (hK : K < rs.length) (hm : (if N < rs[K].1.length then (rs[K].1.length : Int) else N) = M) : longFrom M (rs.drop (K + 1)) = v := by
  rw [List.drop_eq_getElem_cons hK] at h
  simp only [longFrom] at h
  rw [hm] at h
  exact h
theorem long_end {rs : List Rl} {K : Nat} {v N : Int} (h : longFrom N (rs.drop K) = v) (hK : rs.length ≤ K) : v = N := by
  rw [List.drop_of_length_le hK] at h
  exact h.symm

set_option maxHeartbeats 800000 in
theorem longest_any (n : Nat) (A : Option Addr) (c : Nat) (rs : List Rl) (B : Nat) (w : World) (hr : RsAt w B A n c rs) (hB : B ≤ w.heap.size) (v : Int) (hv : longR rs = v) :
    Calls Tryd.prog 21 #[.slice A n c] w fun e w' => e = .returned (.int .i64 v) ∧ Below w.heap.size w w' := by
  have HR := Lib.hid hr
  have HV := Lib.hid hv
  have hn1 := hr.fits
  have hn2 := hr.small
  unfold maxLen at hn2
  clear hr hv
  go_enter Tryd.func21, Tryd.ntmps21
  go_wp2
  go_loopw [3, 8] (fun m i wr => ∃ (K : Nat) (N : Int), K ≤ n ∧ i = .int .i64 K ∧ m = .int .i64 N ∧ Below w.heap.size w wr ∧ Hid (longFrom N (rs.drop K) = v)) (fun _ i _ => n - (intOf i).toNat)
  case atStart => exact ⟨0, 0, by omega, rfl, rfl, Below.refl _ _, HV.out⟩
  case round =>
    obtain ⟨K, N, hK, rfl, rfl, hb, hf⟩ := hrel
    by_cases hKn : K = n
    · have hK' : ¬ K < n := by omega
      have HE := Lib.hid (long_end hf.out (by rw [← HR.out.len, hKn]; omega))
      clear hKn
      go_wp2
      go_ret
      exact ⟨ret_int HE.out, hb⟩
    have hK' : K < n := by omega
    have hK1 : K < rs.length := by rw [← HR.out.len]; exact hK'
    obtain ⟨b, o, rfl, hbB, A1, n1, c1, A2, n2, c2, g1, g2, e1, e2, e3, e4, f1, f2, f3, f4⟩ := HR.out.at hK1
    have k1 := (hb.cell (p := ⟨b, o + K * 2, none⟩) (by show b < _; omega)).trans g1
    have k2 := (hb.cell (p := ⟨b, o + K * 2 + 1, none⟩) (by show b < _; omega)).trans g2
    have k3 : (0 : Int) ≤ K := by omega
    have k4 : (K : Int) < n := by omega
    have HL := Lib.hid (long_next (M := if N < n1 then (n1 : Int) else N) hf.out hK1 (by rw [e1]))
    unfold maxLen at e3 f3
    clear g1 g2 e1 e4 f1 f4 hf
    by_cases hlt : N < n1
    · rw [if_pos hlt] at HL
      go_wp2
      go_roundw
      case rel => exact ⟨K + 1, _, by omega, by go_num, rfl, hb.trans (((Below.refl _ _).alloc (Nat.le_refl _) _).mono hb.size), HL⟩
      case measure => simp [intOf]; omega
    · rw [if_neg hlt] at HL
      go_wp2
      go_roundw
      case rel => exact ⟨K + 1, _, by omega, by go_num, rfl, hb.trans (((Below.refl _ _).alloc (Nat.le_refl _) _).mono hb.size), HL⟩
      case measure => simp [intOf]; omega
end Go.Proofs.YtgjmclbcmfkhdaaDoor
