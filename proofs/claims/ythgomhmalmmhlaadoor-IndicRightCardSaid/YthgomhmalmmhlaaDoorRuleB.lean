/- Layer 3: where a rule is; what may be a side; the longest In; a copy. -/
import Derived.Test.YthgomhmalmmhlaaDoorEq
namespace Go.Proofs.YthgomhmalmmhlaaDoor
set_option linter.unusedVariables false
open Go.RowKit

theorem find_next {rs : List Rl} {u : List Int} {K : Nat} {v : Int} (h : findFrom K (rs.drop K) u = v) (hK : K < rs.length) (hn : rs[K].1 ≠ u) : findFrom ((K + 1 : Nat) : Int) (rs.drop (K + 1)) u = v := by
  rw [List.drop_eq_getElem_cons hK] at h
  simp only [findFrom, if_neg hn] at h
  rw [show ((K + 1 : Nat) : Int) = (K : Int) + 1 from by omega]
  exact h
theorem find_here {rs : List Rl} {u : List Int} {K : Nat} {v : Int} (h : findFrom K (rs.drop K) u = v) (hK : K < rs.length) (hn : rs[K].1 = u) : v = K := by
  rw [List.drop_eq_getElem_cons hK] at h
  simp only [findFrom, if_pos hn] at h
  exact h.symm
theorem find_end {rs : List Rl} {u : List Int} {K : Nat} {v : Int} (h : findFrom K (rs.drop K) u = v) (hK : rs.length ≤ K) : v = -1 := by
  rw [List.drop_of_length_le hK] at h
  exact h.symm
theorem below_dr {B : Nat} {w w' : World} (h : Below B w w') (m : Nat) : Below B w (w'.drewN m) := ⟨h.os, h.tape, h.output, h.size, h.block⟩

set_option maxHeartbeats 800000 in
theorem find_any (n n' : Nat) (A A' : Option Addr) (c c' : Nat) (rs : List Rl) (u : List Int) (B B' : Nat) (w : World) (hr : RsAt w B A n c rs) (hn' : n' = u.length) (hr' : Rd w B' A' (u.map (Value.int .i64))) (hl' : n' ≤ c') (hc' : c' ≤ maxLen) (hB : B ≤ w.heap.size) (hB' : B' ≤ w.heap.size) (v : Int) (hv : findR rs u = v) :
    Calls Tryd.prog 24 #[.slice A n c, .slice A' n' c'] w fun e w' => e = .returned (.int .i64 v) ∧ Below w.heap.size w w' := by
  have HR := Lib.hid hr
  have HR' := Lib.hid hr'
  have HN' := Lib.hid hn'
  have HV := Lib.hid hv
  have hn1 := hr.fits
  have hn2 := hr.small
  unfold maxLen at hn2 hc'
  clear hr hr' hn' hv
  go_enter Tryd.func24, Tryd.ntmps24
  go_wp2
  go_loopw [9] (fun i wr => ∃ K : Nat, K ≤ n ∧ i = .int .i64 K ∧ Below w.heap.size w wr ∧ Hid (findFrom K (rs.drop K) u = v)) (fun i _ => n - (intOf i).toNat)
  case atStart => exact ⟨0, by omega, rfl, Below.refl _ _, HV.out⟩
  case round =>
    obtain ⟨K, hK, rfl, hb, hf⟩ := hrel
    by_cases hKn : K = n
    · have hK' : ¬ K < n := by omega
      have HE := Lib.hid (find_end hf.out (by rw [← HR.out.len, hKn]; omega))
      clear hKn
      go_wp2
      go_ret
      exact ⟨ret_int HE.out, hb⟩
    have hK' : K < n := by omega
    have hK1 : K < rs.length := by rw [← HR.out.len]; exact hK'
    obtain ⟨b, o, rfl, hbB, A1, n1, c1, A2, n2, c2, g1, g2, e1, e2, e3, e4, f1, f2, f3, f4⟩ := HR.out.at hK1
    have k1 := (hb.cell (p := ⟨b, o + K * 2, none⟩) (by show b < _; omega)).trans g1
    have k2 := (hb.cell (p := ⟨b, o + K * 2 + 1, none⟩) (by show b < _; omega)).trans g2
    have k3 : (0 : Int) ≤ K := by omega
    have k4 : (K : Int) < n := by omega
    have E1 := Lib.hid e1
    have E4 := Lib.hid (e4.below (hb.mono hB) (Nat.le_refl _))
    have R4 := Lib.hid (HR'.out.below (hb.mono hB') (Nat.le_refl _))
    unfold maxLen at e3 f3
    clear g1 g2 e1 e4 f1 f4
    by_cases he : rs[K].1 = u
    · have HE := Lib.hid (find_here hf.out hK1 he)
      have HQ := Lib.hid (eqB_t he)
      clear he
      go_wp2_with fail
      refine (equal_eq n1 n' A1 A' c1 c' rs[K].1 u B B' _ E1.out HN'.out ?_ ?_ (by omega)).mono ?_
      · exact E4.out.below (((Below.refl _ _).alloc (Nat.le_refl _) _).mono (Nat.le_trans hB hb.size)) (Nat.le_refl _)
      · exact R4.out.below (((Below.refl _ _).alloc (Nat.le_refl _) _).mono (Nat.le_trans hB' hb.size)) (Nat.le_refl _)
      rintro e w1 ⟨rfl, m, rfl⟩
      rw [HQ.out]
      go_wp2
      go_ret
      exact ⟨ret_int HE.out, below_dr (hb.trans (((Below.refl _ _).alloc (Nat.le_refl _) _).mono hb.size)) m⟩
    · have HE := Lib.hid (find_next hf.out hK1 he)
      have HQ := Lib.hid (eqB_f he)
      clear he
      go_wp2_with fail
      refine (equal_eq n1 n' A1 A' c1 c' rs[K].1 u B B' _ E1.out HN'.out ?_ ?_ (by omega)).mono ?_
      · exact E4.out.below (((Below.refl _ _).alloc (Nat.le_refl _) _).mono (Nat.le_trans hB hb.size)) (Nat.le_refl _)
      · exact R4.out.below (((Below.refl _ _).alloc (Nat.le_refl _) _).mono (Nat.le_trans hB' hb.size)) (Nat.le_refl _)
      rintro e w1 ⟨rfl, m, rfl⟩
      rw [HQ.out]
      go_wp2
      go_roundw
      case rel => exact ⟨K + 1, by omega, by go_num, below_dr (hb.trans (((Below.refl _ _).alloc (Nat.le_refl _) _).mono hb.size)) m, HE⟩
      case measure => simp [intOf]; omega
end Go.Proofs.YthgomhmalmmhlaaDoor
