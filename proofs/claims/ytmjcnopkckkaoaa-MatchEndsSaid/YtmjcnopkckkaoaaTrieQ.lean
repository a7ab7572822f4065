/- Layer 4: the law's Longest. -/
import Derived.Test.YtmjcnopkckkaoaaTrieP
namespace Go.Proofs.Ytmjcnopkckkaoaa
set_option linter.unusedVariables false
open Go.RowKit
theorem units_v (n n' : Nat) (A A' : Option Addr) (c c' : Nat) (zs zs' : List Int) (B B' : Nat) (w : World) (v : Bool) (hv : eqB zs zs' = v) (hn : n = zs.length) (hn' : n' = zs'.length) (hr : Rd w B A (zs.map (Value.int .i64))) (hr' : Rd w B' A' (zs'.map (Value.int .i64))) (hl : n ≤ 9223372036854775807) :
    Calls Try.prog 30 #[.slice A n c, .slice A' n' c'] w fun e w' => e = .returned (.bool v) ∧ ∃ m, w' = w.drewN m := by
  subst hv; exact units_eq n n' A A' c c' zs zs' B B' w hn hn' hr hr' hl
theorem rd_tk {w : World} {B : Nat} {A : Option Addr} {zs : List Int} (k : Nat) (h : Rd w B A (zs.map (Value.int .i64))) : Rd w B A ((zs.take k).map (Value.int .i64)) := by
  have := h.take k; rw [← List.map_take] at this; exact this
theorem ll_next {rs : List Rl} {us : List Int} {K : Nat} {k n k' n' : Int} {o o' : Bool} {res : Int × Int × Bool} (h : longLFrom K k n o us (rs.drop K) = res) (hK : K < rs.length)
    (hk : (if hitL rs[K] us n = true then (K : Int) else k) = k') (hn : (if hitL rs[K] us n = true then (rs[K].1.length : Int) else n) = n') (ho : (o || openL rs[K] us) = o') : longLFrom ((K + 1 : Nat) : Int) k' n' o' us (rs.drop (K + 1)) = res := by
  rw [List.drop_eq_getElem_cons hK] at h
  simp only [longLFrom] at h
  rw [hk, hn, ho] at h
  exact h
theorem ll_end {rs : List Rl} {us : List Int} {K : Nat} {k n a b : Int} {o c : Bool} (h : longLFrom K k n o us (rs.drop K) = (a, b, c)) (hK : rs.length ≤ K) : a = k ∧ b = n ∧ c = o := by
  rw [List.drop_of_length_le hK] at h
  simp only [longLFrom, Prod.mk.injEq] at h
  exact ⟨h.1.symm, h.2.1.symm, h.2.2.symm⟩

set_option maxHeartbeats 6400000 in
theorem llongest_any (n n' : Nat) (A A' : Option Addr) (c c' : Nat) (rs : List Rl) (us : List Int) (B B' : Nat) (w : World) (hr : RsAt w B A n c rs) (hn' : n' = us.length) (hr' : Rd w B' A' (us.map (Value.int .i64))) (hl' : n' ≤ c') (hc' : c' ≤ maxLen) (hB : B ≤ w.heap.size) (hB' : B' ≤ w.heap.size) (kf mf : Int) (of_ : Bool) (hv : longL rs us = (kf, mf, of_)) :
    Calls Try.prog 18 #[.slice A n c, .slice A' n' c'] w fun e w' => e = .returned (.tuple #[.int .i64 kf, .int .i64 mf, .bool of_]) ∧ Below w.heap.size w w' := by
  have HR := Lib.hid hr
  have HR' := Lib.hid hr'
  have HN' := Lib.hid hn'
  have HV := Lib.hid hv
  have hn1 := hr.fits
  have hn2 := hr.small
  unfold maxLen at hn2 hc'
  clear hr hr' hn' hv
  go_enter Try.func18, Try.ntmps18
  go_wp2
  go_loopw [7, 8, 9, 14] (fun sk sn so i wr => ∃ (K : Nat) (k n0 : Int) (o : Bool), K ≤ n ∧ i = .int .i64 K ∧ sk = .int .i64 k ∧ sn = .int .i64 n0 ∧ so = .bool o ∧ Below w.heap.size w wr ∧ Hid (longLFrom K k n0 o us (rs.drop K) = (kf, mf, of_))) (fun _ _ _ i _ => n - (intOf i).toNat)
  case atStart => exact ⟨0, -1, 0, false, by omega, rfl, rfl, rfl, rfl, Below.refl _ _, HV.out⟩
  case round =>
    obtain ⟨K, k0, n0, o, hK, rfl, rfl, rfl, rfl, hb, hf⟩ := hrel
    have hsz := hb.size
    by_cases hKn : K = n
    · have hK' : ¬ K < n := by omega
      have HE := Lib.hid (ll_end hf.out (by rw [← HR.out.len, hKn]; omega))
      clear hKn hf
      go_wp2
      go_ret3
      exact ⟨ret_trip HE.out, hb⟩
    have hK' : K < n := by omega
    have hK1 : K < rs.length := by rw [← HR.out.len]; exact hK'
    obtain ⟨b, of2, rfl, hbB, A1, n1, c1, A2, n2, c2, g1, g2, e1, e2, e3, e4, f1, f2, f3, f4⟩ := HR.out.at hK1
    have k1 := (hb.cell (p := ⟨b, of2 + K * 2, none⟩) (by show b < _; omega)).trans g1
    have k2 := (hb.cell (p := ⟨b, of2 + K * 2 + 1, none⟩) (by show b < _; omega)).trans g2
    have k3 : (0 : Int) ≤ K := by omega
    have k4 : (K : Int) < n := by omega
    obtain ⟨In, hIn⟩ : ∃ In, In = rs[K].1 := ⟨_, rfl⟩
    have hhit : hitL rs[K] us n0 = decide (n1 ≤ n' ∧ us.take n1 = In ∧ n0 < n1) := by unfold hitL; rw [← hIn, ← HN'.out, hIn, ← e1]
    have hop : openL rs[K] us = decide (n' < n1 ∧ In.take n' = us) := by unfold openL; rw [← e1, ← HN'.out, hIn]
    rw [← hIn] at e1 e4
    have hba : Below wr.heap.size wr (wr.alloc (.cells #[.slice A1 n1 c1, .slice A2 n2 c2] 53)) := (Below.refl _ _).alloc (Nat.le_refl _) _
    have E1 := Lib.hid e1
    have E4 := Lib.hid e4
    have HH := Lib.hid hhit
    have HO := Lib.hid hop
    have HBA := Lib.hid hba
    have hll := fun (k' n2 : Int) (o' : Bool) => ll_next (k' := k') (n' := n2) (o' := o') hf.out hK1
    have HLL := Lib.hid hll
    have M1 : Hid (n1 ≤ 9223372036854775807) := by unfold maxLen at e3; exact (show n1 ≤ 9223372036854775807 by omega)
    have hnn : rs[K].1.length = n1 := by rw [← hIn, e1]
    have HNN := Lib.hid hnn
    have hE5 : ∀ q, Rd ((wr.alloc (.cells #[.slice A1 n1 c1, .slice A2 n2 c2] 53)).drewN q) B A1 (In.map (Value.int .i64)) := fun q => E4.out.below ((hb.trans (below_dr (HBA.out.mono hsz) q)).mono hB) (Nat.le_refl _)
    have hR5 : ∀ q, Rd ((wr.alloc (.cells #[.slice A1 n1 c1, .slice A2 n2 c2] 53)).drewN q) B' A' (us.map (Value.int .i64)) := fun q => HR'.out.below ((hb.trans (below_dr (HBA.out.mono hsz) q)).mono hB') (Nat.le_refl _)
    have HE5 := Lib.hid hE5
    have HR5 := Lib.hid hR5
    unfold maxLen at e3 f3
    clear g1 g2 e1 e4 f1 f4 hIn hhit hop hba hll hnn hE5 hR5 hKn hf
    by_cases hle : n1 ≤ n'
    · have hd1 : decide ((n1 : Int) ≤ (n' : Int)) = true := by simp; omega
      have hd2 : decide ((n1 : Int) > (n' : Int)) = false := by simp; omega
      have HO2 : Hid (openL rs[K] us = false) := by rw [HO.out]; exact (decide_eq_false (fun h => by omega))
      have HTL : Hid (n1 = (us.take n1).length) := by show n1 = _; rw [List.length_take, ← HN'.out]; omega
      have k5 : n1 ≤ c' := by omega
      have k6 : (0 : Int) ≤ n1 := by omega
      have k7 : (n1 : Int) ≤ n' := by omega
      by_cases he : In = us.take n1
      · have HEQ := Lib.hid (eqB_t he)
        by_cases hlt : n0 < n1
        · have hd3 : decide ((n1 : Int) > n0) = true := by simp; omega
          have hht : hitL rs[K] us n0 = true := by rw [HH.out]; exact decide_eq_true ⟨hle, he.symm, hlt⟩
          have HHT := Lib.hid hht
          clear he hht hlt
          cases o with
          | true =>
            have HL : Hid (longLFrom ((K + 1 : Nat) : Int) K n1 true us (rs.drop (K + 1)) = (kf, mf, of_)) := HLL.out _ _ _ (by rw [if_pos HHT.out]) (by rw [if_pos HHT.out, HNN.out]) (by rw [HO2.out]; rfl)
            go_wp2_with fail
            go_quiet ((go_at_call_of 30 (Value.slice A1 n1 c1); exact Calls.quiet_of (units_v n1 n1 A1 A' c1 c' In (us.take n1) B B' _ true HEQ.out E1.out HTL.out (HE5.out _) (by have h := (HR5.out 0).take n1; rw [← List.map_take] at h; exact h.below (below_dr (Below.refl _ _) _) (Nat.le_refl _)) M1.out)))
            go_wp2_with fail
            go_quiet (fail)
            go_wp2
            go_roundw
            case rel => exact ⟨K + 1, K, n1, true, by omega, by go_num, rfl, rfl, rfl, hb.trans (below_dr (HBA.out.mono hsz) _), HL⟩
            case measure => simp [intOf]; omega
          | false =>
            have HL : Hid (longLFrom ((K + 1 : Nat) : Int) K n1 false us (rs.drop (K + 1)) = (kf, mf, of_)) := HLL.out _ _ _ (by rw [if_pos HHT.out]) (by rw [if_pos HHT.out, HNN.out]) (by rw [HO2.out]; rfl)
            go_wp2_with fail
            go_quiet ((go_at_call_of 30 (Value.slice A1 n1 c1); exact Calls.quiet_of (units_v n1 n1 A1 A' c1 c' In (us.take n1) B B' _ true HEQ.out E1.out HTL.out (HE5.out _) (by have h := (HR5.out 0).take n1; rw [← List.map_take] at h; exact h.below (below_dr (Below.refl _ _) _) (Nat.le_refl _)) M1.out)))
            go_wp2_with fail
            go_quiet (fail)
            go_wp2
            go_roundw
            case rel => exact ⟨K + 1, K, n1, false, by omega, by go_num, rfl, rfl, rfl, hb.trans (below_dr (HBA.out.mono hsz) _), HL⟩
            case measure => simp [intOf]; omega
        · have hd3 : decide ((n1 : Int) > n0) = false := by simp; omega
          have hht : hitL rs[K] us n0 = false := by rw [HH.out]; exact decide_eq_false (fun h => hlt h.2.2)
          have HHT := Lib.hid hht
          clear he hht hlt
          cases o with
          | true =>
            have HL : Hid (longLFrom ((K + 1 : Nat) : Int) k0 n0 true us (rs.drop (K + 1)) = (kf, mf, of_)) := HLL.out _ _ _ (by rw [HHT.out]; rfl) (by rw [HHT.out]; rfl) (by rw [HO2.out]; rfl)
            go_wp2_with fail
            go_quiet ((go_at_call_of 30 (Value.slice A1 n1 c1); exact Calls.quiet_of (units_v n1 n1 A1 A' c1 c' In (us.take n1) B B' _ true HEQ.out E1.out HTL.out (HE5.out _) (by have h := (HR5.out 0).take n1; rw [← List.map_take] at h; exact h.below (below_dr (Below.refl _ _) _) (Nat.le_refl _)) M1.out)))
            go_wp2
            go_roundw
            case rel => exact ⟨K + 1, k0, n0, true, by omega, by go_num, rfl, rfl, rfl, hb.trans (below_dr (HBA.out.mono hsz) _), HL⟩
            case measure => simp [intOf]; omega
          | false =>
            have HL : Hid (longLFrom ((K + 1 : Nat) : Int) k0 n0 false us (rs.drop (K + 1)) = (kf, mf, of_)) := HLL.out _ _ _ (by rw [HHT.out]; rfl) (by rw [HHT.out]; rfl) (by rw [HO2.out]; rfl)
            go_wp2_with fail
            go_quiet ((go_at_call_of 30 (Value.slice A1 n1 c1); exact Calls.quiet_of (units_v n1 n1 A1 A' c1 c' In (us.take n1) B B' _ true HEQ.out E1.out HTL.out (HE5.out _) (by have h := (HR5.out 0).take n1; rw [← List.map_take] at h; exact h.below (below_dr (Below.refl _ _) _) (Nat.le_refl _)) M1.out)))
            go_wp2
            go_roundw
            case rel => exact ⟨K + 1, k0, n0, false, by omega, by go_num, rfl, rfl, rfl, hb.trans (below_dr (HBA.out.mono hsz) _), HL⟩
            case measure => simp [intOf]; omega
      · have HEQ := Lib.hid (eqB_f he)
        · have hht : hitL rs[K] us n0 = false := by rw [HH.out]; exact decide_eq_false (fun h => he h.2.1.symm)
          have HHT := Lib.hid hht
          clear he hht
          cases o with
          | true =>
            have HL : Hid (longLFrom ((K + 1 : Nat) : Int) k0 n0 true us (rs.drop (K + 1)) = (kf, mf, of_)) := HLL.out _ _ _ (by rw [HHT.out]; rfl) (by rw [HHT.out]; rfl) (by rw [HO2.out]; rfl)
            go_wp2_with fail
            go_quiet ((go_at_call_of 30 (Value.slice A1 n1 c1); exact Calls.quiet_of (units_v n1 n1 A1 A' c1 c' In (us.take n1) B B' _ false HEQ.out E1.out HTL.out (HE5.out _) (by have h := (HR5.out 0).take n1; rw [← List.map_take] at h; exact h.below (below_dr (Below.refl _ _) _) (Nat.le_refl _)) M1.out)))
            go_wp2
            go_roundw
            case rel => exact ⟨K + 1, k0, n0, true, by omega, by go_num, rfl, rfl, rfl, hb.trans (below_dr (HBA.out.mono hsz) _), HL⟩
            case measure => simp [intOf]; omega
          | false =>
            have HL : Hid (longLFrom ((K + 1 : Nat) : Int) k0 n0 false us (rs.drop (K + 1)) = (kf, mf, of_)) := HLL.out _ _ _ (by rw [HHT.out]; rfl) (by rw [HHT.out]; rfl) (by rw [HO2.out]; rfl)
            go_wp2_with fail
            go_quiet ((go_at_call_of 30 (Value.slice A1 n1 c1); exact Calls.quiet_of (units_v n1 n1 A1 A' c1 c' In (us.take n1) B B' _ false HEQ.out E1.out HTL.out (HE5.out _) (by have h := (HR5.out 0).take n1; rw [← List.map_take] at h; exact h.below (below_dr (Below.refl _ _) _) (Nat.le_refl _)) M1.out)))
            go_wp2
            go_roundw
            case rel => exact ⟨K + 1, k0, n0, false, by omega, by go_num, rfl, rfl, rfl, hb.trans (below_dr (HBA.out.mono hsz) _), HL⟩
            case measure => simp [intOf]; omega
    · have hd1 : decide ((n1 : Int) ≤ (n' : Int)) = false := by simp; omega
      have hd2 : decide ((n1 : Int) > (n' : Int)) = true := by simp; omega
      have hht : hitL rs[K] us n0 = false := by rw [HH.out]; exact decide_eq_false (fun h => hle h.1)
      have HHT := Lib.hid hht
      have HTL : Hid (n' = (In.take n').length) := by show n' = _; rw [List.length_take, ← E1.out]; omega
      have k5 : n' ≤ c1 := by omega
      have k6 : (0 : Int) ≤ n' := by omega
      have k7 : (n' : Int) ≤ n1 := by omega
      clear hht
      cases o with
      | true =>
        have HL : Hid (longLFrom ((K + 1 : Nat) : Int) k0 n0 true us (rs.drop (K + 1)) = (kf, mf, of_)) := HLL.out _ _ _ (by rw [HHT.out]; rfl) (by rw [HHT.out]; rfl) rfl
        go_wp2_with fail
        go_quiet (fail)
        go_wp2
        go_roundw
        case rel => exact ⟨K + 1, k0, n0, true, by omega, by go_num, rfl, rfl, rfl, hb.trans (below_dr (HBA.out.mono hsz) _), HL⟩
        case measure => simp [intOf]; omega
      | false =>
        by_cases he : In.take n' = us
        · have HEQ := Lib.hid (eqB_t he)
          have HO2 : Hid (openL rs[K] us = true) := by rw [HO.out]; exact decide_eq_true ⟨by omega, he⟩
          have HL : Hid (longLFrom ((K + 1 : Nat) : Int) k0 n0 true us (rs.drop (K + 1)) = (kf, mf, of_)) := HLL.out _ _ _ (by rw [HHT.out]; rfl) (by rw [HHT.out]; rfl) (by rw [HO2.out]; rfl)
          clear he
          go_wp2_with fail
          go_quiet (fail)
          go_wp2_with fail
          refine (units_v n' n' A1 A' c1 c' (In.take n') us B B' _ true HEQ.out HTL.out HN'.out (rd_tk n' (HE5.out _)) (HR5.out _) (by have := M1.out; omega)).mono ?_
          rintro e w1 ⟨rfl, m1, rfl⟩
          go_wp2
          go_roundw
          case rel => exact ⟨K + 1, k0, n0, true, by omega, by go_num, rfl, rfl, rfl, hb.trans (below_dr (HBA.out.mono hsz) _), HL⟩
          case measure => simp [intOf]; omega
        · have HEQ := Lib.hid (eqB_f he)
          have HO2 : Hid (openL rs[K] us = false) := by rw [HO.out]; exact decide_eq_false (fun h => he h.2)
          have HL : Hid (longLFrom ((K + 1 : Nat) : Int) k0 n0 false us (rs.drop (K + 1)) = (kf, mf, of_)) := HLL.out _ _ _ (by rw [HHT.out]; rfl) (by rw [HHT.out]; rfl) (by rw [HO2.out]; rfl)
          clear he
          go_wp2_with fail
          go_quiet (fail)
          go_wp2_with fail
          refine (units_v n' n' A1 A' c1 c' (In.take n') us B B' _ false HEQ.out HTL.out HN'.out (rd_tk n' (HE5.out _)) (HR5.out _) (by have := M1.out; omega)).mono ?_
          rintro e w1 ⟨rfl, m1, rfl⟩
          go_wp2
          go_roundw
          case rel => exact ⟨K + 1, k0, n0, false, by omega, by go_num, rfl, rfl, rfl, hb.trans (below_dr (HBA.out.mono hsz) _), HL⟩
          case measure => simp [intOf]; omega
end Go.Proofs.Ytmjcnopkckkaoaa
