/- UtfBytes: the walk. -/
import Derived.Test.YtocfbghfmbldaaaUtfOwn
namespace Go.Proofs.Ytocfbghfmbldaaa
set_option linter.unusedVariables false
open Go.RowKit

set_option maxHeartbeats 1600000 in
theorem utfBytes_any (A : Option Addr) (cap : Nat) (ss : List Int) (cut : Int) (w : World) (hr : Rd w w.heap.size A (ss.map (Value.int .i64))) (hc : ss.length ≤ cap) (hb : ∀ z ∈ ss, (-9223372036854775808 : Int) ≤ z ∧ z ≤ 9223372036854775807) (hcut : 0 ≤ cut ∧ cut ≤ 255) (hl : ss.length ≤ 1048576) :
    Calls Try.prog 6 #[.slice A ss.length cap, .int .u8 cut] w fun e w' => e = .returned (.bool true) ∧ Below w.heap.size w w' := by
  have HR := Lib.hid hr
  have HB := Lib.hid hb
  clear hr hb
  obtain ⟨k, hk⟩ : ∃ k : Nat, cut % ((ss.length : Int) + 1) = (k : Int) := ⟨(cut % ((ss.length : Int) + 1)).toNat, by have := Int.emod_nonneg cut (b := (ss.length : Int) + 1) (by omega); omega⟩
  have hkl : k ≤ ss.length := by have h1 := Int.emod_lt_of_pos cut (b := (ss.length : Int) + 1) (by omega); omega
  obtain ⟨b1, hb1e⟩ : ∃ x, bytesF (ss.take k) = x := ⟨_, rfl⟩
  obtain ⟨b2, hb2e⟩ : ∃ x, bytesF (ss.drop k) = x := ⟨_, rfl⟩
  obtain ⟨b0, hb0e⟩ : ∃ x, bytesF ss = x := ⟨_, rfl⟩
  have HE1 := Lib.hid hb1e
  have HE2 := Lib.hid hb2e
  have HE0 := Lib.hid hb0e
  have hl1 : b1.length ≤ 4194304 := by have := bytesF_len (ss.take k); rw [hb1e, List.length_take] at this; omega
  have hl2 : b2.length ≤ 4194304 := by have := bytesF_len (ss.drop k); rw [hb2e, List.length_drop] at this; omega
  have hl0 : b0.length ≤ 4194304 := by have := bytesF_len ss; rw [hb0e] at this; omega
  have hs1 : (strOfNums b1).size ≤ 4194304 := by rw [strOfNums_size]; exact hl1
  have hs2 : (strOfNums b2).size ≤ 4194304 := by rw [strOfNums_size]; exact hl2
  have hstr : (!((strOfNums b1 ++ strOfNums b2).toList == (strOfNums b0).toList)) = false := by rw [← hb1e, ← hb2e, ← hb0e, bytes_str]; rfl
  have HS := Lib.hid hstr
  clear hb1e hb2e hb0e hstr
  have hcv := fun (w : World) (A : Option Addr) (zs : List Int) (n cap : Nat) => run_str (P := Try.prog) w 23 9 5 Try.underlying23 Try.underlying5 Try.underlying9 w.heap.size A zs n cap
  have HCV := Lib.hid hcv
  clear hcv
  have hrd := fun (w1 : World) (h : Below w.heap.size w w1) => Rd.drop (k := k) (cap := cap) (HR.out.below h h.size) (n := ss.length) (by simp) hkl hc
  have HC := Lib.hid hc
  by_cases hcap : cap = k
  · rw [if_pos hcap] at hrd
    have HRD := Lib.hid hrd
    clear hrd
    subst hcap
    go_enter Try.func6, Try.ntmps6
    go_wp2_with (first
      | (go_at_call 7; refine (awake_any _).mono ?_; rintro e w1 ⟨rfl, hb1⟩)
      | (go_at_call 15; refine (bytes_own _ _ _ ss _ rfl (HR.out.below hb1 hb1.size) hl HC.out b0 b0.length HE0.out rfl).mono ?_; rintro e w2 ⟨A2, c2, rfl, hr2, hc2, hm2, hb2⟩))
    have HR2 := Lib.hid hr2
    have hbA := hb1.trans (hb2.mono hb1.size)
    clear hr2
    unfold maxLen at hm2
    refine wp_region_mix (G := fun w w' => Below w.heap.size w w') [(0, false), (1, false), (2, false), (5, false), (6, false), (7, false), (11, false), (12, false), (3, true), (4, false), (8, true), (9, false), (10, false), (13, false)]
      below_refl below_trans (by kernel_rfl) rfl (by kernel_rfl) (by kernel_rfl) (below_refl _).drew ?_
    iterate 7 (refine mix_one rfl rfl ?_; go_big_quiet_step ((intro _; rfl)); refine wpQuiet_nil ?_)
    refine mix_one rfl rfl ?_
    go_big_quiet_step ((intro hh; rw [HCV.out _ A2 b0 b0.length c2 rfl (HR2.out.below hh hh.size)]; exact ⟨rfl, rfl⟩))
    refine wpQuiet_nil ?_
    refine mix_call rfl ?_
    intro w3 hb3
    have hbB := hbA.trans (hb3.mono hbA.size)
    go_wp2_with fail
    refine (bytes_own cap A cap (ss.take cap) _ (by simp; omega) (by rw [List.map_take]; exact (HR.out.below hbB hbB.size).take cap) (by simp; omega) (by have := HC.out; simp; omega) b1 b1.length HE1.out rfl).mono ?_
    rintro e w4 ⟨A4, c4, rfl, hr4, hc4, hm4, hb4⟩
    have HR4 := Lib.hid hr4
    have hbC := hbB.trans (hb4.mono hbB.size)
    clear hr4
    unfold maxLen at hm4
    go_wp2_with fail
    refine ⟨hb4, ?_⟩
    refine mix_one rfl rfl ?_
    go_big_quiet_step ((intro hh; rw [HCV.out _ A4 b1 b1.length c4 rfl (HR4.out.below hh hh.size)]; exact ⟨rfl, rfl⟩))
    refine wpQuiet_nil ?_
    refine mix_call rfl ?_
    intro w5 hb5
    have hbD := hbC.trans (hb5.mono hbC.size)
    go_wp2_with fail
    refine (bytes_own _ _ _ (ss.drop cap) _ (by rw [List.length_drop]; omega) (by rw [List.map_drop]; exact HRD.out _ hbD) (by rw [List.length_drop]; omega) (by have := HC.out; rw [List.length_drop]; omega) b2 b2.length HE2.out rfl).mono ?_
    rintro e w6 ⟨A6, c6, rfl, hr6, hc6, hm6, hb6⟩
    have HR6 := Lib.hid hr6
    have hbE := hbD.trans (hb6.mono hbD.size)
    clear hr6
    unfold maxLen at hm6
    go_wp2_with fail
    refine ⟨hb6, ?_⟩
    refine mix_one rfl rfl ?_
    go_big_quiet_step ((intro hh; rw [HCV.out _ A6 b2 b2.length c6 rfl (HR6.out.below hh hh.size)]; exact ⟨rfl, rfl⟩))
    refine wpQuiet_nil ?_
    iterate 2 (refine mix_one rfl rfl ?_; go_big_quiet_step ((intro _; rfl)); refine wpQuiet_nil ?_)
    refine mix_nil ?_
    intro w7 hb7
    have hbF := hbE.trans (hb7.mono hbE.size)
    have hr7 := HR2.out.below (below_trans _ _ _ (below_trans _ _ _ (below_trans _ _ _ (below_trans _ _ _ hb3 hb4) hb5) hb6) hb7) ((below_trans _ _ _ (below_trans _ _ _ (below_trans _ _ _ (below_trans _ _ _ hb3 hb4) hb5) hb6) hb7)).size
    have HR7 := Lib.hid hr7
    clear hr7
    refine NoPanic.normal ?_
    have hbb : ∀ z ∈ b0, 0 ≤ z ∧ z ≤ 255 := by rw [← HE0.out]; exact bytesF_range ss
    have HBB := Lib.hid hbb
    have htl : allF b0.length 0 b0 = tokS 0 ss := by rw [← HE0.out]; exact allF_bytes ss _ 0 (Nat.le_refl _)
    have HTL := Lib.hid htl
    clear hbb htl
    go_wp2_with fail
    · exfalso
      have hcon : (!((strOfNums b1 ++ strOfNums b2).toList == (strOfNums b0).toList)) = true := by assumption
      rw [HS.out] at hcon; cases hcon
    refine (all_own _ _ _ b0 _ rfl HR7.out (by omega) hc2 HBB.out (tokS 0 ss) ss.length HTL.out (tokS_len 0 ss)).mono ?_
    rintro e w8 ⟨A8, c8, xs8, rfl, hr8, ht8, hc8, hm8, hb8⟩
    have HR8 := Lib.hid hr8
    have HT8 := Lib.hid ht8
    have hbG := hbF.trans (hb8.mono hbF.size)
    clear hr8 ht8
    unfold maxLen at hm8
    go_wp2_with fail
    go_loopw [43] (fun i wr => ∃ K : Nat, K ≤ ss.length ∧ i = .int .i64 K ∧ Below w8.heap.size w8 wr) (fun i _ => ss.length - (intOf i).toNat)
    case atStart => exact ⟨0, by omega, rfl, Below.refl _ _⟩
    case round =>
      obtain ⟨K, hK, rfl, hbr⟩ := hrel
      by_cases hKl : K = ss.length
      · have hKl' : ¬ K < ss.length := by omega
        have HKL := Lib.hid hKl
        clear hKl
        go_wp2
        go_ret
        exact ⟨rfl, hbG.trans (hbr.mono hbG.size)⟩
      have hKl' : K < ss.length := by omega
      obtain ⟨b8, o8, rfl, hbl8, hcell8⟩ := toks_at HR8.out HT8.out (by rw [tokS_len]; omega)
      obtain ⟨q, n, hget⟩ := tokS_at 0 ss K hKl'
      obtain ⟨g1, g2, ⟨A9, c9, g3, g4, g5, g6⟩, g7⟩ := hcell8 K _ hget
      have k1 := (hbr.cell (p := ⟨b8, o8 + K * 4, none⟩) hbl8).trans g1
      have k2 := (hbr.cell (p := ⟨b8, o8 + K * 4 + 1, none⟩) hbl8).trans g2
      have k3 := (hbr.cell (p := ⟨b8, o8 + K * 4 + 2, none⟩) hbl8).trans g3
      have k4 := (hbr.cell (p := ⟨b8, o8 + K * 4 + 3, none⟩) hbl8).trans g7
      obtain ⟨b9, o9, rfl, hbl9, hcell9⟩ := rd_ints g6 (by simp)
      have k5 := (hbr.cell (p := ⟨b9, o9, none⟩) hbl9).trans (hcell9 0 (by simp))
      obtain ⟨ba, oa, rfl, hbla, hcella⟩ := rd_ints (HR.out.below (hbG.trans (hbr.mono hbG.size)) (hbG.trans (hbr.mono hbG.size)).size) (by omega)
      have k6 := hcella K hKl'
      obtain ⟨x, hx⟩ : ∃ x, x = ss.getD K 0 := ⟨_, rfl⟩
      simp only [← hx] at k5 k6 g3 g6 hcell9 k3 hget
      have HX := Lib.hid hx
      have n9 : b9 < wr.heap.size := Nat.lt_of_lt_of_le hbl9 hbr.size
      have na : ba < wr.heap.size := hbla
      clear g1 g2 g3 g6 g7 hcell8 hcell9 hcella hget hx
      cases hsc : scB x
      · have hfx : fixS x = 65533 := by simp [fixS, hsc]
        have hnx : ((65533 : Int) != x) = true := by
          have : ¬ (65533 : Int) = x := by rintro rfl; cases hsc
          simpa using this
        simp only [hfx] at k5
        simp at k5 k3
        go_wp2_with fail
        go_quiet ((go_at_call 10; exact Calls.quiet_of_same ((scalarU _ _).mono fun _ _ h => ⟨h.1, h.2.symm⟩)))
        go_wp2
        go_roundw
        case rel => exact ⟨K + 1, by omega, by go_num, hbr.trans ((((Below.refl _ _).alloc (Nat.le_refl _) _).trans (below_drewN' _ _)).mono hbr.size)⟩
        case measure => simp [intOf]; omega
      · have hfx : fixS x = x := by simp [fixS, hsc]
        simp only [hfx] at k5
        simp at k5 k3
        go_wp2_with fail
        go_quiet (fail)
        go_wp2
        go_roundw
        case rel => exact ⟨K + 1, by omega, by go_num, hbr.trans ((((Below.refl _ _).alloc (Nat.le_refl _) _).trans (below_drewN' _ _)).mono hbr.size)⟩
        case measure => simp [intOf]; omega
  · rw [if_neg hcap] at hrd
    have HRD := Lib.hid hrd
    clear hrd
    go_enter Try.func6, Try.ntmps6
    go_wp2_with (first
      | (go_at_call 7; refine (awake_any _).mono ?_; rintro e w1 ⟨rfl, hb1⟩)
      | (go_at_call 15; refine (bytes_own _ _ _ ss _ rfl (HR.out.below hb1 hb1.size) hl HC.out b0 b0.length HE0.out rfl).mono ?_; rintro e w2 ⟨A2, c2, rfl, hr2, hc2, hm2, hb2⟩))
    have HR2 := Lib.hid hr2
    have hbA := hb1.trans (hb2.mono hb1.size)
    clear hr2
    unfold maxLen at hm2
    refine wp_region_mix (G := fun w w' => Below w.heap.size w w') [(0, false), (1, false), (2, false), (5, false), (6, false), (7, false), (11, false), (12, false), (3, true), (4, false), (8, true), (9, false), (10, false), (13, false)]
      below_refl below_trans (by kernel_rfl) rfl (by kernel_rfl) (by kernel_rfl) (below_refl _).drew ?_
    iterate 7 (refine mix_one rfl rfl ?_; go_big_quiet_step ((intro _; rfl)); refine wpQuiet_nil ?_)
    refine mix_one rfl rfl ?_
    go_big_quiet_step ((intro hh; rw [HCV.out _ A2 b0 b0.length c2 rfl (HR2.out.below hh hh.size)]; exact ⟨rfl, rfl⟩))
    refine wpQuiet_nil ?_
    refine mix_call rfl ?_
    intro w3 hb3
    have hbB := hbA.trans (hb3.mono hbA.size)
    go_wp2_with fail
    refine (bytes_own k A cap (ss.take k) _ (by simp; omega) (by rw [List.map_take]; exact (HR.out.below hbB hbB.size).take k) (by simp; omega) (by have := HC.out; simp; omega) b1 b1.length HE1.out rfl).mono ?_
    rintro e w4 ⟨A4, c4, rfl, hr4, hc4, hm4, hb4⟩
    have HR4 := Lib.hid hr4
    have hbC := hbB.trans (hb4.mono hbB.size)
    clear hr4
    unfold maxLen at hm4
    go_wp2_with fail
    refine ⟨hb4, ?_⟩
    refine mix_one rfl rfl ?_
    go_big_quiet_step ((intro hh; rw [HCV.out _ A4 b1 b1.length c4 rfl (HR4.out.below hh hh.size)]; exact ⟨rfl, rfl⟩))
    refine wpQuiet_nil ?_
    refine mix_call rfl ?_
    intro w5 hb5
    have hbD := hbC.trans (hb5.mono hbC.size)
    go_wp2_with fail
    refine (bytes_own (ss.length - k) _ _ (ss.drop k) _ (by simp) (by rw [List.map_drop]; exact HRD.out _ hbD) (by simp; omega) (by have := HC.out; simp; omega) b2 b2.length HE2.out rfl).mono ?_
    rintro e w6 ⟨A6, c6, rfl, hr6, hc6, hm6, hb6⟩
    have HR6 := Lib.hid hr6
    have hbE := hbD.trans (hb6.mono hbD.size)
    clear hr6
    unfold maxLen at hm6
    go_wp2_with fail
    refine ⟨hb6, ?_⟩
    refine mix_one rfl rfl ?_
    go_big_quiet_step ((intro hh; rw [HCV.out _ A6 b2 b2.length c6 rfl (HR6.out.below hh hh.size)]; exact ⟨rfl, rfl⟩))
    refine wpQuiet_nil ?_
    iterate 2 (refine mix_one rfl rfl ?_; go_big_quiet_step ((intro _; rfl)); refine wpQuiet_nil ?_)
    refine mix_nil ?_
    intro w7 hb7
    have hbF := hbE.trans (hb7.mono hbE.size)
    have hr7 := HR2.out.below (below_trans _ _ _ (below_trans _ _ _ (below_trans _ _ _ (below_trans _ _ _ hb3 hb4) hb5) hb6) hb7) ((below_trans _ _ _ (below_trans _ _ _ (below_trans _ _ _ (below_trans _ _ _ hb3 hb4) hb5) hb6) hb7)).size
    have HR7 := Lib.hid hr7
    clear hr7
    refine NoPanic.normal ?_
    have hbb : ∀ z ∈ b0, 0 ≤ z ∧ z ≤ 255 := by rw [← HE0.out]; exact bytesF_range ss
    have HBB := Lib.hid hbb
    have htl : allF b0.length 0 b0 = tokS 0 ss := by rw [← HE0.out]; exact allF_bytes ss _ 0 (Nat.le_refl _)
    have HTL := Lib.hid htl
    clear hbb htl
    go_wp2_with fail
    · exfalso
      have hcon : (!((strOfNums b1 ++ strOfNums b2).toList == (strOfNums b0).toList)) = true := by assumption
      rw [HS.out] at hcon; cases hcon
    refine (all_own _ _ _ b0 _ rfl HR7.out (by omega) hc2 HBB.out (tokS 0 ss) ss.length HTL.out (tokS_len 0 ss)).mono ?_
    rintro e w8 ⟨A8, c8, xs8, rfl, hr8, ht8, hc8, hm8, hb8⟩
    have HR8 := Lib.hid hr8
    have HT8 := Lib.hid ht8
    have hbG := hbF.trans (hb8.mono hbF.size)
    clear hr8 ht8
    unfold maxLen at hm8
    go_wp2_with fail
    generalize Option.map (fun x : Addr => x.add k) A = A27
    go_loopw [43] (fun i wr => ∃ K : Nat, K ≤ ss.length ∧ i = .int .i64 K ∧ Below w8.heap.size w8 wr) (fun i _ => ss.length - (intOf i).toNat)
    case atStart => exact ⟨0, by omega, rfl, Below.refl _ _⟩
    case round =>
      obtain ⟨K, hK, rfl, hbr⟩ := hrel
      by_cases hKl : K = ss.length
      · have hKl' : ¬ K < ss.length := by omega
        have HKL := Lib.hid hKl
        clear hKl
        go_wp2
        go_ret
        exact ⟨rfl, hbG.trans (hbr.mono hbG.size)⟩
      have hKl' : K < ss.length := by omega
      obtain ⟨b8, o8, rfl, hbl8, hcell8⟩ := toks_at HR8.out HT8.out (by rw [tokS_len]; omega)
      obtain ⟨q, n, hget⟩ := tokS_at 0 ss K hKl'
      obtain ⟨g1, g2, ⟨A9, c9, g3, g4, g5, g6⟩, g7⟩ := hcell8 K _ hget
      have k1 := (hbr.cell (p := ⟨b8, o8 + K * 4, none⟩) hbl8).trans g1
      have k2 := (hbr.cell (p := ⟨b8, o8 + K * 4 + 1, none⟩) hbl8).trans g2
      have k3 := (hbr.cell (p := ⟨b8, o8 + K * 4 + 2, none⟩) hbl8).trans g3
      have k4 := (hbr.cell (p := ⟨b8, o8 + K * 4 + 3, none⟩) hbl8).trans g7
      obtain ⟨b9, o9, rfl, hbl9, hcell9⟩ := rd_ints g6 (by simp)
      have k5 := (hbr.cell (p := ⟨b9, o9, none⟩) hbl9).trans (hcell9 0 (by simp))
      obtain ⟨ba, oa, rfl, hbla, hcella⟩ := rd_ints (HR.out.below (hbG.trans (hbr.mono hbG.size)) (hbG.trans (hbr.mono hbG.size)).size) (by omega)
      have k6 := hcella K hKl'
      obtain ⟨x, hx⟩ : ∃ x, x = ss.getD K 0 := ⟨_, rfl⟩
      simp only [← hx] at k5 k6 g3 g6 hcell9 k3 hget
      have HX := Lib.hid hx
      have n9 : b9 < wr.heap.size := Nat.lt_of_lt_of_le hbl9 hbr.size
      have na : ba < wr.heap.size := hbla
      clear g1 g2 g3 g6 g7 hcell8 hcell9 hcella hget hx
      cases hsc : scB x
      · have hfx : fixS x = 65533 := by simp [fixS, hsc]
        have hnx : ((65533 : Int) != x) = true := by
          have : ¬ (65533 : Int) = x := by rintro rfl; cases hsc
          simpa using this
        simp only [hfx] at k5
        simp at k5 k3
        go_wp2_with fail
        go_quiet ((go_at_call 10; exact Calls.quiet_of_same ((scalarU _ _).mono fun _ _ h => ⟨h.1, h.2.symm⟩)))
        go_wp2
        go_roundw
        case rel => exact ⟨K + 1, by omega, by go_num, hbr.trans ((((Below.refl _ _).alloc (Nat.le_refl _) _).trans (below_drewN' _ _)).mono hbr.size)⟩
        case measure => simp [intOf]; omega
      · have hfx : fixS x = x := by simp [fixS, hsc]
        simp only [hfx] at k5
        simp at k5 k3
        go_wp2_with fail
        go_quiet (fail)
        go_wp2
        go_roundw
        case rel => exact ⟨K + 1, by omega, by go_num, hbr.trans ((((Below.refl _ _).alloc (Nat.le_refl _) _).trans (below_drewN' _ _)).mono hbr.size)⟩
        case measure => simp [intOf]; omega
end Go.Proofs.Ytocfbghfmbldaaa
