/- UtfAll: the walk. -/
import Derived.Test.YtfhjphemeddjcaaUtfOne
import Derived.Test.YtfhjphemeddjcaaCarryF
import Derived.Test.YtfhjphemeddjcaaMixe
namespace Go.Proofs.Ytfhjphemeddjcaa
set_option linter.unusedVariables false
open Go.RowKit

set_option maxHeartbeats 3200000 in
theorem utfAll_any (A : Option Addr) (cap : Nat) (zs : List Int) (A' : Option Addr) (cap' : Nat) (ss : List Int) (w : World)
    (hr : Rd w w.heap.size A (zs.map (Value.int .u8))) (hc : zs.length ≤ cap) (hb : ∀ z ∈ zs, 0 ≤ z ∧ z ≤ 255)
    (hr' : Rd w w.heap.size A' (ss.map (Value.int .i64))) (hc' : ss.length ≤ cap') (hb' : ∀ z ∈ ss, (-9223372036854775808 : Int) ≤ z ∧ z ≤ 9223372036854775807) (hl : zs.length + ss.length ≤ 1048576) :
    Calls Try.prog 4 #[.slice A zs.length cap, .slice A' ss.length cap'] w fun e w' => e = .returned (.bool true) ∧ Below w.heap.size w w' := by
  obtain ⟨i0, hi, hz0, hz1, hz2⟩ := info_parts info5
  have HR := Lib.hid hr
  have HB := Lib.hid hb
  have HR' := Lib.hid hr'
  clear hr hb hr' hb'
  obtain ⟨xs, hxs⟩ : ∃ xs, bytesF ss = xs := ⟨_, rfl⟩
  obtain ⟨m, hm⟩ : ∃ m, xs.length = m := ⟨_, rfl⟩
  have hml : m ≤ 4194304 := by have := bytesF_len ss; rw [hxs, hm] at this; omega
  have hxb : ∀ z ∈ xs, 0 ≤ z ∧ z ≤ 255 := by rw [← hxs]; exact bytesF_range ss
  have HXS := Lib.hid hxs
  have HM := Lib.hid hm
  have HXB := Lib.hid hxb
  clear hxs hm hxb
  go_enter Try.func4, Try.ntmps4
  go_wp2_with fail
  refine (awake_any _).mono ?_
  rintro e w1 ⟨rfl, hb1⟩
  go_wp2_with fail
  refine (bytes_own _ _ _ ss _ rfl (HR'.out.below hb1 hb1.size) (by omega) hc' xs m HXS.out HM.out).mono ?_
  rintro e w2 ⟨A2, c2, rfl, hr2, hc2, hm2, hb2⟩
  have HR2 := Lib.hid hr2
  have hbA := hb1.trans (hb2.mono hb1.size)
  clear hr2
  unfold maxLen at hm2
  have hq0 : (0 : Int) ≤ (m : Int) / 2 := by omega
  have hq1 : (m : Int) / 2 ≤ m := by omega
  have hq2 : ((m : Int) / 2).toNat = m / 2 := by omega
  have hq3 : m / 2 ≤ c2 := by omega
  go_wp2_with fail
  refine wp_region_mixe (G := Below w2.heap.size) [(0, false), (1, false), (2, false), (3, false), (4, false), (5, false), (6, false), (7, false), (9, false), (13, false), (8, true), (10, true), (11, true), (12, false)]
    (below_fix _) (below_fix_trans _) (by kernel_rfl) rfl (by kernel_rfl) (by kernel_rfl) ?_
  iterate 10 (refine mixe_one rfl rfl ?_; go_big_quiet_step ((intro _; rfl)); refine wpQuiet_nil ?_)
  have hbd : Below w2.heap.size w2 w2.drew := (Below.refl _ _).drew
  refine mixe_call rfl ?_
  go_wp2_with (at_builtin; refine wpList_app _ rfl _ _ 23 rfl w2.heap.size 5 i0 _ 1 1 Try.underlying23 hi hz0 hz1 hz2 rfl (by decide) _ _ _ rfl (World.ownsRow_nil _ _ _ _) w2.heap.size A2 m c2 (xs.map (Value.int .u8)) rfl ?c0 (HR2.out.below hbd (Nat.le_refl _)) (ints_one _ _) ?c3 ?c4 ?c5 ?_)
  case c0 => rw [List.length_map, HM.out]; omega
  case c3 => simp only [maxLen]; omega
  case c4 => omega
  case c5 => exact Nat.le_refl _
  intro v4 w4 hown4 hg4
  have hb4 := hbd.grown hg4 (Nat.le_refl _) (by intro k hk; simp [Value.ownBlock] at hk)
  have hb4' := (Below.refl w2.heap.size w2.drew).grown hg4 (Nat.le_refl _) (by intro k hk; simp [Value.ownBlock] at hk)
  have hbB := hbA.trans (hb4.mono hbA.size)
  go_wp2_with fail
  refine ⟨hb4', ?_⟩
  refine mixe_call rfl ?_
  go_wp2_with (at_builtin; refine wpList_app _ rfl _ _ 23 rfl w2.heap.size 5 i0 _ 1 1 Try.underlying23 hi hz0 hz1 hz2 rfl (by decide) _ _ _ rfl hown4 w4.heap.size A zs.length cap (zs.map (Value.int .u8)) rfl (by simp) (HR.out.below hbB hbB.size) (ints_one _ _) ?c3 ?c4 ?c5 ?_)
  case c3 => simp only [maxLen]; omega
  case c4 => omega
  case c5 => exact hb4.size
  intro v5 w5 hown5 hg5
  rw [← List.map_append] at hown5
  have hb5' := (Below.refl w2.heap.size w4).grown hg5 hb4.size (fun k hk => (hown4.lt k hk).1)
  have hb5 := hb4.trans hb5'
  obtain ⟨A5, c5, rfl, hc5, hm5⟩ := own_form hown5
  have HR5 := Lib.hid (Rd.own hown5)
  clear hown4 hown5 hg4 hg5
  unfold maxLen at hm5
  go_wp2_with fail
  refine ⟨hb5', ?_⟩
  refine mixe_call rfl ?_
  go_wp2_with fail
  refine ⟨(Below.refl _ _).alloc hb5.size _, ?_⟩
  refine mixe_one rfl rfl ?_
  go_big_quiet_step ((intro _; rfl))
  refine wpQuiet_nil ?_
  refine NoPanic.normal ?_
  obtain ⟨W5, hW5⟩ : ∃ W5, W5 = w5.alloc (.cells #[.slice A zs.length cap, .slice A2 m c2, .slice A2 (m / 2) c2, .slice A5 (m + zs.length) c5] 23) := ⟨_, rfl⟩
  obtain ⟨g, hg⟩ : ∃ g, g = w5.heap.size := ⟨_, rfl⟩
  rw [← hW5, ← hg]
  have hnw : W5.heap[g]? = some (.cells #[.slice A zs.length cap, .slice A2 m c2, .slice A2 (m / 2) c2, .slice A5 (m + zs.length) c5] 23 (0, 0)) := by rw [hW5, hg]; exact heap_alloc_new w5 _
  obtain ⟨q0, q1, q2, q3⟩ := arr_cells' hnw
  have hb55 : Below w5.heap.size w5 W5 := by rw [hW5]; exact (Below.refl _ _).alloc (Nat.le_refl _) _
  have hb6 : Below w.heap.size w W5 := hbA.trans ((hb5.trans (hb55.mono hb5.size)).mono hbA.size)
  have hg5 : g < W5.heap.size := by rw [hW5, hg]; simp
  have hr2w := (HR2.out.below hb5 (Nat.le_refl _)).below (hb55.mono hb5.size) (by have h1 := hb5.size; have h2 := hb55.size; omega : w2.heap.size ≤ W5.heap.size)
  have HR2W := Lib.hid hr2w
  have hr2h := hr2w.take (m / 2)
  rw [← List.map_take] at hr2h
  have HR2H := Lib.hid hr2h
  have HR5W := Lib.hid (HR5.out.below hb55 hb55.size)
  have HHL := Lib.hid (show m / 2 = (xs.take (m / 2)).length by rw [List.length_take, HM.out]; omega)
  have HQ0 := Lib.hid q0
  have HQ1 := Lib.hid q1
  have HQ2 := Lib.hid q2
  have HQ3 := Lib.hid q3
  clear hW5 hg hnw hb55 hbB q0 q1 q2 q3 hr2w hr2h HR2 HR5 hb5 hb5' hb4 hb4' hbd
  go_wp2_with fail
  go_loopw [25] (fun i wr => ∃ k : Nat, k ≤ 4 ∧ i = .int .i64 k ∧ Below W5.heap.size W5 wr) (fun i _ => 4 - (intOf i).toNat)
  case atStart => exact ⟨0, by omega, rfl, Below.refl _ _⟩
  case round =>
    obtain ⟨k, hk, rfl, hbr⟩ := hrel
    have hbz := hb6.trans (hbr.mono hb6.size)
    by_cases hk4 : k = 4
    · subst hk4
      go_wp2
      go_ret
      exact ⟨rfl, hbz⟩
    have hcase : k = 0 ∨ k = 1 ∨ k = 2 ∨ k = 3 := by omega
    rcases hcase with rfl | rfl | rfl | rfl
    · have k1 := (hbr.cell (p := ⟨g, 0, none⟩) hg5).trans HQ0.out
      obtain ⟨ts, hts⟩ : ∃ ts, allF zs.length 0 zs = ts := ⟨_, rfl⟩
      obtain ⟨j, hj⟩ : ∃ j, ts.length = j := ⟨_, rfl⟩
      have hjl : j ≤ zs.length := by have := allF_len zs.length 0 zs; rw [hts, hj] at this; exact this
      have hjb : j ≤ 8388608 := by have h1 := HM.out; have h2 : zs.length ≤ 8388608 := (by omega); omega
      have hout := allF_out zs.length 0 zs
      rw [hts] at hout
      have HTS := Lib.hid hts
      have HJ := Lib.hid hj
      have HOUT := Lib.hid hout
      clear hts hj hout hk4 hjl
      go_wp2_with fail
      refine (all_own zs.length _ _ zs _ rfl (HR.out.below hbz hbz.size) (by omega) hc HB.out ts j HTS.out HJ.out).mono ?_
      rintro en w6 ⟨A6, c6, xs6, rfl, hr6, ht6, hc6, hm6, hb6a⟩
      have HR6 := Lib.hid hr6
      have HT6 := Lib.hid ht6
      clear hr6 ht6
      go_wp2_with fail
      refine (allL_own zs.length _ _ zs _ rfl (((HR.out.below hbz hbz.size)).below hb6a hb6a.size) (by omega) hc HB.out ts j HTS.out HJ.out).mono ?_
      rintro en w7 ⟨A7, c7, xs7, rfl, hr7, ht7, hc7, hm7, hb7⟩
      have HR7 := Lib.hid hr7
      have HT7 := Lib.hid ht7
      clear hr7 ht7
      go_wp2_with fail
      refine (same_own j _ _ _ _ ts xs6 xs7 w7.heap.size _ HJ.out.symm (HR6.out.below hb7 hb7.size) (HT6.out.below hb7 hb7.size) HR7.out HT7.out (by rw [HJ.out]; omega) (fun t ht => by have := HOUT.out t ht; omega)).mono ?_
      rintro en w8 ⟨rfl, hb8⟩
      go_wp2
      go_roundw
      case rel => exact ⟨0 + 1, by omega, by go_num, hbr.trans ((below_trans _ _ _ (below_trans _ _ _ hb6a hb7) hb8).mono hbr.size)⟩
      case measure => simp [intOf]
    · have k1 := (hbr.cell (p := ⟨g, 1, none⟩) hg5).trans HQ1.out
      obtain ⟨ts, hts⟩ : ∃ ts, allF xs.length 0 xs = ts := ⟨_, rfl⟩
      obtain ⟨j, hj⟩ : ∃ j, ts.length = j := ⟨_, rfl⟩
      have hjl : j ≤ xs.length := by have := allF_len xs.length 0 xs; rw [hts, hj] at this; exact this
      have hjb : j ≤ 8388608 := by have h1 := HM.out; have h2 : xs.length ≤ 8388608 := (by have := HM.out; omega); omega
      have hout := allF_out xs.length 0 xs
      rw [hts] at hout
      have HTS := Lib.hid hts
      have HJ := Lib.hid hj
      have HOUT := Lib.hid hout
      clear hts hj hout hk4 hjl
      go_wp2_with fail
      refine (all_own m _ _ xs _ HM.out.symm (HR2W.out.below hbr hbr.size) (by have := HM.out; omega) (by have := HM.out; omega) HXB.out ts j HTS.out HJ.out).mono ?_
      rintro en w6 ⟨A6, c6, xs6, rfl, hr6, ht6, hc6, hm6, hb6a⟩
      have HR6 := Lib.hid hr6
      have HT6 := Lib.hid ht6
      clear hr6 ht6
      go_wp2_with fail
      refine (allL_own m _ _ xs _ HM.out.symm (((HR2W.out.below hbr hbr.size)).below hb6a hb6a.size) (by have := HM.out; omega) (by have := HM.out; omega) HXB.out ts j HTS.out HJ.out).mono ?_
      rintro en w7 ⟨A7, c7, xs7, rfl, hr7, ht7, hc7, hm7, hb7⟩
      have HR7 := Lib.hid hr7
      have HT7 := Lib.hid ht7
      clear hr7 ht7
      go_wp2_with fail
      refine (same_own j _ _ _ _ ts xs6 xs7 w7.heap.size _ HJ.out.symm (HR6.out.below hb7 hb7.size) (HT6.out.below hb7 hb7.size) HR7.out HT7.out (by rw [HJ.out]; omega) (fun t ht => by have := HOUT.out t ht; omega)).mono ?_
      rintro en w8 ⟨rfl, hb8⟩
      go_wp2
      go_roundw
      case rel => exact ⟨1 + 1, by omega, by go_num, hbr.trans ((below_trans _ _ _ (below_trans _ _ _ hb6a hb7) hb8).mono hbr.size)⟩
      case measure => simp [intOf]
    · have k1 := (hbr.cell (p := ⟨g, 2, none⟩) hg5).trans HQ2.out
      obtain ⟨ts, hts⟩ : ∃ ts, allF (xs.take (m / 2)).length 0 (xs.take (m / 2)) = ts := ⟨_, rfl⟩
      obtain ⟨j, hj⟩ : ∃ j, ts.length = j := ⟨_, rfl⟩
      have hjl : j ≤ (xs.take (m / 2)).length := by have := allF_len (xs.take (m / 2)).length 0 (xs.take (m / 2)); rw [hts, hj] at this; exact this
      have hjb : j ≤ 8388608 := by have h1 := HM.out; have h2 : (xs.take (m / 2)).length ≤ 8388608 := (by have := HHL.out; omega); omega
      have hout := allF_out (xs.take (m / 2)).length 0 (xs.take (m / 2))
      rw [hts] at hout
      have HTS := Lib.hid hts
      have HJ := Lib.hid hj
      have HOUT := Lib.hid hout
      clear hts hj hout hk4 hjl
      go_wp2_with fail
      refine (all_own (m / 2) _ _ (xs.take (m / 2)) _ HHL.out (HR2H.out.below hbr hbr.size) (by have := HHL.out; omega) (by have := HHL.out; omega) (fun z hz => HXB.out z (List.mem_of_mem_take hz)) ts j HTS.out HJ.out).mono ?_
      rintro en w6 ⟨A6, c6, xs6, rfl, hr6, ht6, hc6, hm6, hb6a⟩
      have HR6 := Lib.hid hr6
      have HT6 := Lib.hid ht6
      clear hr6 ht6
      go_wp2_with fail
      refine (allL_own (m / 2) _ _ (xs.take (m / 2)) _ HHL.out (((HR2H.out.below hbr hbr.size)).below hb6a hb6a.size) (by have := HHL.out; omega) (by have := HHL.out; omega) (fun z hz => HXB.out z (List.mem_of_mem_take hz)) ts j HTS.out HJ.out).mono ?_
      rintro en w7 ⟨A7, c7, xs7, rfl, hr7, ht7, hc7, hm7, hb7⟩
      have HR7 := Lib.hid hr7
      have HT7 := Lib.hid ht7
      clear hr7 ht7
      go_wp2_with fail
      refine (same_own j _ _ _ _ ts xs6 xs7 w7.heap.size _ HJ.out.symm (HR6.out.below hb7 hb7.size) (HT6.out.below hb7 hb7.size) HR7.out HT7.out (by rw [HJ.out]; omega) (fun t ht => by have := HOUT.out t ht; omega)).mono ?_
      rintro en w8 ⟨rfl, hb8⟩
      go_wp2
      go_roundw
      case rel => exact ⟨2 + 1, by omega, by go_num, hbr.trans ((below_trans _ _ _ (below_trans _ _ _ hb6a hb7) hb8).mono hbr.size)⟩
      case measure => simp [intOf]
    · have k1 := (hbr.cell (p := ⟨g, 3, none⟩) hg5).trans HQ3.out
      obtain ⟨ts, hts⟩ : ∃ ts, allF (xs ++ zs).length 0 (xs ++ zs) = ts := ⟨_, rfl⟩
      obtain ⟨j, hj⟩ : ∃ j, ts.length = j := ⟨_, rfl⟩
      have hjl : j ≤ (xs ++ zs).length := by have := allF_len (xs ++ zs).length 0 (xs ++ zs); rw [hts, hj] at this; exact this
      have hjb : j ≤ 8388608 := by have h1 := HM.out; have h2 : (xs ++ zs).length ≤ 8388608 := (by have := HM.out; rw [List.length_append]; omega); omega
      have hout := allF_out (xs ++ zs).length 0 (xs ++ zs)
      rw [hts] at hout
      have HTS := Lib.hid hts
      have HJ := Lib.hid hj
      have HOUT := Lib.hid hout
      clear hts hj hout hk4 hjl
      go_wp2_with fail
      refine (all_own (m + zs.length) _ _ (xs ++ zs) _ (by rw [List.length_append, HM.out]) (HR5W.out.below hbr hbr.size) (by have := HM.out; rw [List.length_append]; omega) (by have := HM.out; rw [List.length_append]; omega) (fun z hz => (List.mem_append.1 hz).elim (HXB.out z) (HB.out z)) ts j HTS.out HJ.out).mono ?_
      rintro en w6 ⟨A6, c6, xs6, rfl, hr6, ht6, hc6, hm6, hb6a⟩
      have HR6 := Lib.hid hr6
      have HT6 := Lib.hid ht6
      clear hr6 ht6
      go_wp2_with fail
      refine (allL_own (m + zs.length) _ _ (xs ++ zs) _ (by rw [List.length_append, HM.out]) (((HR5W.out.below hbr hbr.size)).below hb6a hb6a.size) (by have := HM.out; rw [List.length_append]; omega) (by have := HM.out; rw [List.length_append]; omega) (fun z hz => (List.mem_append.1 hz).elim (HXB.out z) (HB.out z)) ts j HTS.out HJ.out).mono ?_
      rintro en w7 ⟨A7, c7, xs7, rfl, hr7, ht7, hc7, hm7, hb7⟩
      have HR7 := Lib.hid hr7
      have HT7 := Lib.hid ht7
      clear hr7 ht7
      go_wp2_with fail
      refine (same_own j _ _ _ _ ts xs6 xs7 w7.heap.size _ HJ.out.symm (HR6.out.below hb7 hb7.size) (HT6.out.below hb7 hb7.size) HR7.out HT7.out (by rw [HJ.out]; omega) (fun t ht => by have := HOUT.out t ht; omega)).mono ?_
      rintro en w8 ⟨rfl, hb8⟩
      go_wp2
      go_roundw
      case rel => exact ⟨3 + 1, by omega, by go_num, hbr.trans ((below_trans _ _ _ (below_trans _ _ _ hb6a hb7) hb8).mono hbr.size)⟩
      case measure => simp [intOf]
end Go.Proofs.Ytfhjphemeddjcaa
