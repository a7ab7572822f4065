/- Layer 8: the law's may; Check, and the law's check. -/
import Derived.Test.YtgeecngpmcjdpaaDoorWttA
import Derived.Test.YtgeecngpmcjdpaaDoorMixe
import Derived.BigQuiet
import Derived.Deep.QuietTactic
namespace Go.Proofs.YtgeecngpmcjdpaaDoor
set_option linter.unusedVariables false
open Go.RowKit

theorem bb_f {a b : Bool} (h : a = false) (h' : b = false) : a = b := by rw [h, h']
set_option maxHeartbeats 1600000 in
theorem mayL_any (a b l : Int) (w : World) (h0 : 0 ≤ a ∧ a ≤ 255) (h1 : 0 ≤ b ∧ b ≤ 255) (hl : -9223372036854775808 ≤ l ∧ l ≤ 9223372036854775807) :
    Calls Tryd.prog 14 #[.int .u8 a, .int .u8 b, .int .i64 l] w fun e w' => e = .returned (.bool (mayF a b l)) ∧ Below w.heap.size w w' := by
  obtain ⟨ra0, ra1⟩ := clF_range a
  obtain ⟨rb0, rb1⟩ := clF_range b
  have CA := Lib.hid (classL_any a w h0.1 h0.2)
  have CB := fun w' : World => classL_any b w' h1.1 h1.2
  have hrun := fun W : World => all_index (P := Tryd.prog) W 9 .i64 (clF a) (clF b) (by kernel_rfl) ⟨ra0, ra1⟩ ⟨rb0, rb1⟩
  have RR := rowsL_any w
  obtain ⟨r, hr⟩ : ∃ r, mayF a b l = r := ⟨_, rfl⟩
  have hr' := hr
  rw [hr]
  unfold mayF at hr'
  obtain ⟨ca, hca⟩ : ∃ x, clF a = x := ⟨_, rfl⟩
  obtain ⟨cb, hcb⟩ : ∃ x, clF b = x := ⟨_, rfl⟩
  rw [hca] at CA hrun hr' ra0 ra1
  rw [hcb] at CB hrun hr' rb0 rb1
  obtain ⟨k, hk⟩ : ∃ x, kdF ca cb = x := ⟨_, rfl⟩
  rw [hk] at hrun hr'
  obtain ⟨S, hS⟩ : ∃ S, allB = S := ⟨_, rfl⟩
  rw [hS] at hrun RR
  have CB := Lib.hid CB
  have RR := Lib.hid RR
  clear hca hcb hk hr hS
  have fin : ∀ (w1 w2 : World) (s : Bool), r = s → Below w.heap.size w w1 → Below w1.heap.size w1 w2 → Ending.returned (.bool s) = .returned (.bool r) ∧ Below w.heap.size w w2 := fun w1 w2 s h hb hb' => ⟨ret_bool h, hb.trans (hb'.mono hb.size)⟩
  have fin := Lib.hid fin
  by_cases k1 : k = 82
  · subst k1
    by_cases hl0 : l ≤ 0
    · have HR := Lib.hid (show r = true by rw [← hr']; simp [mayK, hl0])
      clear hr'
      go_enter Tryd.func14, Tryd.ntmps14
      go_wp2_with fail
      refine RR.out.mono ?_
      rintro e w' ⟨rfl, rfl⟩
      go_wp2_with fail
      refine CA.out.mono ?_
      rintro e w1 ⟨rfl, hb1⟩
      go_wp2_with fail
      refine (CB.out _).mono ?_
      rintro e w2 ⟨rfl, hb2⟩
      go_wp2
      go_ret
      exact fin.out w1 _ _ HR.out hb1 hb2
    · have HR := Lib.hid (show r = decide (l ≤ 0) by rw [← hr']; simp [mayK])
      clear hr'
      go_enter Tryd.func14, Tryd.ntmps14
      go_wp2_with fail
      refine RR.out.mono ?_
      rintro e w' ⟨rfl, rfl⟩
      go_wp2_with fail
      refine CA.out.mono ?_
      rintro e w1 ⟨rfl, hb1⟩
      go_wp2_with fail
      refine (CB.out _).mono ?_
      rintro e w2 ⟨rfl, hb2⟩
      go_wp2
      go_ret
      exact fin.out w1 _ _ HR.out hb1 hb2
  · by_cases k2 : k = 83
    · subst k2
      by_cases hl0 : l ≤ 1
      · have HR := Lib.hid (show r = true by rw [← hr']; simp [mayK, hl0])
        clear hr' k1
        go_enter Tryd.func14, Tryd.ntmps14
        go_wp2_with fail
        refine RR.out.mono ?_
        rintro e w' ⟨rfl, rfl⟩
        go_wp2_with fail
        refine CA.out.mono ?_
        rintro e w1 ⟨rfl, hb1⟩
        go_wp2_with fail
        refine (CB.out _).mono ?_
        rintro e w2 ⟨rfl, hb2⟩
        go_wp2
        go_ret
        exact fin.out w1 _ _ HR.out hb1 hb2
      · have HR := Lib.hid (show r = decide (l ≤ 1) by rw [← hr']; simp [mayK])
        clear hr' k1
        go_enter Tryd.func14, Tryd.ntmps14
        go_wp2_with fail
        refine RR.out.mono ?_
        rintro e w' ⟨rfl, rfl⟩
        go_wp2_with fail
        refine CA.out.mono ?_
        rintro e w1 ⟨rfl, hb1⟩
        go_wp2_with fail
        refine (CB.out _).mono ?_
        rintro e w2 ⟨rfl, hb2⟩
        go_wp2
        go_ret
        exact fin.out w1 _ _ HR.out hb1 hb2
    · have HR := Lib.hid (show r = true by rw [← hr']; simp [mayK, k1, k2])
      have n1 : (k != 82) = true := by simpa using k1
      have n2 : (k != 83) = true := by simpa using k2
      have n3 : (k == 82) = false := by simpa using k1
      have n4 : (k == 83) = false := by simpa using k2
      clear hr'
      go_enter Tryd.func14, Tryd.ntmps14
      go_wp2_with fail
      refine RR.out.mono ?_
      rintro e w' ⟨rfl, rfl⟩
      go_wp2_with fail
      refine CA.out.mono ?_
      rintro e w1 ⟨rfl, hb1⟩
      go_wp2_with fail
      refine (CB.out _).mono ?_
      rintro e w2 ⟨rfl, hb2⟩
      go_wp2
      go_ret
      exact fin.out w1 _ _ HR.out hb1 hb2

theorem ok_next {zs : List Int} {l : Int} {K : Nat} (h : ∀ j, 1 ≤ j → j < K → okAt zs l j = true) (hk : okAt zs l K = true) : ∀ j, 1 ≤ j → j < K + 1 → okAt zs l j = true := by
  intro j h1 h2
  rcases Nat.lt_or_ge j K with h3 | h3
  · exact h j h1 h3
  · obtain rfl : j = K := by omega
    exact hk

set_option maxHeartbeats 1600000 in
theorem check_any (n : Nat) (A : Option Addr) (c : Nat) (zs : List Int) (l : Int) (B : Nat) (w : World) (hn : n = zs.length) (hr : Rd w B A (zs.map (Value.int .u8))) (hz : ∀ z ∈ zs, 0 ≤ z ∧ z ≤ 255) (hm : n ≤ 9223372036854775806)
    (hl : -9223372036854775808 ≤ l ∧ l ≤ 9223372036854775807) (hw : Wt w) :
    Calls Tryd.prog 15 #[.slice A n c, .int .i64 l] w fun e w' => e = .returned (.int .i64 (chkF zs l)) ∧ ∃ m, w' = w.drewN m := by
  have HN := Lib.hid hn
  have HR := Lib.hid hr
  have HZ := Lib.hid hz
  have HW := Lib.hid hw
  obtain ⟨v, hv⟩ : ∃ v, chkF zs l = v := ⟨_, rfl⟩
  rw [hv]
  have HV := Lib.hid hv
  clear hn hr hz hw hv
  go_enter Tryd.func15, Tryd.ntmps15
  go_wp2
  go_loopw [5] (fun i wr => ∃ K : Nat, 1 ≤ K ∧ (K ≤ n ∨ K = 1) ∧ i = .int .i64 K ∧ Hid (∃ m, wr = w.drewN m) ∧ Hid (∀ j, 1 ≤ j → j < K → okAt zs l j = true)) (fun i _ => n - (intOf i).toNat)
  case atStart => exact ⟨1, by omega, by omega, rfl, ⟨0, rfl⟩, by intro j h1 h2; omega⟩
  case round =>
    obtain ⟨K, hK1, hK, rfl, hd, ht⟩ := hrel
    by_cases hKn : n ≤ K
    · have hK' : ¬ K < n := by omega
      have HE := Lib.hid (show (-1 : Int) = v by rw [← HV.out]; exact (chk_none fun j h1 h2 => ht.out j h1 (by rw [← HN.out] at h2; omega)).symm)
      go_wp2
      go_ret
      exact ⟨ret_int HE.out.symm, hd.out⟩
    have hK' : K < n := by omega
    have hKl : K < zs.length := by rw [← HN.out]; exact hK'
    obtain ⟨b, o, rfl, _, hc⟩ := rd_ints HR.out (by omega)
    have c1 := hc K hKl
    have c0 := hc (K - 1) (by omega)
    obtain ⟨x0, x1⟩ := getD_range HZ.out K hKl
    obtain ⟨y0, y1⟩ := getD_range HZ.out (K - 1) (by omega)
    obtain ⟨p, hp⟩ : ∃ p, zs.getD K 0 = p := ⟨_, rfl⟩
    obtain ⟨q, hq⟩ : ∃ q, zs.getD (K - 1) 0 = q := ⟨_, rfl⟩
    rw [hp] at c1 x0 x1
    rw [hq] at c0 y0 y1
    have hok : okAt zs l K = mayF q p l := by unfold okAt; rw [hp, hq]
    obtain ⟨J, rfl⟩ : ∃ J, K = J + 1 := ⟨K - 1, by omega⟩
    rw [show J + 1 - 1 = J from rfl] at c0
    have j0 : (0 : Int) ≤ J := by omega
    have j1 : (J : Int) < n := by omega
    have j2 : ((J : Int) + 1) < n := by omega
    have jw : IntKind.i64.wrap (J : Int) = J := by rw [IntKind.wrap_i64]; omega
    have j3 : (0 : Int) ≤ (J : Int) + 1 := by omega
    have j4 : ((J : Int) + 1).toNat = J + 1 := by omega
    have HWr : Hid (∀ k, Wt (wr.drewN k)) := Lib.hid fun k => by obtain ⟨m, rfl⟩ := hd.out; exact (HW.out.below (below_drewN (Below.refl _ _) m)).below (below_drewN (Below.refl _ _) k)
    have HC1 := Lib.hid c1
    have HC0 := Lib.hid c0
    replace c1 : wr.cell? ⟨b, o + (J + 1), none⟩ = some (.int .u8 p) := by obtain ⟨m, rfl⟩ := hd.out; exact HC1.out
    replace c0 : wr.cell? ⟨b, o + J, none⟩ = some (.int .u8 q) := by obtain ⟨m, rfl⟩ := hd.out; exact HC0.out
    obtain ⟨r, hr⟩ : ∃ r, mayF q p l = r := ⟨_, rfl⟩
    rw [hr] at hok
    have HM := Lib.hid (show ∀ k, Calls Tryd.prog 13 #[.int .u8 q, .int .u8 p, .int .i64 l] (wr.drewN k) fun e w' => e = .returned (.bool r) ∧ w' = wr.drewN k from fun k => by rw [← hr]; exact may_any q p l _ ⟨y0, y1⟩ ⟨x0, x1⟩ hl (HWr.out k))
    have HOK := Lib.hid hok
    clear hc hp hq hok hr
    cases r with
    | true =>
      have HT := Lib.hid (ok_next ht.out HOK.out)
      go_wp2_with fail
      go_quiet (go_loud (go_at_call 13; exact Calls.quiet_of_same (HM.out _)))
      go_wp2
      go_roundw
      case rel => exact ⟨J + 1 + 1, by omega, by omega, by go_num, by obtain ⟨m, rfl⟩ := hd.out; exact ⟨_, World.drewN_drewN _ _ _⟩, HT⟩
      case measure => simp [intOf]; omega
    | false =>
      have HE := Lib.hid (show ((J : Int) + 1) = v by rw [← HV.out, chk_some ht.out (by omega) hKl HOK.out]; omega)
      go_wp2_with fail
      go_quiet (go_loud (go_at_call 13; exact Calls.quiet_of_same (HM.out _)))
      go_wp2
      go_ret
      exact ⟨ret_int HE.out.symm, by obtain ⟨m, rfl⟩ := hd.out; exact ⟨_, World.drewN_drewN _ _ _⟩⟩

set_option maxHeartbeats 1600000 in
theorem checkL_any (n : Nat) (A : Option Addr) (c : Nat) (zs : List Int) (l : Int) (B : Nat) (w : World) (hB : B ≤ w.heap.size) (hn : n = zs.length) (hr : Rd w B A (zs.map (Value.int .u8))) (hz : ∀ z ∈ zs, 0 ≤ z ∧ z ≤ 255) (hm : n ≤ 9223372036854775806)
    (hl : -9223372036854775808 ≤ l ∧ l ≤ 9223372036854775807) :
    Calls Tryd.prog 16 #[.slice A n c, .int .i64 l] w fun e w' => e = .returned (.int .i64 (chkF zs l)) ∧ Below w.heap.size w w' := by
  have HN := Lib.hid hn
  have HR := Lib.hid hr
  have HZ := Lib.hid hz
  obtain ⟨v, hv⟩ : ∃ v, chkF zs l = v := ⟨_, rfl⟩
  rw [hv]
  have HV := Lib.hid hv
  clear hn hr hz hv
  go_enter Tryd.func16, Tryd.ntmps16
  go_wp2
  go_loopw [8] (fun i wr => ∃ K : Nat, K ≤ n ∧ i = .int .i64 K ∧ Hid (∀ j, 1 ≤ j → j < K → okAt zs l j = true) ∧ Below w.heap.size w wr) (fun i _ => n - (intOf i).toNat)
  case atStart => exact ⟨0, by omega, rfl, by intro j h1 h2; omega, Below.refl _ _⟩
  case round =>
    obtain ⟨K, hK, rfl, ht, hb⟩ := hrel
    by_cases hKn : K = n
    · have hK' : ¬ K < n := by omega
      have HE := Lib.hid (show (-1 : Int) = v by rw [← HV.out]; exact (chk_none fun j h1 h2 => ht.out j h1 (by rw [← HN.out] at h2; omega)).symm)
      clear hKn
      go_wp2
      go_ret
      exact ⟨ret_int HE.out.symm, hb⟩
    have hK' : K < n := by omega
    by_cases h0 : K = 0
    · subst h0
      have HT := Lib.hid (show ∀ j, 1 ≤ j → j < 0 + 1 → okAt zs l j = true by intro j h1 h2; omega)
      go_wp2_with fail
      go_quiet (fail)
      go_wp2
      go_roundw
      case rel => exact ⟨0 + 1, by omega, by go_num, HT, below_drewN hb _⟩
      case measure => simp [intOf]; omega
    have hKl : K < zs.length := by rw [← HN.out]; exact hK'
    obtain ⟨b, o, rfl, hlt, hc⟩ := rd_ints (HR.out.below (hb.mono hB) (Nat.le_refl _)) (by omega)
    have c1 := hc K hKl
    have c0 := hc (K - 1) (by omega)
    have hlt' : b < wr.heap.size := by have := hb.size; omega
    obtain ⟨x0, x1⟩ := getD_range HZ.out K hKl
    obtain ⟨y0, y1⟩ := getD_range HZ.out (K - 1) (by omega)
    obtain ⟨p, hp⟩ : ∃ p, zs.getD K 0 = p := ⟨_, rfl⟩
    obtain ⟨q, hq⟩ : ∃ q, zs.getD (K - 1) 0 = q := ⟨_, rfl⟩
    rw [hp] at c1 x0 x1
    rw [hq] at c0 y0 y1
    have hok : okAt zs l K = mayF q p l := by unfold okAt; rw [hp, hq]
    obtain ⟨J, rfl⟩ : ∃ J, K = J + 1 := ⟨K - 1, by omega⟩
    rw [show J + 1 - 1 = J from rfl] at c0
    have j0 : (0 : Int) ≤ J := by omega
    have j1 : (J : Int) < n := by omega
    have j2 : ((J : Int) + 1) < n := by omega
    have g1 : decide ((0 : Int) < (J : Int) + 1) = true := by rw [decide_eq_true_iff]; omega
    obtain ⟨r, hr⟩ : ∃ r, mayF q p l = r := ⟨_, rfl⟩
    rw [hr] at hok
    have HM := Lib.hid (show Calls Tryd.prog 14 #[.int .u8 q, .int .u8 p, .int .i64 l] wr.drew fun e w' => e = .returned (.bool r) ∧ Below wr.drew.heap.size wr.drew w' by rw [← hr]; exact mayL_any q p l _ ⟨y0, y1⟩ ⟨x0, x1⟩ hl)
    have HOK := Lib.hid hok
    have HBR := Lib.hid hb
    clear hc hp hq hok hr hb
    have walk : ∀ (fin : True), True := fun _ => trivial
    go_wp2_with fail
    refine wp_region_mixe (G := fun w w' => Below w.heap.size w w') [(0, false), (1, false), (2, false), (3, false), (4, false), (5, false), (6, false), (7, false), (8, false), (9, false), (10, false), (11, false), (12, false), (13, true), (14, false), (15, false)]
      below_refl below_trans (by kernel_rfl) rfl (by kernel_rfl) (by kernel_rfl) ?_
    iterate 7 (refine mixe_one rfl rfl ?_; go_big_quiet_step ((intro _; rfl)); refine wpQuiet_nil ?_)
    refine mixe_one rfl rfl ?_
    go_big_quiet_step ((intro hh; rw [(hh.cell (p := ⟨b, o + J, none⟩) hlt').trans c0]; exact ⟨rfl, rfl⟩))
    refine wpQuiet_nil ?_
    iterate 3 (refine mixe_one rfl rfl ?_; go_big_quiet_step ((intro _; rfl)); refine wpQuiet_nil ?_)
    refine mixe_one rfl rfl ?_
    go_big_quiet_step ((intro hh; rw [(hh.cell (p := ⟨b, o + (J + 1), none⟩) hlt').trans c1]; exact ⟨rfl, rfl⟩))
    refine wpQuiet_nil ?_
    refine mixe_one rfl rfl ?_
    go_big_quiet_step ((intro _; rfl))
    refine wpQuiet_nil ?_
    refine mixe_call rfl ?_
    go_wp2_with fail
    refine HM.out.mono ?_
    rintro e w3 ⟨rfl, hb3⟩
    go_wp2_with fail
    refine ⟨hb3, ?_⟩
    have HB3 := Lib.hid (show Below w.heap.size w w3 from HBR.out.trans (((Below.refl _ _).drew.trans hb3).mono HBR.out.size))
    clear hb3
    cases r with
    | true =>
      have HT := Lib.hid (ok_next ht.out HOK.out)
      iterate 2 (refine mixe_one rfl rfl ?_; go_big_quiet_step ((intro _; rfl)); refine wpQuiet_nil ?_)
      refine NoPanic.normal ?_
      go_wp2
      go_roundw
      case rel => exact ⟨J + 1 + 1, by omega, by go_num, HT, HB3.out⟩
      case measure => simp [intOf]; omega
    | false =>
      have HE := Lib.hid (show ((J : Int) + 1) = v by rw [← HV.out, chk_some ht.out (by omega) hKl HOK.out]; omega)
      iterate 2 (refine mixe_one rfl rfl ?_; go_big_quiet_step ((intro _; rfl)); refine wpQuiet_nil ?_)
      refine NoPanic.normal ?_
      go_wp2
      go_ret
      exact ⟨ret_int HE.out.symm, HB3.out⟩
end Go.Proofs.YtgeecngpmcjdpaaDoor
