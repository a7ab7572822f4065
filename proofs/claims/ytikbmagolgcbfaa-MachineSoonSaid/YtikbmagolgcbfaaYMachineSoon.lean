/- MachineSoon: the walk. -/
import Derived.Test.YtikbmagolgcbfaaZ17
import Derived.Test.YtikbmagolgcbfaaZ1
import Derived.Test.YtikbmagolgcbfaaZ13
import Derived.Test.YtikbmagolgcbfaaZ11
namespace Go.Proofs.Ytikbmagolgcbfaa
set_option linter.unusedVariables false
set_option linter.unusedSimpArgs false
set_option linter.unnecessarySimpa false
open Go.RowKit
set_option maxRecDepth 100000 in
set_option maxHeartbeats 12800000 in
theorem machineSoon_any (n : Nat) (A : Option Addr) (c : Nat) (rows : List RowL) (A' : Option Addr) (c' : Nat) (zs : List Int) (w : World) (hr : RwAt w w.heap.size A n c rows) (hz : Rd w w.heap.size A' (zs.map (Value.int .u8))) (hzr : ∀ z ∈ zs, 0 ≤ z ∧ z ≤ 255) (hzc : zs.length ≤ c') (hzm : c' ≤ maxLen) :
    Calls Try.prog 8 #[.slice A n c, .slice A' zs.length c'] w fun e w' => e = .returned (.bool true) ∧ Below w.heap.size w w' := by
  obtain ⟨rs, hrs⟩ : ∃ rs, tabR (rightR (rulesR rows)) = rs := ⟨_, rfl⟩
  obtain ⟨hck, hcl, hct, h40⟩ := tab_good rows
  rw [hrs] at hck hcl hct h40
  have HCL := Lib.hid hcl
  have HGT := Lib.hid (good_of hct)
  have HG := Lib.hid (good_of hck)
  obtain ⟨N, hN⟩ : ∃ N, N = rs.length := ⟨_, rfl⟩
  obtain ⟨Z, hZ⟩ : ∃ Z, Z = zs.length := ⟨_, rfl⟩
  obtain ⟨us, hus⟩ : ∃ us, fewM zs = us := ⟨_, rfl⟩
  obtain ⟨M, hM⟩ : ∃ M, us.length = M := ⟨_, rfl⟩
  have hM60 : M ≤ 60 := by rw [← hM, ← hus]; exact fewM_len zs
  rw [← hZ] at hzc ⊢
  rw [← hN] at h40
  have HZM := Lib.hid hzm
  have HR := Lib.hid hr
  have HRS := Lib.hid hrs
  have HCK := Lib.hid hck
  have HN := Lib.hid hN
  have HZ := Lib.hid hz
  have HZR := Lib.hid hzr
  have HZL := Lib.hid hZ
  have HUS := Lib.hid hus
  have HM := Lib.hid hM
  clear hr hrs hck hcl hct hN hz hzr hZ hus hM hzm
  go_enter Try.func8, Try.ntmps8
  go_wp2_with fail
  refine (awake16_any _).mono ?_
  rintro e w1 ⟨rfl, hb1⟩
  have hs1 := hb1.size
  go_wp2_with fail
  refine (ltab_any n A c rows w1.heap.size _ (HR.out.below hb1 hs1) (Nat.le_refl _) rs HRS.out).mono ?_
  rintro e w2 ⟨v2, rfl, ho2, hb2⟩
  have hs2 := hb2.size
  obtain ⟨A2, c2, rfl, hat2⟩ := ho2.form
  rw [← HN.out] at hat2 ⊢
  have HAT2 := Lib.hid hat2
  clear ho2 hat2
  go_wp2_with fail
  refine (tab_of_ok N A2 c2 rs w2.heap.size _ HAT2.out (Nat.le_refl _) (by omega) HCK.out HCL.out).mono ?_
  rintro e w3 ⟨T, rfl, ho, hb3⟩
  have hs3 := hb3.size
  have HO := Lib.hid ho
  have HAT3 := Lib.hid (HAT2.out.below hb3 hs3)
  have hbE3 : Below w.heap.size w w3 := hb1.trans ((hb2.trans (hb3.mono hs2)).mono hs1)
  have HB3 := Lib.hid hbE3
  have hsE := hbE3.size
  clear ho hb1 hb2 hb3 hbE3 HAT2
  go_wp2_with fail
  refine (mdecode_any w3 w3.heap.size T rs HO.out (Nat.le_refl _)).mono ?_
  rintro e w4 ⟨p, T1, B1, rfl, ht1, hB1, hs1', hm, hb4⟩
  have hpl := hm.lt
  have HT1 := Lib.hid ht1
  have HMA := Lib.hid hm
  have HB34 := Lib.hid hb4
  have HB4 := Lib.hid (HB3.out.trans (hb4.mono hsE))
  have hs4 := hb4.size
  clear ht1 hm hb4
  go_wp2_with fail
  refine (few_any Z A' c' zs w.heap.size w4 HZL.out (HZ.out.below HB4.out (Nat.le_refl _)) HZR.out HB4.out.size hzc HZM.out us M HUS.out HM.out).mono ?_
  rintro e w5 ⟨A5, c5, rfl, hu5, hb5⟩
  have hs5 := hb5.size
  have hu5' : Us (fun b => b ≠ p) w5 (.slice A5 M c5) us := hu5.step (Nat.le_refl _) fun b _ hx => ⟨(by have : w4.heap.size ≤ b := hx; omega), rfl⟩
  have HU5 := Lib.hid hu5'
  have HM5 := Lib.hid (HMA.out.below hb5 hpl)
  have HT5 := Lib.hid (HT1.out.below (hb5.mono (by omega)) (Nat.le_refl _))
  have HB5 := Lib.hid (HB4.out.trans (hb5.mono HB4.out.size))
  have hsw := HB5.out.size
  clear hu5 hu5' hb5 HMA HT1 HB34 HB4 HAT3 HO
  go_wp2
  go_loopw [8, 34] (fun a i wr => ∃ (K : Nat) (q : List Int) (st x : Int), K ≤ M ∧ i = .int .i64 K ∧ a = .int .i64 x ∧ Hid (x + q.length = K) ∧ Hid (MS rs us K q st) ∧ Hid (MAt wr p T1 q ((K : Int) - q.length) st) ∧ Hid (w5.grownBy wr (some p))) (fun _ i _ => M - (intOf i).toNat)
  case atStart => exact ⟨0, [], 0, 0, by omega, rfl, rfl, Lib.hid rfl, Lib.hid (MS.start _ _), HM5, Lib.hid (grownR _ _)⟩
  case round =>
    obtain ⟨K, q, st, x, hK, rfl, rfl, HXK, HS, HMR, HGR⟩ := hrel
    have HUR := Lib.hid (HU5.out.past HGR.out (fun b hb => hb))
    have hsr := HGR.out.size
    by_cases hKn : K = M
    · have hK' : ¬ K < M := by omega
      have HF := Lib.hid (below_grownP HB5.out HGR.out (by omega) hsw)
      clear hKn
      go_wp2
      go_ret
      exact ⟨rfl, HF.out⟩
    have hK' : K < M := by omega
    have hK1 : K < us.length := by rw [HM.out]; exact hK'
    have k3 : (0 : Int) ≤ K := by omega
    have k4 : (K : Int) < M := by omega
    obtain ⟨Au, cu, eu, gu1, gu2, gu3⟩ := HUR.out
    obtain ⟨rfl, rfl⟩ : A5 = Au ∧ c5 = cu := by injection eu with a b c; exact ⟨a, c⟩
    obtain ⟨b3, o3, rfl, -, hc3⟩ := rd_ints (gu3.rd (Nat.le_refl _)) (by omega)
    have r3 := hc3 K hK1
    obtain ⟨u, hu⟩ : ∃ u, us.getD K 0 = u := ⟨_, rfl⟩
    rw [hu] at r3
    obtain ⟨t2, rest, k, hd⟩ : ∃ t2 rest k, drain rs ((K : Int) - q.length) (q ++ [u]) = (t2, rest, k) := ⟨_, _, _, rfl⟩
    have hdu := hd
    rw [← hu] at hdu
    have hq7 := opens_lt HG.out HS.out.open_
    have hql := HS.out.len
    obtain ⟨hst0, hst1⟩ := HS.out.steps
    obtain ⟨hms2, ht8, hr7⟩ := HS.out.step HG.out hK1 hdu
    have hsum := HG.out.drain_sum hd
    have hsz := HG.out.drain_sizes hd
    have hxk := HXK.out
    have hfin : x + sumT t2 + rest.length = K + 1 := by simp at hsum; omega
    have hx0 : 0 ≤ x ∧ x ≤ 60 := by omega
    have hsT : sumT t2 ≤ 68 := by simp at hsum; omega
    have HFIN := Lib.hid hfin
    have HMS2 := Lib.hid hms2
    have HSZ := Lib.hid hsz
    have P1 := Lib.hid (mput_any wr p T1 q _ st u HMR.out hq7 B1 rs (HT5.out.below (below_of HGR.out hB1 (by omega)) (Nat.le_refl _)) hB1 (by omega) (by omega) (by omega) (by omega) t2 rest k hd)
    clear hKn hd hdu hms2 hsum hsz hxk hfin eu gu1 gu2 gu3 hc3 hu HS HMR HXK HUR
    go_wp2_with fail
    refine P1.out.mono ?_
    rintro e w6 ⟨v6, rfl, ho6, hm6, hg6⟩
    rw [show (K : Int) - q.length + q.length + 1 - rest.length = ((K + 1 : Nat) : Int) - rest.length from by omega] at hm6
    obtain ⟨A6, c6, rfl, hat6⟩ := ho6.own.form
    obtain ⟨L, hL⟩ : ∃ L, t2.length = L := ⟨_, rfl⟩
    rw [hL] at hat6 ht8 ⊢
    have HAT6 := Lib.hid hat6
    have HM6 := Lib.hid hm6
    have HG6 := Lib.hid (grown_seq HGR.out hg6)
    have HL := Lib.hid hL
    have hp6 := hm6.lt
    clear ho6 hat6 hm6 hg6 hL P1 r3 HGR
    obtain ⟨wo, rfl⟩ : ∃ wo : World, wo = wr := ⟨_, rfl⟩
    go_wp2
    go_loopw [8, 43] (fun a j wx => ∃ (J : Nat) (y : Int), J ≤ L ∧ j = .int .i64 J ∧ a = .int .i64 y ∧ Hid (y = x + sumT (t2.take J)) ∧ Hid (Below w6.heap.size w6 wx)) (fun _ j _ => L - (intOf j).toNat)
    case atStart => exact ⟨0, x, by omega, rfl, rfl, by show _ = _; simp [sumT], Lib.hid (Below.refl _ _)⟩
    case round =>
      obtain ⟨J, y, hJ, rfl, rfl, HY, HBX⟩ := hrel
      have hpt := sumT_part t2 J HSZ.out
      have hy := HY.out
      have hyb : 0 ≤ y ∧ y ≤ 128 := by omega
      by_cases hJn : J = L
      · have hJ' : ¬ J < L := by omega
        have hy2 : y + rest.length = (K : Int) + 1 := by
          rw [hy, List.take_of_length_le (by rw [HL.out]; omega)]; exact HFIN.out
        obtain ⟨Rl, hRl⟩ : ∃ Rl, rest.length = Rl := ⟨_, rfl⟩
        rw [hRl] at hy2
        have HM7 := Lib.hid (HM6.out.below HBX.out hp6)
        have HG7 := Lib.hid (grown_seq HG6.out (grown_below (p := some p) HBX.out))
        have HRL := Lib.hid hRl
        have hne : (y + (Rl : Int) != (K : Int) + 1) = false := by simp; exact hy2
        have hw1 : IntKind.i64.wrap (y + (Rl : Int)) = y + Rl := by rw [IntKind.wrap_i64]; omega
        clear hpt hy HY hJn hRl
        go_wp2_with fail
        refine (mheld_any wr p T1 _ _ _ HM7.out Rl HRL.out).mono ?_
        rintro e w7 ⟨rfl, hw7⟩
        subst hw7
        go_wp2
        go_roundw
        case rel => exact ⟨K + 1, rest, st + k, y, by omega, by go_num, rfl, by show _ = _; rw [HRL.out]; omega, HMS2, HM7, HG7⟩
        case measure => simp [intOf]; omega
      have hJ' : J < L := by omega
      have hJ1 : J < t2.length := by rw [HL.out]; exact hJ'
      have j3 : (0 : Int) ≤ J := by omega
      have j4 : (J : Int) < L := by omega
      have hst := sumT_take hJ1
      have hpt2 := sumT_part t2 (J + 1) HSZ.out
      obtain ⟨b6, o6, rfl, hb6, A7, n7, c7, q0, q1, q2, q3, -⟩ := (HAT6.out.below HBX.out (Nat.le_refl _)).at hJ1
      obtain ⟨t, ht⟩ : ∃ t, t2[J] = t := ⟨_, rfl⟩
      rw [ht] at q0 q1 q3 hst
      obtain ⟨tp, tz, tu, te⟩ := t
      simp only at q0 q1 q3 hst
      have hyz : 0 ≤ y + tz ∧ y + tz ≤ 128 := by omega
      have hwz : IntKind.i64.wrap (y + tz) = y + tz := by rw [IntKind.wrap_i64]; omega
      have HY2 := Lib.hid (show y + tz = x + sumT (t2.take (J + 1)) by rw [hst]; omega)
      have HBX2 := Lib.hid (show ∀ o, Below w6.heap.size w6 (wr.alloc o) from fun o => HBX.out.alloc HBX.out.size o)
      clear hst hpt hpt2 hy ht hJn HY hJ1
      go_wp2
      go_roundw
      case rel => exact ⟨J + 1, y + tz, by omega, by go_num, by go_num, HY2, Lib.hid (HBX2.out _)⟩
      case measure => simp [intOf]; omega
end Go.Proofs.Ytikbmagolgcbfaa
