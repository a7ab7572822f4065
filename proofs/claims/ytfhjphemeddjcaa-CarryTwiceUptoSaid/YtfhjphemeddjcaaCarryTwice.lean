/- CarryTwice: the walk. -/
import Derived.Test.YtfhjphemeddjcaaCarryG
namespace Go.Proofs.Ytfhjphemeddjcaa
set_option linter.unusedVariables false
open Go.RowKit

set_option maxHeartbeats 3200000 in
theorem carryTwice_any (A : Option Addr) (cap : Nat) (za : List Int) (A' : Option Addr) (cap' : Nat) (zb : List Int) (w : World)
    (hr : Rd w w.heap.size A (za.map (Value.int .u8))) (hc : za.length ≤ cap) (hb : ∀ z ∈ za, 0 ≤ z ∧ z ≤ 255)
    (hr' : Rd w w.heap.size A' (zb.map (Value.int .u8))) (hc' : zb.length ≤ cap') (hb' : ∀ z ∈ zb, 0 ≤ z ∧ z ≤ 255) (hl : za.length + zb.length ≤ 1048576) :
    Calls Try.prog 10 #[.slice A za.length cap, .slice A' zb.length cap'] w fun e w' => e = .returned (.bool true) ∧ Below w.heap.size w w' := by
  obtain ⟨i0, hi, hz0, hz1, hz2⟩ := info_parts info44
  have HR := Lib.hid hr
  have HB := Lib.hid hb
  have HR' := Lib.hid hr'
  have HB' := Lib.hid hb'
  clear hr hb hr' hb'
  go_enter Try.func10, Try.ntmps10
  go_wp2_with fail
  refine (awake2 _).mono ?_
  rintro e w1 ⟨rfl, hb1⟩
  go_wp2_with fail
  obtain ⟨w2, hw2⟩ : ∃ w2, w2 = (w1.alloc (.cells #[.int .u8 0, .int .u8 0, .int .u8 0, .int .u8 0, .int .i64 0, .int .i64 0] 43)).alloc (.cells #[.int .u8 0, .int .u8 0, .int .u8 0, .int .u8 0, .int .i64 0, .int .i64 0] 43) := ⟨_, rfl⟩
  obtain ⟨p, hpe⟩ : ∃ p, p = w1.heap.size := ⟨_, rfl⟩
  rw [← hw2, ← hpe]
  have hp1 : RdrAt w2 p [] 0 := by rw [hw2, hpe]; exact (RdrAt.new w1).below ((Below.refl _ _).alloc (Nat.le_refl _) _)
  have hp2 : RdrAt w2 (p + 1) [] 0 := by
    rw [hw2, hpe]
    have := RdrAt.new (w1.alloc (.cells #[.int .u8 0, .int .u8 0, .int .u8 0, .int .u8 0, .int .i64 0, .int .i64 0] 43))
    simpa using this
  have hb2 : Below w.heap.size w w2 := by rw [hw2]; exact (hb1.alloc hb1.size _).alloc (by have := hb1.size; simp; omega) _
  have hpl : w.heap.size ≤ p := by rw [hpe]; exact hb1.size
  have hps := hp2.lt
  have hps0 : p < w2.heap.size := hp1.lt
  have HP1 := Lib.hid hp1
  have HP2 := Lib.hid hp2
  clear hw2 hpe hp1 hp2 hb1
  obtain ⟨M, hM⟩ : ∃ M, M = max za.length zb.length := ⟨_, rfl⟩
  have hMi : (if za.length < zb.length then (zb.length : Int) else (za.length : Int)) = M := by split <;> omega
  have HMI := Lib.hid hMi
  have hMl : za.length ≤ M ∧ zb.length ≤ M ∧ M ≤ 1048576 ∧ (M = za.length ∨ M = zb.length) := by omega
  clear hM hMi
  go_loopw [7, 8, 9] (fun x y i wr => ∃ K Ka Kb : Nat, K ≤ M ∧ i = .int .i64 K ∧ Ka = min K za.length ∧ Kb = min K zb.length ∧ TInv w2.heap.size p za Ka x wr ∧ TInv w2.heap.size (p + 1) zb Kb y wr ∧ Dis x y ∧ Below w.heap.size w wr ∧ w2.heap.size ≤ wr.heap.size) (fun _ _ i _ => M - (intOf i).toNat)
  case atStart => exact ⟨0, 0, 0, by omega, rfl, by omega, by omega, TInv.start HP1.out, TInv.start HP2.out, (fun k h => by simp [Value.ownBlock] at h), hb2, Nat.le_refl _⟩
  case round =>
    obtain ⟨K, Ka, Kb, hK, rfl, hka, hkb, hia, hib, hdis, hbr0, hsz0⟩ := hrel
    have HIA0 := Lib.hid hia
    have HIB0 := Lib.hid hib
    have HDIS0 := Lib.hid hdis
    clear hia hib hdis
    have hka4 : 0 ≤ Ka ∧ Ka ≤ 1048576 ∧ Kb ≤ 1048576 := by omega
    by_cases hKA : K < za.length
    · obtain rfl : Ka = K := by omega
      have f0 : (Ka : Int) < M := by omega
      have hMI := HMI.out
      by_cases hKB : Ka < zb.length
      · obtain rfl : Kb = Ka := by omega
        clear hka hkb
        obtain ⟨xs1, hown1, htok1, hrd1⟩ := HIA0.out
        obtain ⟨b1, o1, rfl, hbl1, hcell1⟩ := rd_ints (HR.out.below hbr0 (Nat.le_refl _)) (by omega)
        have k11 := hcell1 Kb (by omega)
        obtain ⟨hc01, hl31, hlK1, hhb1, e11, e21, hk41, hdl1⟩ := cstep (zs := za) (K := Kb) (by omega) HB.out
        obtain ⟨hd'1, hhd'1⟩ : ∃ x, HD (za.take Kb) = x := ⟨_, rfl⟩
        obtain ⟨done1, hdn1⟩ : ∃ x, KN 0 (za.take Kb) = x := ⟨_, rfl⟩
        obtain ⟨c1, hcz1⟩ : ∃ x, za.getD Kb 0 = x := ⟨_, rfl⟩
        obtain ⟨k21, hk21⟩ : ∃ x, KN ((Kb : Int) - hd'1.length) (hd'1 ++ [c1]) = x := ⟨_, rfl⟩
        obtain ⟨n21, hn21⟩ : ∃ x, k21.length = x := ⟨_, rfl⟩
        obtain ⟨hd21, hh21⟩ : ∃ x, HD (hd'1 ++ [c1]) = x := ⟨_, rfl⟩
        have HOW1 := Lib.hid hown1
        have HTO1 := Lib.hid htok1
        have HRD1 := Lib.hid hrd1
        rw [hdn1] at hown1
        rw [hhd'1] at hrd1
        rw [hcz1] at k11
        rw [hcz1, hhd'1, hk21, hn21] at hk41
        rw [hcz1] at hc01
        rw [hhd'1] at hl31 hlK1 hhb1
        rw [hdn1] at hdl1
        have HHB1 := Lib.hid hhb1
        have HHD'1 := Lib.hid hhd'1
        have HDN1 := Lib.hid hdn1
        have HCZ1 := Lib.hid hcz1
        have HK21 := Lib.hid hk21
        have HN21 := Lib.hid hn21
        have HH21 := Lib.hid hh21
        have HO1 := Lib.hid hown1
        have HR51 := Lib.hid hrd1
        have e41 : (0 : Int) ≤ Kb := by omega
        have e51 : (Kb : Int) < za.length := by omega
        clear hcell1 e11 e21 hhb1 hhd'1 hdn1 hcz1 hk21 hn21 hh21 hown1 htok1 hrd1
        go_wp2_with fail
        refine (put_rdr p hd'1 _ c1 _ HR51.out hl31 (by omega) (by omega) hc01 HHB1.out k21 n21 hd21 HK21.out HN21.out HH21.out).mono ?_
        rintro e w41 h
        obtain ⟨A41, c41, xs41, rfl, hown41, htok41, hrd41, hg41, hc41, hm41⟩ := h.own
        have hkeep1 := kept_row hps0 HO1.out hg41
        have hside1 := HIB0.out.put hps0 (by omega) HR51.out hg41
        have hbr41 := below_grownP hbr0 hg41 (by omega) hbr0.size
        clear h
        go_wp2_with (at_builtin; refine wpList_app2 _ rfl _ _ 34 rfl w2.heap.size 38 i0 _ 4 48 Try.underlying34 hi hz0 hz1 hz2 rfl (by decide) _ _ _ rfl hkeep1 w41.heap.size A41 n21 c41 xs41 rfl ?c1 (Rd.own hown41) ?c2 ?c3 ?c4 ?c5 ?_)
        case c1 => exact hown41.1
        case c2 => exact htok41.one
        case c3 => simp only [maxLen]; omega
        case c4 => omega
        case c5 => exact Nat.le_trans hsz0 hg41.size
        intro v51 w51 hown51 hg51 hob1
        have hnext1 : TInv w2.heap.size p za (Kb + 1) v51 w51 := by
          refine TInv.next (kn := k21) (m := n21) (hd := hd21) (by omega) HB.out hps0 HOW1.out HTO1.out HRD1.out ?_ HN21.out ?_ htok41 ?_ hg41 ?_ hg51
          · rw [HCZ1.out, HHD'1.out]; exact HK21.out
          · rw [HCZ1.out, HHD'1.out]; exact HH21.out
          · rw [HHD'1.out]; exact hrd41
          · rw [HDN1.out]; exact hown51
        have hside51 := hside1.app hps hkeep1 (HDIS0.out) hg51
        have hdis51 : Dis v51 _ := Dis.step (HDIS0.out) (hside1.choose_spec.1) hob1.out
        have hbr1 := below_own hbr41 hg51 hkeep1 hb2.size hbr41.size
        have hsz1 := Nat.le_trans (Nat.le_trans hsz0 hg41.size) hg51.size
        have HIA1 := Lib.hid hnext1
        have HIB1 := Lib.hid hside51
        have HDIS1 := Lib.hid hdis51
        clear hown41 htok41 hrd41 hg41 hkeep1 hown51 hg51 hnext1 hside1 hside51 hdis51 hob1 hbr41
        obtain ⟨xs2, hown2, htok2, hrd2⟩ := HIB1.out
        obtain ⟨b2, o2, rfl, hbl2, hcell2⟩ := rd_ints (HR'.out.below hbr1 (Nat.le_refl _)) (by omega)
        have k12 := hcell2 Kb (by omega)
        obtain ⟨hc02, hl32, hlK2, hhb2, e12, e22, hk42, hdl2⟩ := cstep (zs := zb) (K := Kb) (by omega) HB'.out
        obtain ⟨hd'2, hhd'2⟩ : ∃ x, HD (zb.take Kb) = x := ⟨_, rfl⟩
        obtain ⟨done2, hdn2⟩ : ∃ x, KN 0 (zb.take Kb) = x := ⟨_, rfl⟩
        obtain ⟨c2, hcz2⟩ : ∃ x, zb.getD Kb 0 = x := ⟨_, rfl⟩
        obtain ⟨k22, hk22⟩ : ∃ x, KN ((Kb : Int) - hd'2.length) (hd'2 ++ [c2]) = x := ⟨_, rfl⟩
        obtain ⟨n22, hn22⟩ : ∃ x, k22.length = x := ⟨_, rfl⟩
        obtain ⟨hd22, hh22⟩ : ∃ x, HD (hd'2 ++ [c2]) = x := ⟨_, rfl⟩
        have HOW2 := Lib.hid hown2
        have HTO2 := Lib.hid htok2
        have HRD2 := Lib.hid hrd2
        rw [hdn2] at hown2
        rw [hhd'2] at hrd2
        rw [hcz2] at k12
        rw [hcz2, hhd'2, hk22, hn22] at hk42
        rw [hcz2] at hc02
        rw [hhd'2] at hl32 hlK2 hhb2
        rw [hdn2] at hdl2
        have HHB2 := Lib.hid hhb2
        have HHD'2 := Lib.hid hhd'2
        have HDN2 := Lib.hid hdn2
        have HCZ2 := Lib.hid hcz2
        have HK22 := Lib.hid hk22
        have HN22 := Lib.hid hn22
        have HH22 := Lib.hid hh22
        have HO2 := Lib.hid hown2
        have HR52 := Lib.hid hrd2
        have e42 : (0 : Int) ≤ Kb := by omega
        have e52 : (Kb : Int) < zb.length := by omega
        clear hcell2 e12 e22 hhb2 hhd'2 hdn2 hcz2 hk22 hn22 hh22 hown2 htok2 hrd2
        go_wp2_with fail
        refine (put_rdr (p + 1) hd'2 _ c2 _ HR52.out hl32 (by omega) (by omega) hc02 HHB2.out k22 n22 hd22 HK22.out HN22.out HH22.out).mono ?_
        rintro e w42 h
        obtain ⟨A42, c42, xs42, rfl, hown42, htok42, hrd42, hg42, hc42, hm42⟩ := h.own
        have hkeep2 := kept_row hps HO2.out hg42
        have hside2 := HIA1.out.put hps (by omega) HR52.out hg42
        have hbr42 := below_grownP hbr1 hg42 (by omega) hbr1.size
        clear h
        go_wp2_with (at_builtin; refine wpList_app2 _ rfl _ _ 34 rfl w2.heap.size 38 i0 _ 4 48 Try.underlying34 hi hz0 hz1 hz2 rfl (by decide) _ _ _ rfl hkeep2 w42.heap.size A42 n22 c42 xs42 rfl ?c1 (Rd.own hown42) ?c2 ?c3 ?c4 ?c5 ?_)
        case c1 => exact hown42.1
        case c2 => exact htok42.one
        case c3 => simp only [maxLen]; omega
        case c4 => omega
        case c5 => exact Nat.le_trans hsz1 hg42.size
        intro v52 w52 hown52 hg52 hob2
        have hnext2 : TInv w2.heap.size (p + 1) zb (Kb + 1) v52 w52 := by
          refine TInv.next (kn := k22) (m := n22) (hd := hd22) (by omega) HB'.out hps HOW2.out HTO2.out HRD2.out ?_ HN22.out ?_ htok42 ?_ hg42 ?_ hg52
          · rw [HCZ2.out, HHD'2.out]; exact HK22.out
          · rw [HCZ2.out, HHD'2.out]; exact HH22.out
          · rw [HHD'2.out]; exact hrd42
          · rw [HDN2.out]; exact hown52
        have hside52 := hside2.app hps0 hkeep2 (HDIS1.out.symm) hg52
        have hdis52 : Dis v52 _ := Dis.step (HDIS1.out.symm) (hside2.choose_spec.1) hob2.out
        have hbr2 := below_own hbr42 hg52 hkeep2 hb2.size hbr42.size
        have hsz2 := Nat.le_trans (Nat.le_trans hsz1 hg42.size) hg52.size
        have HIB2 := Lib.hid hnext2
        have HIA2 := Lib.hid hside52
        have HDIS2 := Lib.hid hdis52.symm
        clear hown42 htok42 hrd42 hg42 hkeep2 hown52 hg52 hnext2 hside2 hside52 hdis52 hob2 hbr42
        go_wp2
        go_roundw
        case rel => exact ⟨Kb + 1, Kb + 1, Kb + 1, by omega, by go_num, by omega, by omega, HIA2.out, HIB2.out, HDIS2.out, hbr2, hsz2⟩
        case measure => simp [intOf]; omega
      · obtain rfl : Kb = zb.length := by omega
        clear hka hkb
        obtain ⟨xs1, hown1, htok1, hrd1⟩ := HIA0.out
        obtain ⟨b1, o1, rfl, hbl1, hcell1⟩ := rd_ints (HR.out.below hbr0 (Nat.le_refl _)) (by omega)
        have k11 := hcell1 Ka (by omega)
        obtain ⟨hc01, hl31, hlK1, hhb1, e11, e21, hk41, hdl1⟩ := cstep (zs := za) (K := Ka) (by omega) HB.out
        obtain ⟨hd'1, hhd'1⟩ : ∃ x, HD (za.take Ka) = x := ⟨_, rfl⟩
        obtain ⟨done1, hdn1⟩ : ∃ x, KN 0 (za.take Ka) = x := ⟨_, rfl⟩
        obtain ⟨c1, hcz1⟩ : ∃ x, za.getD Ka 0 = x := ⟨_, rfl⟩
        obtain ⟨k21, hk21⟩ : ∃ x, KN ((Ka : Int) - hd'1.length) (hd'1 ++ [c1]) = x := ⟨_, rfl⟩
        obtain ⟨n21, hn21⟩ : ∃ x, k21.length = x := ⟨_, rfl⟩
        obtain ⟨hd21, hh21⟩ : ∃ x, HD (hd'1 ++ [c1]) = x := ⟨_, rfl⟩
        have HOW1 := Lib.hid hown1
        have HTO1 := Lib.hid htok1
        have HRD1 := Lib.hid hrd1
        rw [hdn1] at hown1
        rw [hhd'1] at hrd1
        rw [hcz1] at k11
        rw [hcz1, hhd'1, hk21, hn21] at hk41
        rw [hcz1] at hc01
        rw [hhd'1] at hl31 hlK1 hhb1
        rw [hdn1] at hdl1
        have HHB1 := Lib.hid hhb1
        have HHD'1 := Lib.hid hhd'1
        have HDN1 := Lib.hid hdn1
        have HCZ1 := Lib.hid hcz1
        have HK21 := Lib.hid hk21
        have HN21 := Lib.hid hn21
        have HH21 := Lib.hid hh21
        have HO1 := Lib.hid hown1
        have HR51 := Lib.hid hrd1
        have e41 : (0 : Int) ≤ Ka := by omega
        have e51 : (Ka : Int) < za.length := by omega
        clear hcell1 e11 e21 hhb1 hhd'1 hdn1 hcz1 hk21 hn21 hh21 hown1 htok1 hrd1
        go_wp2_with fail
        refine (put_rdr p hd'1 _ c1 _ HR51.out hl31 (by omega) (by omega) hc01 HHB1.out k21 n21 hd21 HK21.out HN21.out HH21.out).mono ?_
        rintro e w41 h
        obtain ⟨A41, c41, xs41, rfl, hown41, htok41, hrd41, hg41, hc41, hm41⟩ := h.own
        have hkeep1 := kept_row hps0 HO1.out hg41
        have hside1 := HIB0.out.put hps0 (by omega) HR51.out hg41
        have hbr41 := below_grownP hbr0 hg41 (by omega) hbr0.size
        clear h
        go_wp2_with (at_builtin; refine wpList_app2 _ rfl _ _ 34 rfl w2.heap.size 38 i0 _ 4 48 Try.underlying34 hi hz0 hz1 hz2 rfl (by decide) _ _ _ rfl hkeep1 w41.heap.size A41 n21 c41 xs41 rfl ?c1 (Rd.own hown41) ?c2 ?c3 ?c4 ?c5 ?_)
        case c1 => exact hown41.1
        case c2 => exact htok41.one
        case c3 => simp only [maxLen]; omega
        case c4 => omega
        case c5 => exact Nat.le_trans hsz0 hg41.size
        intro v51 w51 hown51 hg51 hob1
        have hnext1 : TInv w2.heap.size p za (Ka + 1) v51 w51 := by
          refine TInv.next (kn := k21) (m := n21) (hd := hd21) (by omega) HB.out hps0 HOW1.out HTO1.out HRD1.out ?_ HN21.out ?_ htok41 ?_ hg41 ?_ hg51
          · rw [HCZ1.out, HHD'1.out]; exact HK21.out
          · rw [HCZ1.out, HHD'1.out]; exact HH21.out
          · rw [HHD'1.out]; exact hrd41
          · rw [HDN1.out]; exact hown51
        have hside51 := hside1.app hps hkeep1 (HDIS0.out) hg51
        have hdis51 : Dis v51 _ := Dis.step (HDIS0.out) (hside1.choose_spec.1) hob1.out
        have hbr1 := below_own hbr41 hg51 hkeep1 hb2.size hbr41.size
        have hsz1 := Nat.le_trans (Nat.le_trans hsz0 hg41.size) hg51.size
        have HIA1 := Lib.hid hnext1
        have HIB1 := Lib.hid hside51
        have HDIS1 := Lib.hid hdis51
        clear hown41 htok41 hrd41 hg41 hkeep1 hown51 hg51 hnext1 hside1 hside51 hdis51 hob1 hbr41
        go_wp2
        go_roundw
        case rel => exact ⟨Ka + 1, Ka + 1, zb.length, by omega, by go_num, by omega, by omega, HIA1.out, HIB1.out, HDIS1.out, hbr1, hsz1⟩
        case measure => simp [intOf]; omega
    · obtain rfl : Ka = za.length := by omega
      by_cases hKB : K < zb.length
      · obtain rfl : Kb = K := by omega
        have f0 : (Kb : Int) < M := by omega
        have hMI := HMI.out
        clear hka hkb
        obtain ⟨xs2, hown2, htok2, hrd2⟩ := HIB0.out
        obtain ⟨b2, o2, rfl, hbl2, hcell2⟩ := rd_ints (HR'.out.below hbr0 (Nat.le_refl _)) (by omega)
        have k12 := hcell2 Kb (by omega)
        obtain ⟨hc02, hl32, hlK2, hhb2, e12, e22, hk42, hdl2⟩ := cstep (zs := zb) (K := Kb) (by omega) HB'.out
        obtain ⟨hd'2, hhd'2⟩ : ∃ x, HD (zb.take Kb) = x := ⟨_, rfl⟩
        obtain ⟨done2, hdn2⟩ : ∃ x, KN 0 (zb.take Kb) = x := ⟨_, rfl⟩
        obtain ⟨c2, hcz2⟩ : ∃ x, zb.getD Kb 0 = x := ⟨_, rfl⟩
        obtain ⟨k22, hk22⟩ : ∃ x, KN ((Kb : Int) - hd'2.length) (hd'2 ++ [c2]) = x := ⟨_, rfl⟩
        obtain ⟨n22, hn22⟩ : ∃ x, k22.length = x := ⟨_, rfl⟩
        obtain ⟨hd22, hh22⟩ : ∃ x, HD (hd'2 ++ [c2]) = x := ⟨_, rfl⟩
        have HOW2 := Lib.hid hown2
        have HTO2 := Lib.hid htok2
        have HRD2 := Lib.hid hrd2
        rw [hdn2] at hown2
        rw [hhd'2] at hrd2
        rw [hcz2] at k12
        rw [hcz2, hhd'2, hk22, hn22] at hk42
        rw [hcz2] at hc02
        rw [hhd'2] at hl32 hlK2 hhb2
        rw [hdn2] at hdl2
        have HHB2 := Lib.hid hhb2
        have HHD'2 := Lib.hid hhd'2
        have HDN2 := Lib.hid hdn2
        have HCZ2 := Lib.hid hcz2
        have HK22 := Lib.hid hk22
        have HN22 := Lib.hid hn22
        have HH22 := Lib.hid hh22
        have HO2 := Lib.hid hown2
        have HR52 := Lib.hid hrd2
        have e42 : (0 : Int) ≤ Kb := by omega
        have e52 : (Kb : Int) < zb.length := by omega
        clear hcell2 e12 e22 hhb2 hhd'2 hdn2 hcz2 hk22 hn22 hh22 hown2 htok2 hrd2
        go_wp2_with fail
        refine (put_rdr (p + 1) hd'2 _ c2 _ HR52.out hl32 (by omega) (by omega) hc02 HHB2.out k22 n22 hd22 HK22.out HN22.out HH22.out).mono ?_
        rintro e w42 h
        obtain ⟨A42, c42, xs42, rfl, hown42, htok42, hrd42, hg42, hc42, hm42⟩ := h.own
        have hkeep2 := kept_row hps HO2.out hg42
        have hside2 := HIA0.out.put hps (by omega) HR52.out hg42
        have hbr42 := below_grownP hbr0 hg42 (by omega) hbr0.size
        clear h
        go_wp2_with (at_builtin; refine wpList_app2 _ rfl _ _ 34 rfl w2.heap.size 38 i0 _ 4 48 Try.underlying34 hi hz0 hz1 hz2 rfl (by decide) _ _ _ rfl hkeep2 w42.heap.size A42 n22 c42 xs42 rfl ?c1 (Rd.own hown42) ?c2 ?c3 ?c4 ?c5 ?_)
        case c1 => exact hown42.1
        case c2 => exact htok42.one
        case c3 => simp only [maxLen]; omega
        case c4 => omega
        case c5 => exact Nat.le_trans hsz0 hg42.size
        intro v52 w52 hown52 hg52 hob2
        have hnext2 : TInv w2.heap.size (p + 1) zb (Kb + 1) v52 w52 := by
          refine TInv.next (kn := k22) (m := n22) (hd := hd22) (by omega) HB'.out hps HOW2.out HTO2.out HRD2.out ?_ HN22.out ?_ htok42 ?_ hg42 ?_ hg52
          · rw [HCZ2.out, HHD'2.out]; exact HK22.out
          · rw [HCZ2.out, HHD'2.out]; exact HH22.out
          · rw [HHD'2.out]; exact hrd42
          · rw [HDN2.out]; exact hown52
        have hside52 := hside2.app hps0 hkeep2 (HDIS0.out.symm) hg52
        have hdis52 : Dis v52 _ := Dis.step (HDIS0.out.symm) (hside2.choose_spec.1) hob2.out
        have hbr2 := below_own hbr42 hg52 hkeep2 hb2.size hbr42.size
        have hsz2 := Nat.le_trans (Nat.le_trans hsz0 hg42.size) hg52.size
        have HIB2 := Lib.hid hnext2
        have HIA2 := Lib.hid hside52
        have HDIS2 := Lib.hid hdis52.symm
        clear hown42 htok42 hrd42 hg42 hkeep2 hown52 hg52 hnext2 hside2 hside52 hdis52 hob2 hbr42
        go_wp2
        go_roundw
        case rel => exact ⟨Kb + 1, za.length, Kb + 1, by omega, by go_num, by omega, by omega, HIA2.out, HIB2.out, HDIS2.out, hbr2, hsz2⟩
        case measure => simp [intOf]; omega
      · obtain rfl : Kb = zb.length := by omega
        have f0 : ¬ (K : Int) < M := by omega
        have hMI := HMI.out
        clear hka hkb
        obtain ⟨xs3, hown3, htok3, hrd3⟩ := HIA0.out.all
        obtain ⟨kn3, hkn3⟩ : ∃ x, KN 0 za = x := ⟨_, rfl⟩
        obtain ⟨n3, hn3⟩ : ∃ x, kn3.length = x := ⟨_, rfl⟩
        obtain ⟨hd3, hhd3⟩ : ∃ x, HD za = x := ⟨_, rfl⟩
        obtain ⟨en3, hen3⟩ : ∃ x, endK hd3 ((za.length : Int) - hd3.length) = x := ⟨_, rfl⟩
        obtain ⟨m3, hm3⟩ : ∃ x, en3.length = x := ⟨_, rfl⟩
        have hall3 : kn3 ++ en3 = allF za.length 0 za := by rw [← all_end, hkn3, hhd3, ← hen3]; simp
        have hlen3 : (kn3 ++ en3).length = n3 + m3 := by rw [List.length_append, hn3, hm3]
        have hnl3 : n3 ≤ za.length := by have := KN_len 0 za; rw [hkn3, hn3] at this; exact this
        have hml3 : m3 ≤ 1 := by have := endK_len hd3 ((za.length : Int) - hd3.length); rw [hen3, hm3] at this; exact this
        have hdl3 : hd3.length ≤ za.length := by have := (HD_len za).2; rw [hhd3] at this; exact this
        rw [hkn3, hn3] at hown3
        rw [hkn3] at htok3
        rw [hhd3] at hrd3
        have HEN3 := Lib.hid hen3
        have HM3 := Lib.hid hm3
        have HALL3 := Lib.hid hall3
        have HLEN3 := Lib.hid hlen3
        have HRD3 := Lib.hid hrd3
        have HOW3 := Lib.hid hown3
        have HTO3 := Lib.hid htok3
        clear hkn3 hn3 hhd3 hen3 hm3 hall3 hlen3 hrd3 hown3 htok3
        go_wp2_with fail
        refine (end_rdr p hd3 _ _ HRD3.out (by omega) (by omega) en3 m3 HEN3.out HM3.out).mono ?_
        rintro e w43 h
        obtain ⟨A43, c43, xs43, rfl, hown43, htok43, _, hg43, hc43, hm43⟩ := h.own
        have hkeep3 := kept_row hps0 HOW3.out hg43
        have htt3 := (HTO3.out.grownP HRD3.out hg43).app htok43
        have hbr43 := below_grownP hbr0 hg43 (by omega) hbr0.size
        have hside3 := HIB0.out.put hps0 (by omega) HRD3.out hg43
        clear h
        go_wp2_with (at_builtin; refine wpList_app2 _ rfl _ _ 34 rfl w2.heap.size 38 i0 _ 4 48 Try.underlying34 hi hz0 hz1 hz2 rfl (by decide) _ _ _ rfl hkeep3 w43.heap.size A43 m3 c43 xs43 rfl ?c1 (Rd.own hown43) ?c2 ?c3 ?c4 ?c5 ?_)
        case c1 => exact hown43.1
        case c2 => exact htok43.one
        case c3 => simp only [maxLen]; omega
        case c4 => omega
        case c5 => exact Nat.le_trans hsz0 hg43.size
        intro v53 w53 hown53 hg53 hob3
        have ht53 := htt3.grown (Nat.le_refl _) hg53.size hkeep3 (by decide) hg53
        have hbr53 := below_own hbr43 hg53 hkeep3 hb2.size hbr43.size
        have hsz53 := Nat.le_trans (Nat.le_trans hsz0 hg43.size) hg53.size
        have hside53 := Lib.hid (hside3.app hps hkeep3 (HDIS0.out) hg53)
        obtain ⟨A53, c53, rfl, hc53, hm53⟩ := own_form hown53
        have HO53 := Lib.hid (Rd.own hown53)
        have HT53 := Lib.hid ht53
        clear hown43 htok43 hg43 hkeep3 hown53 hg53 htt3 ht53 hob3 hside3
        go_wp2_with fail
        refine (all_own _ _ _ za _ rfl (HR.out.below hbr53 hbr53.size) (by omega) hc HB.out (kn3 ++ en3) (n3 + m3) HALL3.out.symm HLEN3.out).mono ?_
        rintro e w63 ⟨A63, c63, xs63, rfl, hr63, ht63, hc63, hm63, hb63⟩
        have hbr63 := hbr53.trans (hb63.mono hbr53.size)
        have HR63 := Lib.hid hr63
        have HT63 := Lib.hid ht63
        clear hr63 ht63
        go_wp2_with fail
        refine (same_own (n3 + m3) _ _ _ _ (kn3 ++ en3) _ xs63 w63.heap.size _ HLEN3.out.symm (HO53.out.below hb63 hb63.size) (HT53.out.below hb63 hb63.size) HR63.out HT63.out (by rw [HLEN3.out]; omega) (fun t ht => by
          rw [HALL3.out] at ht
          have := allF_out _ _ _ t ht
          omega)).mono ?_
        rintro e w73 ⟨rfl, hb73⟩
        have hbr3 := hbr63.trans (hb73.mono hbr63.size)
        have hsz3 : w2.heap.size ≤ w73.heap.size := Nat.le_trans (Nat.le_trans hsz53 hb63.size) hb73.size
        have HI3 := Lib.hid (hside53.out.below (below_trans _ _ _ hb63 hb73))
        obtain ⟨xs4, hown4, htok4, hrd4⟩ := HI3.out.all
        obtain ⟨kn4, hkn4⟩ : ∃ x, KN 0 zb = x := ⟨_, rfl⟩
        obtain ⟨n4, hn4⟩ : ∃ x, kn4.length = x := ⟨_, rfl⟩
        obtain ⟨hd4, hhd4⟩ : ∃ x, HD zb = x := ⟨_, rfl⟩
        obtain ⟨en4, hen4⟩ : ∃ x, endK hd4 ((zb.length : Int) - hd4.length) = x := ⟨_, rfl⟩
        obtain ⟨m4, hm4⟩ : ∃ x, en4.length = x := ⟨_, rfl⟩
        have hall4 : kn4 ++ en4 = allF zb.length 0 zb := by rw [← all_end, hkn4, hhd4, ← hen4]; simp
        have hlen4 : (kn4 ++ en4).length = n4 + m4 := by rw [List.length_append, hn4, hm4]
        have hnl4 : n4 ≤ zb.length := by have := KN_len 0 zb; rw [hkn4, hn4] at this; exact this
        have hml4 : m4 ≤ 1 := by have := endK_len hd4 ((zb.length : Int) - hd4.length); rw [hen4, hm4] at this; exact this
        have hdl4 : hd4.length ≤ zb.length := by have := (HD_len zb).2; rw [hhd4] at this; exact this
        rw [hkn4, hn4] at hown4
        rw [hkn4] at htok4
        rw [hhd4] at hrd4
        have HEN4 := Lib.hid hen4
        have HM4 := Lib.hid hm4
        have HALL4 := Lib.hid hall4
        have HLEN4 := Lib.hid hlen4
        have HRD4 := Lib.hid hrd4
        have HOW4 := Lib.hid hown4
        have HTO4 := Lib.hid htok4
        clear hkn4 hn4 hhd4 hen4 hm4 hall4 hlen4 hrd4 hown4 htok4
        go_wp2_with fail
        refine (end_rdr (p + 1) hd4 _ _ HRD4.out (by omega) (by omega) en4 m4 HEN4.out HM4.out).mono ?_
        rintro e w44 h
        obtain ⟨A44, c44, xs44, rfl, hown44, htok44, _, hg44, hc44, hm44⟩ := h.own
        have hkeep4 := kept_row hps HOW4.out hg44
        have htt4 := (HTO4.out.grownP HRD4.out hg44).app htok44
        have hbr44 := below_grownP hbr3 hg44 (by omega) hbr3.size
        clear h
        go_wp2_with (at_builtin; refine wpList_app3 _ rfl _ _ 34 rfl w2.heap.size 38 i0 _ 4 48 Try.underlying34 hi hz0 hz1 hz2 rfl (by decide) _ _ _ rfl hkeep4 w44.heap.size A44 m4 c44 xs44 rfl ?c1 (Rd.own hown44) ?c2 ?c3 ?c4 ?c5 ?_)
        case c1 => exact hown44.1
        case c2 => exact htok44.one
        case c3 => simp only [maxLen]; omega
        case c4 => omega
        case c5 => exact Nat.le_trans hsz3 hg44.size
        intro v54 w54 hown54 hg54 hob4
        have ht54 := htt4.grown (Nat.le_refl _) hg54.size hkeep4 (by decide) hg54
        have hbr54 := below_own hbr44 hg54 hkeep4 hb2.size hbr44.size
        have hsz54 := Nat.le_trans (Nat.le_trans hsz3 hg44.size) hg54.size
        obtain ⟨A54, c54, rfl, hc54, hm54⟩ := own_form hown54
        have HO54 := Lib.hid (Rd.own hown54)
        have HT54 := Lib.hid ht54
        clear hown44 htok44 hg44 hkeep4 hown54 hg54 htt4 ht54 hob4 
        go_wp2_with fail
        refine (all_own _ _ _ zb _ rfl (HR'.out.below hbr54 hbr54.size) (by omega) hc' HB'.out (kn4 ++ en4) (n4 + m4) HALL4.out.symm HLEN4.out).mono ?_
        rintro e w64 ⟨A64, c64, xs64, rfl, hr64, ht64, hc64, hm64, hb64⟩
        have hbr64 := hbr54.trans (hb64.mono hbr54.size)
        have HR64 := Lib.hid hr64
        have HT64 := Lib.hid ht64
        clear hr64 ht64
        go_wp2_with fail
        refine (same_own (n4 + m4) _ _ _ _ (kn4 ++ en4) _ xs64 w64.heap.size _ HLEN4.out.symm (HO54.out.below hb64 hb64.size) (HT54.out.below hb64 hb64.size) HR64.out HT64.out (by rw [HLEN4.out]; omega) (fun t ht => by
          rw [HALL4.out] at ht
          have := allF_out _ _ _ t ht
          omega)).mono ?_
        rintro e w74 ⟨rfl, hb74⟩
        have hbr4 := hbr64.trans (hb74.mono hbr64.size)
        have hsz4 : w2.heap.size ≤ w74.heap.size := Nat.le_trans (Nat.le_trans hsz54 hb64.size) hb74.size
        go_wp2
        go_ret
        exact ⟨rfl, hbr4⟩
end Go.Proofs.Ytfhjphemeddjcaa
