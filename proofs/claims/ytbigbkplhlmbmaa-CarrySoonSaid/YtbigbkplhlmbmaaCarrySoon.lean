/- CarrySoon: the walk. -/
import Derived.Test.YtbigbkplhlmbmaaCarryF
import Derived.Test.YtbigbkplhlmbmaaCarrySoonM
namespace Go.Proofs.Ytbigbkplhlmbmaa
set_option linter.unusedVariables false
open Go.RowKit

theorem put_new (n : Nat) (A : Option Addr) (cap : Nat) (s : Int) (w : World) (hn : n = 0) (es : List Int) (m : Nat) (hy : encL (fixS s) = es) (hm : es.length = m) :
    Calls Try.prog 14 #[.slice A n cap, .int .i64 s] w fun e w' => ∃ A' c', e = .returned (.slice A' m c') ∧ w'.ownsRow w.heap.size 5 1 (.slice A' m c') m (es.map (Value.int .u8)) ∧ m ≤ c' ∧ c' ≤ maxLen ∧ Below w.heap.size w w' := by
  subst hn hy hm
  refine (put_at 0 A cap [] s w rfl Rd.nil (by simp) (by simp) rfl).mono fun e w' h => ?_
  obtain ⟨v, rfl, ho, hg⟩ := h
  obtain ⟨A', c', rfl, h1, h2⟩ := own_form ho
  exact ⟨A', c', rfl, ho, h1, h2, (Below.refl _ _).grown hg (Nat.le_refl _) (by simp)⟩

set_option maxHeartbeats 1600000 in
theorem carrySoon_any (A : Option Addr) (cap : Nat) (ss : List Int) (w : World) (hr : Rd w w.heap.size A (ss.map (Value.int .i64))) (hc : ss.length ≤ cap) (hb : ∀ z ∈ ss, (-9223372036854775808 : Int) ≤ z ∧ z ≤ 9223372036854775807) (hl : ss.length ≤ 17592186043904) :
    Calls Try.prog 8 #[.slice A ss.length cap] w fun e w' => e = .returned (.bool true) ∧ Below w.heap.size w w' := by
  have HR := Lib.hid hr
  have HB := Lib.hid hb
  clear hr hb
  go_enter Try.func8, Try.ntmps8
  go_wp2_with fail
  refine (awake2 _).mono ?_
  rintro e w1 ⟨rfl, hb1⟩
  go_wp2_with fail
  have hp2 := RdrAt.new w1
  obtain ⟨w2, hw2⟩ : ∃ w2, w2 = w1.alloc (.cells #[.int .u8 0, .int .u8 0, .int .u8 0, .int .u8 0, .int .i64 0, .int .i64 0] 46) := ⟨_, rfl⟩
  obtain ⟨p, hpe⟩ : ∃ p, p = w1.heap.size := ⟨_, rfl⟩
  have hb2 : Below w.heap.size w w2 := by rw [hw2]; exact hb1.alloc hb1.size _
  have hpl : w.heap.size ≤ p := by rw [hpe]; exact hb1.size
  rw [← hw2, ← hpe] at hp2
  rw [← hw2, ← hpe]
  have HP2 := Lib.hid hp2
  clear hw2 hpe hb1 hp2
  go_loopw [16] (fun i wr => ∃ (K : Nat) (at_ : Int), K ≤ ss.length ∧ i = .int .i64 K ∧ RdrAt wr p [] at_ ∧ 0 ≤ at_ ∧ at_ ≤ K * 4 ∧ Below w.heap.size w wr) (fun i _ => ss.length - (intOf i).toNat)
  case atStart => exact ⟨0, 0, by omega, rfl, HP2.out, by omega, by omega, hb2⟩
  case round =>
    obtain ⟨K, at_, hK, rfl, hrd, ha0, ha1, hbr⟩ := hrel
    have HRD := Lib.hid hrd
    clear hrd
    by_cases hKl : K = ss.length
    · have hKl' : ¬ K < ss.length := by omega
      clear hKl
      go_wp2_with fail
      refine (end_rdr p [] _ _ HRD.out (by omega) (by omega) [] 0 rfl rfl).mono ?_
      rintro e w13 h
      obtain ⟨A13, c13, xs13, rfl, _, _, _, hg13, _, _⟩ := h.own
      have hbe := below_grownP hbr hg13 hpl hbr.size
      clear h hg13
      go_wp2
      go_ret
      exact ⟨rfl, hbe⟩
    have hKl' : K < ss.length := by omega
    obtain ⟨b, o, rfl, hbl, hcell⟩ := rd_ints (HR.out.below hbr (Nat.le_refl _)) (by omega)
    have k1 := hcell K hKl'
    obtain ⟨s, hs⟩ : ∃ x, ss.getD K 0 = x := ⟨_, rfl⟩
    rw [hs] at k1
    obtain ⟨es, hes⟩ : ∃ x, encL (fixS s) = x := ⟨_, rfl⟩
    obtain ⟨m, hm⟩ : ∃ x, es.length = x := ⟨_, rfl⟩
    have hm4 : 1 ≤ m ∧ m ≤ 4 := by have h1 := encL_pos (fixS s); have h2 := encL_len (fixS s); rw [hes, hm] at h1 h2; omega
    have HS := Lib.hid hs
    have HES := Lib.hid hes
    have HM := Lib.hid hm
    clear hcell hs hes hm
    have e4 : (0 : Int) ≤ K := by omega
    have e5 : (K : Int) < ss.length := by omega
    go_wp2_with fail
    refine (put_new 0 _ _ s _ rfl es m HES.out HM.out).mono ?_
    rintro e w3 ⟨A3, c3, rfl, hr3, hc3, hm3, hb3⟩
    have HR3 := Lib.hid hr3
    have HP3 := Lib.hid (HRD.out.below hb3)
    have hbr3 := hbr.trans (hb3.mono hbr.size)
    clear hr3
    unfold maxLen at hm3
    have hp3 := HP3.out.lt
    go_wp2_with fail
    have hwp := HRD.out.lt
    have hesb : ∀ z ∈ es, 0 ≤ z ∧ z ≤ 255 := by rw [← HES.out]; exact encL_bytes _ (fixS_sc s)
    have HEB := Lib.hid hesb
    clear hesb
    go_loopw [24] (fun i wi => ∃ (k : Nat) (q : List Int) (at' : Int), k ≤ m ∧ i = .int .i64 k ∧ (k < m → q = es.take k ∧ at' = at_) ∧ (k = m → q = [] ∧ at' = at_ + m) ∧ RdrAt wi p q at' ∧ w3.grownBy wi (some p)) (fun i _ => m - (intOf i).toNat)
    case atStart => exact ⟨0, [], at_, by omega, rfl, fun _ => ⟨by simp, rfl⟩, fun h => by omega, HP3.out, World.grownBy.refl w3 _⟩
    case round =>
      obtain ⟨k, q, at', hk, rfl, hq1, hq2, hrd, hg⟩ := hrel
      have HQ := Lib.hid hrd
      have HG := Lib.hid hg
      clear hrd hg
      have hbi := below_grownP hbr3 HG.out hpl hbr3.size
      by_cases hkm : k = m
      · obtain ⟨rfl, rfl⟩ := hq2 hkm
        have hkm' : ¬ k < m := by omega
        clear hq1 hq2 hkm
        go_wp2_with fail
        refine (held_rdr p _ _ _ HQ.out).mono ?_
        rintro e w' ⟨rfl, rfl⟩
        go_wp2
        go_roundw
        case rel => exact ⟨K + 1, at_ + m, by omega, by go_num, HQ.out, by omega, by omega, hbi⟩
        case measure => simp [intOf]; omega
      have hkm' : k < m := by omega
      obtain ⟨rfl, rfl⟩ := hq1 hkm'
      obtain ⟨b3, o3, rfl, hbl3, hcell3⟩ := rd_ints (Rd.ownP HR3.out hwp HG.out) (by have := HM.out; omega)
      have k3 := hcell3 k (by rw [HM.out]; exact hkm')
      have hcb := getD_range (lo := 0) (hi := 255) HEB.out k (by rw [HM.out]; exact hkm')
      obtain ⟨c, hc⟩ : ∃ x, es.getD k 0 = x := ⟨_, rfl⟩
      rw [hc] at k3 hcb
      have htk : es.take k ++ [c] = es.take (k + 1) := by rw [take_snocI (by rw [HM.out]; exact hkm'), hc]
      have hql : (es.take k).length = k := by rw [List.length_take, HM.out]; omega
      have HTK := Lib.hid htk
      have HQL := Lib.hid hql
      have e6 : (0 : Int) ≤ k := by omega
      have e7 : (k : Int) < m := by omega
      clear hcell3 hc htk hql hq1 hq2 hkm
      by_cases hlast : k + 1 = m
      · have hkn := enc_known (fixS_sc s) at'
        rw [HES.out] at hkn
        have hfull : es.take k ++ [c] = es := by rw [HTK.out, hlast, ← HM.out, List.take_length]
        obtain ⟨kn, hkn'⟩ : ∃ x, KN at' es = x := ⟨_, rfl⟩
        rw [hkn'] at hkn
        have HKN := Lib.hid (show KN at' (es.take k ++ [c]) = kn by rw [hfull]; exact hkn')
        have HKL := Lib.hid hkn.1
        have HHD := Lib.hid (show HD (es.take k ++ [c]) = [] by rw [hfull]; exact hkn.2)
        have f1 : ((k : Int) == m - 1) = true := beq_iff_eq.2 (by omega)
        have f2 : ¬ (k : Int) < m - 1 := by omega
        have f3 : ((1 : Int) != 0) = true := rfl
        have HLAST := Lib.hid hlast
        clear hkn hfull hkn' hlast
        go_wp2_with fail
        refine (put_rdr p (es.take k) at' c _ HQ.out (by have := HQL.out; omega) (by omega) (by omega) hcb (fun z hz => HEB.out z (List.mem_of_mem_take hz)) kn 1 [] HKN.out HKL.out HHD.out).mono ?_
        rintro e w4 h
        obtain ⟨A4, c4, xs4, rfl, _, _, hr4, hg4, _, _⟩ := h.own
        have hr4' := hr4.at_eq (b := at' + m) (by rw [HQL.out]; simp; have := HLAST.out; omega)
        have HR4 := Lib.hid hr4'
        have HG4 := Lib.hid (grown_seq HG.out hg4)
        clear h hr4 hg4 hr4'
        go_wp2
        go_roundw
        case rel => exact ⟨k + 1, [], at' + m, by omega, by go_num, fun h => by have := HLAST.out; omega, fun _ => ⟨rfl, rfl⟩, HR4.out, HG4.out⟩
        case measure => simp [intOf]; omega
      · have hkn := enc_wait (fixS_sc s) (k := k + 1) (by omega) (by rw [HES.out, HM.out]; omega) at'
        rw [HES.out] at hkn
        have HKN := Lib.hid (show KN at' (es.take k ++ [c]) = [] by rw [HTK.out]; exact hkn.1)
        have HHD := Lib.hid (show HD (es.take k ++ [c]) = es.take (k + 1) by rw [HTK.out]; exact hkn.2)
        have f1 : ((k : Int) == m - 1) = false := beq_eq_false_iff_ne.2 (by omega)
        have f3 : ((0 : Int) != 0) = false := rfl
        have HQL2 := Lib.hid (show (es.take (k + 1)).length = k + 1 by rw [List.length_take, HM.out]; omega)
        clear hkn
        go_wp2_with fail
        refine (put_rdr p (es.take k) at' c _ HQ.out (by have := HQL.out; omega) (by omega) (by omega) hcb (fun z hz => HEB.out z (List.mem_of_mem_take hz)) [] 0 (es.take (k + 1)) HKN.out rfl HHD.out).mono ?_
        rintro e w4 h
        obtain ⟨A4, c4, xs4, rfl, _, _, hr4, hg4, _, _⟩ := h.own
        have hr4' := hr4.at_eq (b := at') (by rw [HQL.out, HQL2.out]; omega)
        have HR4 := Lib.hid hr4'
        have HG4 := Lib.hid (grown_seq HG.out hg4)
        clear h hr4 hg4 hr4'
        go_wp2
        go_roundw
        case rel => exact ⟨k + 1, es.take (k + 1), at', by omega, by go_num, fun _ => ⟨rfl, rfl⟩, fun h => by omega, HR4.out, HG4.out⟩
        case measure => simp [intOf]; omega
end Go.Proofs.Ytbigbkplhlmbmaa
