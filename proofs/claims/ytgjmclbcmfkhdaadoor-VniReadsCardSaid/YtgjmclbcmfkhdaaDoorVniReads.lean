/- VniReads: the walk. -/
import Derived.Test.YtgjmclbcmfkhdaaDoorVnU
namespace Go.Proofs.YtgjmclbcmfkhdaaDoor
set_option linter.unusedVariables false
set_option linter.unusedSimpArgs false
set_option linter.unnecessarySimpa false
open Go.RowKit Go.Shelf
set_option maxRecDepth 100000 in
set_option maxHeartbeats 6400000 in
theorem vniReads_any (n : Nat) (A : Option Addr) (cap : Nat) (l : List Int) (w : World) (hn : n = l.length) (hr : Rd w w.heap.size A (l.map (Value.int .u8))) (hc : n ≤ cap) (hw : ∀ z ∈ l, 0 ≤ z ∧ z ≤ 255) (hT : TabN w) :
    Calls Tryd.prog 6 #[.slice A n cap] w fun e w' => e = .returned (.bool true) ∧ Below w.heap.size w w' := by
  have A0 := Lib.hid (awake13_any w hT)
  have HT := Lib.hid hT
  obtain ⟨q, hq, hqn, hq6⟩ : ∃ q : Nat, ((if 40 < n then 40 else n) = q) ∧ q ≤ n ∧ q ≤ 40 := ⟨_, rfl, by split <;> omega, by split <;> omega⟩
  have hmin : (if (40 : Int) < (n : Int) then (40 : Int) else (n : Int)) = (q : Int) := by rw [← hq]; split <;> split <;> omega
  have hmin2 : min (n : Int) 40 = (q : Int) := by omega
  have hqc : q ≤ cap := by omega
  have hq0 : (0 : Int) ≤ (q : Int) := by omega
  have hrt := Rd.take q hr
  rw [← List.map_take] at hrt
  have hwt : ∀ z ∈ l.take q, 0 ≤ z ∧ z ≤ 255 := fun z hz => hw z (List.mem_of_mem_take hz)
  have hql : (l.take q).length = q := by rw [List.length_take]; omega
  obtain ⟨L, hLe⟩ : ∃ L, l.take q = L := ⟨_, rfl⟩
  rw [hLe] at hrt hwt hql
  have HR := Lib.hid hrt
  have HQL := Lib.hid hql
  have HW := Lib.hid hwt
  have hks : ∀ k ∈ L.map Int.toNat, k < 262 := fun k hk => by
    obtain ⟨z, hz, rfl⟩ := List.mem_map.1 hk
    have := hwt z hz
    omega
  have hkl : (L.map Int.toNat).length = q := by rw [List.length_map]; exact hql
  have hkz : ∀ K, K < q → (((L.map Int.toNat).getD K 0 : Nat) : Int) = L.getD K 0 := fun K hK => by
    have hKL : K < L.length := by omega
    have := getD_range hwt K hKL
    rw [List.getD_eq_getElem?_getD, List.getElem?_map, List.getElem?_eq_getElem hKL]
    rw [List.getD_eq_getElem?_getD, List.getElem?_eq_getElem hKL] at *
    simp at this ⊢
    omega
  obtain ⟨ks, hkse⟩ : ∃ ks, L.map Int.toNat = ks := ⟨_, rfl⟩
  rw [hkse] at hks hkl hkz
  have HKS := Lib.hid hks
  have HKL := Lib.hid hkl
  have HKZ := Lib.hid hkz
  clear hr hn hw hrt hwt hql hLe hq hT hks hkl hkz hkse
  go_enter Tryd.func6, Tryd.ntmps6
  go_wp2_with fail
  refine A0.out.mono ?_
  rintro e w1 ⟨rfl, hb1⟩
  have hs1 := hb1.size
  have R1 := Lib.hid (vnrules_any w1 (HT.out.below hb1))
  have HB1 := Lib.hid hb1
  clear hb1 A0 HT
  go_wp2_with fail
  refine R1.out.mono ?_
  rintro e w2 ⟨v, rfl, hO, hb2⟩
  obtain ⟨A2, c2, rfl, hr2⟩ := hO.form
  have HB2 := Lib.hid (HB1.out.trans (hb2.mono hs1))
  have hs2 := HB2.out.size
  rw [vnR_len] at hr2 ⊢
  have T1 := Lib.hid (of_ok 262 A2 c2 vnR _ w2 hr2 (Nat.le_refl _) vnR_right)
  have HR2 := Lib.hid hr2
  clear hO hb2 R1 HB1 hr2
  go_wp2_with fail
  refine T1.out.mono ?_
  rintro e w3 ⟨T, rfl, hT3, hb3⟩
  have HT3 := Lib.hid hT3
  have HR3 := Lib.hid (HR2.out.below hb3 hb3.size)
  have HB3 := Lib.hid (HB2.out.trans (hb3.mono hs2))
  have hs3 := HB3.out.size
  have HL3 := Lib.hid (HR.out.below HB3.out hs3)
  clear hT3 hb3 T1 HB2 HR2 HR
  go_wp2_with fail
  go_loopw [6, 7, 38] (fun v u i wr => ∃ K : Nat, K ≤ q ∧ i = .int .i64 K ∧ Hid (TwoI wr w3.heap.size v u (vnIn (ks.take K)) (vnOut (ks.take K))) ∧ Hid (Below w3.heap.size w3 wr)) (fun _ _ i _ => q - (intOf i).toNat)
  case atStart => exact ⟨0, by omega, rfl, TwoI.nil _ _, Lib.hid (Below.refl _ _)⟩
  case round =>
    obtain ⟨K, hK, rfl, ho, hb⟩ := hrel
    have hbs := hb.out.size
    have hktl : ∀ k ∈ ks.take K, k < 262 := fun k hk => HKS.out k (List.mem_of_mem_take hk)
    have hlens := vn_lens _ hktl
    have htl : (ks.take K).length ≤ 40 := by rw [List.length_take]; omega
    by_cases hKq : K = q
    · have HF := Lib.hid (show ks.take K = ks by rw [hKq, ← HKL.out]; exact List.take_length)
      have hKl : ¬ K < q := by omega
      rw [HF.out] at ho hlens
      obtain ⟨hre1, hre2⟩ := vn_reads2 ks HKS.out
      obtain ⟨xs, hxs⟩ : ∃ x, vnIn ks = x := ⟨_, rfl⟩
      obtain ⟨ys, hys⟩ : ∃ x, vnOut ks = x := ⟨_, rfl⟩
      rw [hxs, hys] at ho hlens
      rw [hxs] at hre1 hre2
      rw [hys] at hre1
      have htl2 : ks.length ≤ 40 := by rw [HKL.out]; exact hq6
      have hxl : xs.length ≤ 80 := by omega
      have hyl : ys.length ≤ 40 := by omega
      obtain ⟨A6, c6, rfl, h61, h62⟩ := ho.out.one.form
      obtain ⟨A7, c7, rfl, h71, h72⟩ := ho.out.two.form
      obtain ⟨m, hm⟩ : ∃ m, xs.length = m := ⟨_, rfl⟩
      obtain ⟨m7, hm7⟩ : ∃ m, ys.length = m := ⟨_, rfl⟩
      have HX := Lib.hid ho.out.one.rd
      have HY := Lib.hid ho.out.two.rd
      obtain ⟨ts, hts⟩ : ∃ ts, rewA vnR 0 xs = ts := ⟨_, rfl⟩
      have W1 := Lib.hid (rew_any wr wr.heap.size T vnR (HT3.out.below hb.out hbs) (Nat.le_refl _) m A6 c6 xs _ hm.symm HX.out (Nat.le_refl _) (by omega) h62 (by omega) ts hts)
      rw [hts] at hre1 hre2
      have HRE1 := Lib.hid hre1
      have HRE2 := Lib.hid hre2
      have HM7 := Lib.hid hm7
      have HB := Lib.hid (HB3.out.trans (hb.out.mono hs3))
      rw [hm, hm7]
      clear hktl hlens htl hKq hre1 hre2 hxs hys hm hm7 hts ho h61 h62 h71 h72 hb
      go_wp2_with fail
      refine W1.out.mono ?_
      rintro e w4 ⟨v4, rfl, hO4, hb4⟩
      obtain ⟨A4, c4, rfl, hk4⟩ := hO4.form
      obtain ⟨m4, hm4⟩ : ∃ m, ts.length = m := ⟨_, rfl⟩
      rw [hm4] at hk4 ⊢
      have U1 := Lib.hid (unitsT_any m4 A4 c4 ts _ w4 hk4 (Nat.le_refl _) (by rw [HRE1.out]; omega) ys ⟨0, 0, [], 0⟩ m7 0 HRE1.out HRE2.out HM7.out rfl)
      have hs4 := hb4.size
      have HY4 := Lib.hid (HY.out.below hb4)
      have HB4 := Lib.hid (HB.out.trans (hb4.mono (by omega)))
      clear hO4 hb4 hk4 hm4 W1 HB HX HY
      go_wp2_with fail
      refine U1.out.mono ?_
      rintro e w5 ⟨A5, c5, A8, c8, rfl, hu5, -, hb5⟩
      have HY5 := Lib.hid (HY4.out.below hb5)
      have hs5 := hb5.size
      have HB5 := Lib.hid (HB4.out.trans (hb5.mono (by omega)))
      obtain ⟨_, _, he5, -, -, hx5⟩ := hu5
      injection he5 with he5 he5n he5'
      clear he5n
      subst he5 he5'
      have HX5 := Lib.hid (show RI w5 A5 ys from hx5.rd (Nat.le_refl _))
      clear hb5 hx5 U1 HY4 HB4
      have hb6 : Below w5.heap.size w5 (w5.alloc (.cells #[.int .i64 0, .int .i64 0, .slice A8 0 c8, .int .i64 0] 53)) := (Below.refl _ w5).alloc (Nat.le_refl _) _
      have V1 := Lib.hid (units_any m7 m7 A5 A7 c5 c7 ys ys _ rfl HM7.out.symm HM7.out.symm (HX5.out.below hb6) (HY5.out.below hb6) (by omega))
      have HB6 := Lib.hid (HB5.out.trans (hb6.mono (by omega)))
      have hs6 := HB6.out.size
      clear hb6 HX5 HY5 HB5
      go_wp2_with fail
      refine V1.out.mono ?_
      rintro e w7 ⟨rfl, hb7⟩
      have HB7 := Lib.hid (HB6.out.trans (hb7.mono hs6))
      clear hb7 HB6 V1
      go_wp2_with fail
      go_ret
      exact ⟨rfl, HB7.out⟩
    have hKl : K < q := by omega
    have hKL : K < L.length := by rw [HQL.out]; exact hKl
    have hKk : K < ks.length := by rw [HKL.out]; exact hKl
    obtain ⟨b, off, rfl, hbl, hcell⟩ := rd_ints (HL3.out.below hb.out hbs) (by omega)
    have hx := hcell K hKL
    have hzr := getD_range HW.out K hKL
    rw [← HKZ.out K hKl] at hx hzr
    have hk2 : ks.getD K 0 < 262 := HKS.out _ (by rw [List.getD_eq_getElem?_getD, List.getElem?_eq_getElem hKk]; exact List.getElem_mem hKk)
    have htk : ks.take (K + 1) = ks.take K ++ [ks.getD K 0] := by rw [List.take_succ_eq_append_getElem hKk]; simp [List.getD_eq_getElem?_getD, hKk]
    obtain ⟨k, hke⟩ : ∃ k, ks.getD K 0 = k := ⟨_, rfl⟩
    rw [hke] at hx hzr hk2 htk
    have hkR : k < vnR.length := by rw [vnR_len]; exact hk2
    have HI := Lib.hid (show vnIn (ks.take (K + 1)) = vnIn (ks.take K) ++ vnR[k].1 by rw [htk, vnIn_app, vnIn_one k hkR])
    have HU := Lib.hid (show vnOut (ks.take (K + 1)) = vnOut (ks.take K) ++ vnR[k].2 by rw [htk, vnOut_app, vnOut_one k hkR])
    obtain ⟨xs, hxs⟩ : ∃ x, vnIn (ks.take K) = x := ⟨_, rfl⟩
    obtain ⟨ys, hys⟩ : ∃ x, vnOut (ks.take K) = x := ⟨_, rfl⟩
    rw [hxs, hys] at hlens ho
    rw [hxs] at HI
    rw [hys] at HU
    have hxl : xs.length ≤ 80 := by omega
    have hyl : ys.length ≤ 40 := by omega
    have hsd := vnR_sides _ (List.getElem_mem hkR)
    obtain ⟨r, hre⟩ : ∃ r, vnR[k] = r := ⟨_, rfl⟩
    obtain ⟨b2, o2, rfl, hbl2, A5, k5, d5, A6, k6, d6, g1, g2, e1, e2, e3, e4, f1, f2, f3, f4⟩ := (HR3.out.below hb.out (Nat.le_refl _)).at (k := k) hkR
    rw [hre] at e1 e4 f1 f4 hsd HI HU
    have E4 := Lib.hid e4
    have F4 := Lib.hid f4
    have E1 := Lib.hid e1
    have F1 := Lib.hid f1
    obtain ⟨r1, r2⟩ := r
    have hk0 : (0 : Int) ≤ k := by omega
    have hk1 : (k : Int) ≤ 255 := hzr.2
    have hkm : k % 262 = k := by omega
    have hkm2 : (k : Int) % 262 = k := by omega
    have hk262 : (k : Int) < 262 := by omega
    have hkw : IntKind.i64.wrap (k : Int) = k := by rw [IntKind.wrap_i64]; omega
    have hq5 := Held.new wr #[.slice A5 k5 d5, .slice A6 k6 d6] 46
    have hb5 : Below wr.heap.size wr (wr.alloc (.cells #[.slice A5 k5 d5, .slice A6 k6 d6] 46)) := (Below.refl _ wr).alloc (Nat.le_refl _) _
    have HO5 := Lib.hid (ho.out.below hb5)
    have HB5 := Lib.hid (hb.out.trans (hb5.mono hbs))
    have E5 := Lib.hid (E4.out.below (hb5.mono hbs) (Nat.le_refl _))
    have F5 := Lib.hid (F4.out.below (hb5.mono hbs) (Nat.le_refl _))
    have hs5 : w3.heap.size ≤ (wr.alloc (.cells #[.slice A5 k5 d5, .slice A6 k6 d6] 46)).heap.size := HB5.out.size
    have hs5' : wr.heap.size + 1 ≤ (wr.alloc (.cells #[.slice A5 k5 d5, .slice A6 k6 d6] 46)).heap.size := by simp
    have HQ5 := Lib.hid hq5
    simp only at hsd E1 F1 HI HU E5 F5
    have hr1 : r1.length ≤ 2 := hsd.2.1
    have hr2 : r2.length = 1 := hsd.2.2
    clear hcell hktl hlens htl e1 e2 e3 e4 f1 f2 f3 f4 hb5 hq5 E4 F4 hke htk hxs hys hre hsd hzr ho hb
    go_upto_region 12 with fail
    obtain ⟨W5, hW5⟩ : ∃ W5, wr.alloc (.cells #[.slice A5 k5 d5, .slice A6 k6 d6] 46) = W5 := ⟨_, rfl⟩
    obtain ⟨p, hp⟩ : ∃ p, wr.heap.size = p := ⟨_, rfl⟩
    rw [hW5] at HO5 HB5 E5 F5 hs5 hs5' HQ5 ⊢
    rw [hp] at HQ5 hs5' ⊢
    have q0 := HQ5.out.cell 0
    have hpl := HQ5.out.lt
    clear hW5 hp g1 g2 hx
    go_wp2_with (at_builtin; refine wpList_appIB rfl _ _ rfl w3.heap.size u6 xs rfl HO5.out.one A5 k5 d5 r1 rfl E1.out _ E5.out (by omega) hs5 ?_)
    intro v6 w6 hO6 hG6 hV6
    have HO6 := Lib.hid (HO5.out.first hO6.out hG6.out hV6.out)
    have hb6 := IR.keepsB (Below.refl w3.heap.size W5) hG6.out HO5.out.one (Nat.le_refl _) hs5
    have HQ6 := Lib.hid (HQ5.out.grownI HO5.out.one (by decide) hG6.out)
    have q1 := HQ6.out.cell 1
    have HF6 := Lib.hid (F5.out.below hb6 (Nat.le_refl _))
    have HB6 := Lib.hid (HB5.out.trans hb6)
    have hs6 := HB6.out.size
    have HI2 : Hid (TwoI w6 w3.heap.size v6 u7 (vnIn (ks.take (K + 1))) ys) := by rw [HI.out]; exact HO6
    clear hO6 hG6 hV6 HO6 HO5 hb6 HQ5 HB5 E5 F5 q0
    go_wp2_with (at_builtin; refine wpList_appIB rfl _ _ rfl w3.heap.size u7 ys rfl HI2.out.two A6 k6 d6 r2 rfl F1.out _ HF6.out (by omega) hs6 ?_)
    intro v7 w7 hO7 hG7 hV7
    have hb7 := IR.keepsB (Below.refl w3.heap.size w6) hG7.out HI2.out.two (Nat.le_refl _) hs6
    have HI3 : Hid (TwoI w7 w3.heap.size v6 v7 (vnIn (ks.take (K + 1))) (vnOut (ks.take (K + 1)))) := by rw [HU.out]; exact Lib.hid (HI2.out.second hO7.out hG7.out hV7.out)
    have HB7 := Lib.hid (HB6.out.trans hb7)
    clear hO7 hG7 hV7 hb7 q1 HQ6 HI2
    go_wp2_with fail
    go_roundw
    case rel => exact ⟨K + 1, by omega, by go_num, HI3, HB7⟩
    case measure => simp [intOf]; omega
end Go.Proofs.YtgjmclbcmfkhdaaDoor
