/- VcanonPut: scalars one by one: the whole walk of the law. -/
import Derived.Test.YtjolbdfkkhphiaaDoorVcH
namespace Go.Proofs.YtjolbdfkkhphiaaDoor
set_option linter.unusedVariables false
set_option linter.unusedSimpArgs false
set_option linter.unnecessarySimpa false
open Go.RowKit Go.Shelf
attribute [local go_sem] run_store_complex

theorem held_at (p : Nat) (c : Int) (w : World) (hq : Held w p #[.int .i64 c] 31) (h : Nat) (hk : (kn c).length = h) :
    Calls Tryd.prog 17 #[.pointer (some ⟨p, 0, none⟩)] w fun e w' => e = .returned (.int .i64 (h : Int)) ∧ w' = w :=
  (held_any p c w hq).mono fun e w' ⟨h1, h2⟩ => ⟨by rw [h1, hk], h2⟩

theorem IR.rdB {w w' : World} {base : Nat} {A : Option Addr} {n c : Nat} {zs : List Int} {p : Nat} {cs : Array Value} {t : TypeId} (h : IR w base (.slice A n c) zs) (q : Held w p cs t) (ht : t ≠ 3) (hg : w.grownBy w' (some p)) : RI w' A zs := by
  have hne := h.ne q ht
  rcases h.rd with h1 | ⟨b, off, h1, h2, h3⟩
  · exact .inl h1
  · subst h1
    refine .inr ⟨b, off, rfl, Nat.lt_of_lt_of_le h2 hg.size, fun j hj => (World.cell?_of_block (w := w) (a := ⟨b, off + j, none⟩) (hg.block b h2 (fun e => hne (by rw [← e]; rfl)))).trans (h3 j hj)⟩
theorem grown_belowB {w w1 w2 : World} {p : Option Nat} {B : Nat} (hg : w.grownBy w1 p) (hb : Below B w1 w2) (hB : w.heap.size ≤ B) : w.grownBy w2 p :=
  ⟨hb.os.trans hg.os, hb.tape.trans hg.tape, hb.output.trans hg.output, Nat.le_trans hg.size hb.size, fun k hk hne => (hb.block k (by omega)).trans (hg.block k hk hne)⟩

set_option maxRecDepth 100000 in
set_option maxHeartbeats 25600000 in
theorem vcanonPut_any (n : Nat) (A : Option Addr) (cap : Nat) (l : List Int) (w : World) (hn : n = l.length) (hr : Rd w w.heap.size A (l.map (Value.int .u8))) (hc : n ≤ cap) (hw : ∀ z ∈ l, 0 ≤ z ∧ z ≤ 255) (hT : TabV w) :
    Calls Tryd.prog 4 #[.slice A n cap] w fun e w' => e = .returned (.bool true) ∧ Below w.heap.size w w' := by
  obtain ⟨X, hX⟩ : ∃ X, someF l = X := ⟨_, rfl⟩
  have hxl : X.length ≤ 60 := by rw [← hX]; exact someF_len l
  obtain ⟨m, hm⟩ : ∃ m, X.length = m := ⟨_, rfl⟩
  have hm60 : m ≤ 60 := by omega
  have HM := Lib.hid hm
  have HS0 := Lib.hid (fun W hr => some_at n A cap l W hn hr hc hw X hX m hm)
  have HR := Lib.hid hr
  have HT := Lib.hid hT
  clear hr hT hn hw hX hm hxl
  go_enter Tryd.func4, Tryd.ntmps4
  go_wp2_with fail
  refine (awake10_any w HT.out).mono ?_
  rintro e w1 ⟨rfl, hb1⟩
  have HB1 := Lib.hid hb1
  clear hb1
  go_wp2_with fail
  have hq0 : Held (w1.alloc (.cells #[.int .i64 0] 31)) w1.heap.size #[.int .i64 0] 31 := Held.new w1 _ _
  have hb2 := HB1.out.alloc HB1.out.size (.cells #[.int .i64 0] 31)
  obtain ⟨p, hp⟩ : ∃ p, w1.heap.size = p := ⟨_, rfl⟩
  have hpl : w.heap.size ≤ p := by rw [← hp]; exact HB1.out.size
  obtain ⟨w2, hw2⟩ : ∃ W, w1.alloc (.cells #[.int .i64 0] 31) = W := ⟨_, rfl⟩
  rw [hw2] at hq0 hb2 ⊢
  rw [hp] at hq0 ⊢
  have HB2 := Lib.hid hb2
  clear hw2 hp hb2 HB1
  clear w1
  refine (HS0.out w2 (HR.out.below HB2.out HB2.out.size)).mono ?_
  rintro e w3 ⟨A2, c2, rfl, hr3, hc2, hd2, hb3⟩
  have HB3 := Lib.hid (HB2.out.trans (hb3.mono HB2.out.size))
  have HX3 := Lib.hid hr3
  have HQ3 := Lib.hid (hq0.below hb3 hq0.lt)
  have hp3 := HQ3.out.lt
  clear hr3 hb3 hq0 HB2
  have HXI := Lib.hid (show ∀ W, w3.grownBy W (some p) → RI W A2 X from fun W hg => HX3.out.rdB HQ3.out (by decide) hg)
  have HBI := Lib.hid (show ∀ W, w3.grownBy W (some p) → Below w.heap.size w W from fun W hg => below_grow HB3.out HB3.out.size hg hpl)
  clear HX3
  go_wp2
  go_loopw [4, 20] (fun v k wr => ∃ K : Nat, K ≤ m ∧ k = .int .i64 K ∧ Hid (IR wr w3.heap.size v (cOut 0 (X.take K))) ∧ Hid (Held wr p #[.int .i64 (cSt 0 (X.take K))] 31) ∧ Hid (w3.grownBy wr (some p))) (fun _ k _ => m - (intOf k).toNat)
  case atStart => exact ⟨0, by omega, rfl, Lib.hid (IR.nil _ _), HQ3, Lib.hid (World.grownBy.refl _ _)⟩
  case round =>
    obtain ⟨K, hK, rfl, HO, HQ, HG⟩ := hrel
    clear HQ3
    have hpr := HQ.out.lt
    have hgs := HG.out.size
    have hol := cOut_len 0 (X.take K)
    rw [kn_zero, List.length_nil, List.length_take] at hol
    have hol2 : (cOut 0 (X.take K)).length ≤ 60 := by omega
    have hoc := cOut_snoc 0 (X.take K)
    have hoe := cGo_eq 0 (X.take K)
    obtain ⟨c, hcE⟩ : ∃ c, cSt 0 (X.take K) = c := ⟨_, rfl⟩
    obtain ⟨out, hout⟩ : ∃ c, cOut 0 (X.take K) = c := ⟨_, rfl⟩
    rw [hcE, hout] at hoc hoe
    rw [hcE] at HQ
    rw [hout] at HO hol2
    have hkl := kn_len c
    by_cases hKl : K = m
    · have hfin : X.take K = X := by rw [hKl, ← HM.out, List.take_length]
      rw [hfin] at hoe
      obtain ⟨Z, hZ⟩ : ∃ Z, cGo 0 X = Z := ⟨_, rfl⟩
      have hzl := cGo_len 0 X
      rw [hZ, kn_zero, List.length_nil, HM.out] at hzl
      rw [hZ] at hoe
      obtain ⟨mz, hmz⟩ : ∃ m, Z.length = m := ⟨_, rfl⟩
      have hmz60 : mz ≤ 60 := by omega
      have HMZ := Lib.hid hmz
      have HE := Lib.hid hoe
      have HCA := Lib.hid (fun n A cap (W : World) hn hr => canon_at n A cap X W hn hr (by rw [HM.out]; omega) Z hZ mz hmz)
      have hKl' : ¬ K < m := by omega
      clear hfin hKl hoe hoc hcE hout hol hZ hzl hmz
      go_wp2_with fail
      refine (end_any p c wr HQ.out).mono ?_
      rintro e w4 ⟨v4, rfl, hr4, hq4, hg4⟩
      obtain ⟨A4, c4, rfl, _, _⟩ := hr4.form
      have HR4 := Lib.hid hr4
      have HO4 := Lib.hid (HO.out.grownP HQ.out (by decide) hg4)
      have HG4 := Lib.hid (HG.out.trans hg4)
      have HQ4 := Lib.hid hq4
      have hs4 : w3.heap.size ≤ w4.heap.size := HG4.out.size
      have hk2 : out.length + (kn c).length ≤ 17592186044416 := by omega
      have HK2 := Lib.hid hk2
      clear hr4 hq4 hg4 hk2 HO HQ HG
      go_wp2_with (refine wpList_appI rfl _ _ rfl w3.heap.size u4 out rfl HO4.out A4 _ c4 (kn c) rfl rfl _ HR4.out.rd HK2.out hs4 ?_; intro v5 w5 hO5 hG5; rw [← HE.out] at hO5; obtain ⟨A5, c5, hv5, hA5, hC5⟩ := hO5.out.form; rw [HMZ.out] at hv5; have HQ5 := Lib.hid (HQ4.out.grownI HO4.out (by decide) hG5.out); have HG5 := Lib.hid (grown_belowB HG4.out (IR.keepsB (Below.refl w3.heap.size w4) hG5.out HO4.out (Nat.le_refl _) hs4) (Nat.le_refl _)); clear hG5 hA5; subst hv5)
      refine (HCA.out m A2 c2 w5 HM.out.symm (HXI.out w5 HG5.out)).mono ?_
      rintro e w6 ⟨A6, c6, rfl, hr6, hc6, hd6, hb6⟩
      have HR6 := Lib.hid hr6.rd
      have HR56 := Lib.hid (hO5.out.rd.below hb6)
      have HQ6 := Lib.hid (HQ5.out.below hb6 HQ5.out.lt)
      have HG6 := Lib.hid (HG5.out.trans (grown_of hb6))
      clear hr6 hb6 HQ5 HG5 hO5
      go_wp2_with fail
      refine (units_any mz mz A5 A6 c5 c6 _ _ w6 rfl HMZ.out.symm HMZ.out.symm HR56.out HR6.out (by rw [HMZ.out]; omega)).mono ?_
      rintro e w7 ⟨rfl, hb7⟩
      have HQ7 := Lib.hid (HQ6.out.below hb7 HQ6.out.lt)
      have HG7 := Lib.hid (HG6.out.trans (grown_of hb7))
      clear hb7 HQ6 HG6 HR56 HR6
      go_wp2_with fail
      refine (held_at p 0 w7 HQ7.out 0 rfl).mono ?_
      rintro e w' ⟨rfl, hw'⟩
      rw [hw']
      clear hw' w'
      go_wp2_with fail
      refine (end_any p 0 w7 HQ7.out).mono ?_
      rintro e w8 ⟨v8, rfl, hr8, hq8, hg8⟩
      obtain ⟨A8, c8, rfl, _, _⟩ := hr8.form
      rw [kn_zero, List.length_nil]
      have HB8 := Lib.hid (HBI.out _ (HG7.out.trans hg8))
      clear hr8 hq8 hg8
      go_wp2
      go_ret
      exact ⟨rfl, HB8.out⟩
    have hKl' : K < m := by omega
    have hKL : K < X.length := by rw [HM.out]; exact hKl'
    obtain ⟨b, off, rfl, hbl, hcell⟩ := rd_ints (HXI.out wr HG.out) (by omega)
    have hx := hcell K hKL
    obtain ⟨x, hxe⟩ : ∃ x, x = X.getD K 0 := ⟨_, rfl⟩
    rw [← hxe] at hx
    have htk : X.take (K + 1) = X.take K ++ [x] := by rw [List.take_succ_eq_append_getElem hKL, hxe]; simp [List.getD_eq_getElem?_getD, hKL]
    have hsl := stepC_len2 c x
    have htl : (X.take (K + 1)).length = K + 1 := by rw [List.length_take]; omega
    have hoc2 := hoc x
    rw [← htk] at hoc2
    have hde := cGo_eq 0 (X.take (K + 1))
    have hdl := cGo_len 0 (X.take (K + 1))
    rw [kn_zero, List.length_nil, htl] at hdl
    obtain ⟨W1, hW1⟩ : ∃ W, X.take (K + 1) = W := ⟨_, rfl⟩
    rw [hW1] at hoc2 hde hdl htl
    obtain ⟨ad, had⟩ : ∃ y, (stepC c x).2 = y := ⟨_, rfl⟩
    obtain ⟨O, hOe⟩ : ∃ O, cOut 0 W1 = O := ⟨_, rfl⟩
    obtain ⟨cc, hcc⟩ : ∃ y, cSt 0 W1 = y := ⟨_, rfl⟩
    obtain ⟨D, hD⟩ : ∃ D, cGo 0 W1 = D := ⟨_, rfl⟩
    rw [hOe, had] at hoc2
    rw [hD, hOe, hcc] at hde
    rw [hD] at hdl
    rw [hcc] at hoc2
    rw [had] at hsl
    obtain ⟨mo, hmo⟩ : ∃ m, O.length = m := ⟨_, rfl⟩
    obtain ⟨md, hmd0⟩ : ∃ m, D.length = m := ⟨_, rfl⟩
    have HMO := Lib.hid hmo
    have HMD := Lib.hid hmd0
    have hmd60 : md ≤ 60 := by omega
    have hmom : mo ≤ md := by rw [← hmo, ← hmd0, hde]; simp
    have HDO := Lib.hid hde
    have HOO := Lib.hid (show cOut 0 (X.take (K + 1)) = O by rw [hW1]; exact hOe)
    have HCC := Lib.hid (show cSt 0 (X.take (K + 1)) = cc by rw [hW1]; exact hcc)
    have HOA := Lib.hid (show out ++ ad = O from hoc2.1.symm)
    have HSC := Lib.hid (show stepC c x = (cc, ad) from Prod.ext hoc2.2.symm had)
    have HTL := Lib.hid htl
    have HCA := Lib.hid (fun n A cap (W : World) hn hr => canon_at n A cap W1 W hn hr (by rw [HTL.out]; omega) D hD md hmd0)
    have HXT := Lib.hid (show ∀ W, w3.grownBy W (some p) → RI W (some ⟨b, off, none⟩) W1 from fun W hg => by
      have := Rd.take (K + 1) (HXI.out W hg)
      rw [← List.map_take, hW1] at this
      exact this)
    have HLEN := Lib.hid (show out.length + ad.length ≤ 17592186044416 by omega)
    clear hcell hxe htk hsl htl hoc2 hde hdl hW1 had hOe hcc hD hmo hmd0 hoc hoe hcE hout hol hKL hol2 hkl
    have HBW := Lib.hid (HBI.out wr HG.out)
    go_wp2_with fail
    refine (put_any p c x wr HQ.out (HT.out.below HBW.out).rows).mono ?_
    rintro e w4 ⟨v4, rfl, hr4, hq4, hg4⟩
    rw [HSC.out] at hr4 hq4
    obtain ⟨A4, c4, rfl, _, _⟩ := hr4.form
    have HR4 := Lib.hid hr4
    have HO4 := Lib.hid (HO.out.grownP HQ.out (by decide) hg4)
    have HQ4 := Lib.hid hq4
    have HG4 := Lib.hid (HG.out.trans hg4)
    have hs4 : w3.heap.size ≤ w4.heap.size := HG4.out.size
    clear hr4 hq4 hg4 HO HQ HG HBW hgs hpr hx hbl
    have hK1 : IntKind.i64.wrap ((K : Int) + 1) = (K : Int) + 1 := by rw [IntKind.wrap_i64]; omega
    have hK2 : (0 : Int) ≤ (K : Int) + 1 := by omega
    have hK3 : ((K : Int) + 1).toNat = K + 1 := by omega
    have hK4 : K + 1 ≤ c2 := by omega
    have hK5 : (K : Int) + 1 ≤ (c2 : Int) := by omega
    go_wp2_with (refine wpList_appI rfl _ _ rfl w3.heap.size u4 out rfl HO4.out A4 _ c4 ad rfl rfl _ HR4.out.rd HLEN.out hs4 ?_; intro v5 w5 hO5 hG5; rw [HOA.out] at hO5; obtain ⟨A6, c6, hv5, hA5, hC5⟩ := hO5.out.form; rw [HMO.out] at hv5; have HQ5 := Lib.hid (HQ4.out.grownI HO4.out (by decide) hG5.out); have HG5 := Lib.hid (grown_belowB HG4.out (IR.keepsB (Below.refl w3.heap.size w4) hG5.out HO4.out (Nat.le_refl _) hs4) (Nat.le_refl _)); clear hG5 hA5; subst hv5)
    clear hK1 hK2 hK3 hK4 hK5 HO4 HQ4 HG4 HR4 hs4
    refine (HCA.out (K + 1) (some ⟨b, off, none⟩) c2 w5 HTL.out.symm (HXT.out w5 HG5.out)).mono ?_
    rintro e w6 ⟨A7, c7, rfl, hr6, hc7, hd7, hb6⟩
    have HD6 := Lib.hid (show RI w6 A7 O by
      have := Rd.take mo hr6.rd
      rw [← List.map_take, HDO.out, List.take_append_of_le_length (by rw [HMO.out]; exact Nat.le_refl _), List.take_of_length_le (by rw [HMO.out]; exact Nat.le_refl _)] at this
      exact this)
    have HO6 := Lib.hid (hO5.out.below hb6 (Nat.le_refl _))
    have HQ6 := Lib.hid (HQ5.out.below hb6 HQ5.out.lt)
    have HG6 := Lib.hid (HG5.out.trans (grown_of hb6))
    have HT6 := Lib.hid (HT.out.below (HBI.out _ HG6.out))
    clear hr6 hb6 hO5 HQ5 HG5
    go_wp2_with fail
    refine (split_any x w6 HT6.out.rows).mono ?_
    rintro e w7 ⟨rfl, hb7⟩
    obtain ⟨sb, hsb⟩ : ∃ s, (splitF x).isSome = s := ⟨_, rfl⟩
    have hlv : ∃ b r i, lV (splitF x) = #[.int .i64 b, .complex .f64 r i] := by
      obtain ⟨b, r, i, h, _⟩ := lv_same (k := splitF x) (fun j h => split_lt h)
      exact ⟨b, r, i, h⟩
    obtain ⟨bx, rx, ix, hlv⟩ := hlv
    rw [hlv, hsb]
    have HSB := Lib.hid (show isL x = sb from hsb)
    clear hsb hlv
    go_upto_region 12 with fail
    have hb8 := hb7.alloc hb7.size (.cells #[.int .i64 bx, .complex .f64 rx ix] 35)
    obtain ⟨w9, hw9⟩ : ∃ W, w7.alloc (.cells #[.int .i64 bx, .complex .f64 rx ix] 35) = W := ⟨_, rfl⟩
    rw [hw9] at hb8 ⊢
    have HD9 := Lib.hid (HD6.out.below hb8)
    have HO9 := Lib.hid (HO6.out.below hb8 (Nat.le_refl _))
    have HQ9 := Lib.hid (HQ6.out.below hb8 HQ6.out.lt)
    have HG9 := Lib.hid (HG6.out.trans (grown_of hb8))
    clear hw9 hb7 hb8 HD6 HO6 HQ6 HG6 HT6
    have hm0 : (0 : Int) ≤ (mo : Int) := by omega
    have hSt : St cc := by have := stepC_St c x; rw [HSC.out] at this; exact this
    cases sb with
    | true =>
      have hcx : cc = x := by
        have h1 := HSC.out
        unfold stepC at h1
        rw [tog_isL HSB.out] at h1
        simp only [HSB.out, if_true, Prod.mk.injEq] at h1
        exact h1.1.symm
      have hkn : (kn cc).length = 1 := by rw [hcx, kn_ne (isL_ne HSB.out)]; rfl
      clear hcx hSt
      have HH := Lib.hid (fun (W : World) (q : Held W p #[.int .i64 cc] 31) => held_at p cc W q 1 hkn)
      have hmd : md = mo + 1 := by rw [← HMD.out, HDO.out, List.length_append, hkn, HMO.out]
      have e1 : ((mo : Int) + 1 != (md : Int)) = false := by rw [hmd]; simp
      have hw1 : IntKind.i64.wrap ((mo : Int) + 1) = (mo : Int) + 1 := by rw [IntKind.wrap_i64]; omega
      have hoc : mo ≤ c7 := by omega
      clear hkn hmd
      go_wp2_with fail
      refine (HH.out w9 HQ9.out).mono ?_
      rintro e w' ⟨rfl, hw'⟩
      rw [hw']
      clear hw' w'
      go_wp2_with fail
      refine (units_any mo mo A6 A7 c6 c7 O O w9 rfl HMO.out.symm HMO.out.symm HO9.out.rd HD9.out (by rw [HMO.out]; omega)).mono ?_
      rintro e w10 ⟨rfl, hb10⟩
      have HQ10 := Lib.hid (HQ9.out.below hb10 HQ9.out.lt)
      have HO10 := Lib.hid (HO9.out.below hb10 (Nat.le_refl _))
      have HG10 := Lib.hid (HG9.out.trans (grown_of hb10))
      clear hb10
      go_wp2_with fail
      refine (HH.out w10 HQ10.out).mono ?_
      rintro e w' ⟨rfl, hw'⟩
      rw [hw']
      clear hw' w'
      go_wp2_with fail
      refine (HH.out w10 HQ10.out).mono ?_
      rintro e w' ⟨rfl, hw'⟩
      rw [hw']
      clear hw' w'
      go_wp2
      go_roundw
      case rel => exact ⟨K + 1, by omega, by go_num, by rw [HOO.out]; exact HO10, by rw [HCC.out]; exact HQ10, HG10⟩
      case measure => simp [intOf]; omega
    | false =>
      by_cases hcc0 : cc = 0
      · have hkn : (kn cc).length = 0 := by rw [hcc0]; rfl
        clear hcc0 hSt
        have HH := Lib.hid (fun (W : World) (q : Held W p #[.int .i64 cc] 31) => held_at p cc W q 0 hkn)
        have hmd : md = mo + 0 := by rw [← HMD.out, HDO.out, List.length_append, hkn, HMO.out]
        have e1 : ((mo : Int) + 0 != (md : Int)) = false := by rw [hmd]; simp
        have e2 : ((mo : Int) != (md : Int)) = false := by rw [hmd]; simp
        have hw1 : IntKind.i64.wrap ((mo : Int) + 0) = (mo : Int) + 0 := by rw [IntKind.wrap_i64]; omega
        have hoc : mo ≤ c7 := by omega
        clear hkn hmd
        go_wp2_with fail
        refine (HH.out w9 HQ9.out).mono ?_
        rintro e w' ⟨rfl, hw'⟩
        rw [hw']
        clear hw' w'
        go_wp2_with fail
        refine (HH.out w9 HQ9.out).mono ?_
        rintro e w' ⟨rfl, hw'⟩
        rw [hw']
        clear hw' w'
        go_wp2_with fail
        refine (units_any mo mo A6 A7 c6 c7 O O w9 rfl HMO.out.symm HMO.out.symm HO9.out.rd HD9.out (by rw [HMO.out]; omega)).mono ?_
        rintro e w10 ⟨rfl, hb10⟩
        have HQ10 := Lib.hid (HQ9.out.below hb10 HQ9.out.lt)
        have HO10 := Lib.hid (HO9.out.below hb10 (Nat.le_refl _))
        have HG10 := Lib.hid (HG9.out.trans (grown_of hb10))
        clear hb10
        go_wp2_with fail
        refine (HH.out w10 HQ10.out).mono ?_
        rintro e w' ⟨rfl, hw'⟩
        rw [hw']
        clear hw' w'
        go_wp2_with fail
        refine (HH.out w10 HQ10.out).mono ?_
        rintro e w' ⟨rfl, hw'⟩
        rw [hw']
        clear hw' w'
        go_wp2
        go_roundw
        case rel => exact ⟨K + 1, by omega, by go_num, by rw [HOO.out]; exact HO10, by rw [HCC.out]; exact HQ10, HG10⟩
        case measure => simp [intOf]; omega
      · have hkn : (kn cc).length = 1 := by rw [kn_ne hcc0]; rfl
        clear hcc0 hSt
        have HH := Lib.hid (fun (W : World) (q : Held W p #[.int .i64 cc] 31) => held_at p cc W q 1 hkn)
        have hmd : md = mo + 1 := by rw [← HMD.out, HDO.out, List.length_append, hkn, HMO.out]
        have e1 : ((mo : Int) + 1 != (md : Int)) = false := by rw [hmd]; simp
        have hw1 : IntKind.i64.wrap ((mo : Int) + 1) = (mo : Int) + 1 := by rw [IntKind.wrap_i64]; omega
        have hoc : mo ≤ c7 := by omega
        clear hkn hmd
        go_wp2_with fail
        refine (HH.out w9 HQ9.out).mono ?_
        rintro e w' ⟨rfl, hw'⟩
        rw [hw']
        clear hw' w'
        go_wp2_with fail
        refine (HH.out w9 HQ9.out).mono ?_
        rintro e w' ⟨rfl, hw'⟩
        rw [hw']
        clear hw' w'
        go_wp2_with fail
        refine (units_any mo mo A6 A7 c6 c7 O O w9 rfl HMO.out.symm HMO.out.symm HO9.out.rd HD9.out (by rw [HMO.out]; omega)).mono ?_
        rintro e w10 ⟨rfl, hb10⟩
        have HQ10 := Lib.hid (HQ9.out.below hb10 HQ9.out.lt)
        have HO10 := Lib.hid (HO9.out.below hb10 (Nat.le_refl _))
        have HG10 := Lib.hid (HG9.out.trans (grown_of hb10))
        clear hb10
        go_wp2_with fail
        refine (HH.out w10 HQ10.out).mono ?_
        rintro e w' ⟨rfl, hw'⟩
        rw [hw']
        clear hw' w'
        go_wp2
        go_roundw
        case rel => exact ⟨K + 1, by omega, by go_num, by rw [HOO.out]; exact HO10, by rw [HCC.out]; exact HQ10, HG10⟩
        case measure => simp [intOf]; omega
end Go.Proofs.YtjolbdfkkhphiaaDoor
