/- Layer 10: All. -/
import Derived.Test.YtjolbdfkkhphiaaDoorVcA
namespace Go.Proofs.YtjolbdfkkhphiaaDoor
set_option linter.unusedVariables false
set_option linter.unusedSimpArgs false
set_option linter.unnecessarySimpa false
open Go.RowKit Go.Shelf
attribute [local go_sem] run_store_complex

set_option maxHeartbeats 1600000 in
theorem all10_any (n : Nat) (A : Option Addr) (cap : Nat) (zs : List Int) (w : World) (hn : n = zs.length) (hr : RI w A zs) (hl : zs.length ≤ 1000000) (hR : RowsV w) :
    Calls Tryd.prog 13 #[.slice A n cap] w fun e w' => ∃ v, e = .returned v ∧ IR w' w.heap.size v (cGo 0 zs) ∧ Below w.heap.size w w' := by
  subst hn
  have HR := Lib.hid hr
  have HRV := Lib.hid hR
  clear hr hR
  go_enter Tryd.func13, Tryd.ntmps13
  go_wp2_with fail
  have hq0 : Held (w.alloc (.cells #[.int .i64 0] 31)) w.heap.size #[.int .i64 0] 31 := Held.new w _ _
  have hb0 : Below w.heap.size w (w.alloc (.cells #[.int .i64 0] 31)) := (Below.refl _ w).alloc (Nat.le_refl _) _
  obtain ⟨p, hp⟩ : ∃ p, w.heap.size = p := ⟨_, rfl⟩
  have hpl : w.heap.size ≤ p := by omega
  have hpl2 : p ≤ w.heap.size := by omega
  rw [hp] at hq0 hb0 ⊢
  have HRP := Lib.hid (show Rd w p A (zs.map (Value.int .i64)) by rw [← hp]; exact HR.out)
  clear hp
  go_loopw [4, 9] (fun v k wr => ∃ K : Nat, K ≤ zs.length ∧ k = .int .i64 K ∧ Hid (IR wr p v (cOut 0 (zs.take K))) ∧ Hid (Held wr p #[.int .i64 (cSt 0 (zs.take K))] 31) ∧ Hid (Below p w wr)) (fun _ k _ => zs.length - (intOf k).toNat)
  case atStart => exact ⟨0, by omega, rfl, Lib.hid (IR.nil _ _), Lib.hid hq0, Lib.hid hb0⟩
  case round =>
    obtain ⟨K, hK, rfl, HO, HQ, HB⟩ := hrel
    clear hq0 hb0
    have hpr := HQ.out.lt
    have hol := cOut_len 0 (zs.take K)
    rw [kn_zero, List.length_nil, List.length_take] at hol
    have hol2 : (cOut 0 (zs.take K)).length ≤ 1000000 := by omega
    have hoc := cOut_snoc 0 (zs.take K)
    have hoe := cGo_eq 0 (zs.take K)
    obtain ⟨c, hc⟩ : ∃ c, cSt 0 (zs.take K) = c := ⟨_, rfl⟩
    obtain ⟨out, hout⟩ : ∃ c, cOut 0 (zs.take K) = c := ⟨_, rfl⟩
    rw [hc, hout] at hoc hoe
    rw [hc] at HQ
    rw [hout] at HO hol2
    clear hc hout hol
    have hkl := kn_len c
    have HRW := Lib.hid (HRV.out.below (HB.out.mono hpl))
    by_cases hKl : K = zs.length
    · have hfin : zs.take K = zs := by rw [hKl]; exact List.take_length
      rw [hfin] at hoe
      have HE := Lib.hid hoe
      have hKl' : ¬ K < zs.length := by omega
      clear hfin hKl hoe hoc
      go_wp2_with fail
      refine (end_any p c wr HQ.out).mono ?_
      rintro e w2 ⟨v2, rfl, hr2, hq2, hg2⟩
      obtain ⟨A2, c2, rfl, _, _⟩ := hr2.form
      have HR2 := Lib.hid hr2
      have HO2 := Lib.hid (HO.out.grownP HQ.out (by decide) hg2)
      have HB2 := Lib.hid (below_grow HB.out (by omega) hg2 (Nat.le_refl _))
      have hs2 := hg2.size
      clear hr2 hq2 hg2
      go_wp2_with (refine wpList_appI rfl _ _ rfl p _ out rfl HO2.out A2 _ c2 (kn c) rfl rfl _ HR2.out.rd (by omega) (by omega) ?_; intro v3 w3 hO3 hG3)
      go_ret
      exact ⟨_, rfl, by rw [HE.out]; exact hO3.out.low hpl, (IR.keepsB HB2.out hG3.out HO2.out (Nat.le_refl _) (by omega)).mono hpl⟩
    have hKl' : K < zs.length := by omega
    obtain ⟨b, off, rfl, hbl, hcell⟩ := rd_ints (HRP.out.below HB.out (Nat.le_refl _)) (by omega)
    have hx := hcell K hKl'
    obtain ⟨x, hxe⟩ : ∃ x, x = zs.getD K 0 := ⟨_, rfl⟩
    rw [← hxe] at hx
    have htk : zs.take (K + 1) = zs.take K ++ [x] := by rw [List.take_succ_eq_append_getElem hKl', hxe]; simp [List.getD_eq_getElem?_getD, hKl']
    have HTK := Lib.hid (show cOut 0 (zs.take (K + 1)) = out ++ (stepC c x).2 ∧ cSt 0 (zs.take (K + 1)) = (stepC c x).1 by rw [htk]; exact hoc x)
    have hsl := stepC_len2 c x
    clear hcell hxe htk hoc hoe
    go_wp2_with fail
    refine (put_any p c x wr HQ.out HRW.out).mono ?_
    rintro e w1 ⟨v1, rfl, hr1, hq1, hg1⟩
    obtain ⟨A2, c2, rfl, _, _⟩ := hr1.form
    have HR2 := Lib.hid hr1
    have HO2 := Lib.hid (HO.out.grownP HQ.out (by decide) hg1)
    have HB2 := Lib.hid (below_grow HB.out (by omega) hg1 (Nat.le_refl _))
    have HQ2 := Lib.hid hq1
    have hs2 := hg1.size
    clear hr1 hq1 hg1 HO HQ HB
    go_wp2_with (refine wpList_appI rfl _ _ rfl p _ out rfl HO2.out A2 _ c2 (stepC c x).2 rfl rfl _ HR2.out.rd (by omega) (by omega) ?_; intro v3 w3 hO3 hG3)
    exact ⟨⟨K + 1, by omega, by go_num, by rw [HTK.out.1]; exact hO3, by rw [HTK.out.2]; exact Lib.hid (HQ2.out.grownI HO2.out (by decide) hG3.out), Lib.hid (IR.keepsB HB2.out hG3.out HO2.out (Nat.le_refl _) (by omega))⟩, by simp [intOf]; omega⟩
end Go.Proofs.YtjolbdfkkhphiaaDoor
