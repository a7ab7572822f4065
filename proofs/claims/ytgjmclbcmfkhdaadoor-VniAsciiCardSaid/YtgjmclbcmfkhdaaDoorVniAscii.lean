/- VniAscii: the walk. -/
import Derived.Test.YtgjmclbcmfkhdaaDoorVnU
namespace Go.Proofs.YtgjmclbcmfkhdaaDoor
set_option linter.unusedVariables false
set_option linter.unusedSimpArgs false
set_option linter.unnecessarySimpa false
open Go.RowKit Go.Shelf
theorem wrapY (y : Nat) (h : y < 128) : RowKit.wrap64 (y : Int) = y ∧ IntKind.i64.wrap (y : Int) = y := by
  refine ⟨by unfold RowKit.wrap64; omega, by rw [IntKind.wrap_i64]; omega⟩
theorem and127 (z : Int) (h0 : 0 ≤ z) (h1 : z ≤ 255) : bits BinOp.and IntKind.u8 z 127 = z % 128 := by
  have := all_range (show (List.range 256).all (fun k => decide (bits BinOp.and IntKind.u8 ((k : Nat) : Int) 127 = ((k : Nat) : Int) % 128)) = true by decide +kernel) z.toNat (by omega)
  have := of_decide_eq_true this
  rw [show ((z.toNat : Nat) : Int) = z by omega] at this
  exact this
set_option maxRecDepth 100000 in
set_option maxHeartbeats 6600000 in
theorem vniAscii_any (n : Nat) (A : Option Addr) (cap : Nat) (l : List Int) (w : World) (hn : n = l.length) (hr : Rd w w.heap.size A (l.map (Value.int .u8))) (hc : n ≤ cap) (hw : ∀ z ∈ l, 0 ≤ z ∧ z ≤ 255) (hT : TabN w) :
    Calls Tryd.prog 7 #[.slice A n cap] w fun e w' => e = .returned (.bool true) ∧ Below w.heap.size w w' := by
  have A0 := Lib.hid (awake13_any w hT)
  have HT := Lib.hid hT
  obtain ⟨q, hq, hqn, hq6⟩ : ∃ q : Nat, ((if 60 < n then 60 else n) = q) ∧ q ≤ n ∧ q ≤ 60 := ⟨_, rfl, by split <;> omega, by split <;> omega⟩
  have hmin : (if (60 : Int) < (n : Int) then (60 : Int) else (n : Int)) = (q : Int) := by rw [← hq]; split <;> split <;> omega
  have hmin2 : min (n : Int) 60 = (q : Int) := by omega
  have hqc : q ≤ cap := by omega
  have hq0 : (0 : Int) ≤ (q : Int) := by omega
  have hrt := Rd.take q hr
  rw [← List.map_take] at hrt
  have hwt : ∀ z ∈ l.take q, 0 ≤ z ∧ z ≤ 255 := fun z hz => hw z (List.mem_of_mem_take hz)
  have hql : (l.take q).length = q := by rw [List.length_take]; omega
  obtain ⟨L, hLe⟩ : ∃ L, l.take q = L := ⟨_, rfl⟩
  rw [hLe] at hrt hwt hql
  have HR := Lib.hid hrt
  have HQL := Lib.hid hql
  have HW := Lib.hid hwt
  obtain ⟨ks, hkse⟩ : ∃ ks, L.map (fun z : Int => vnI (z.toNat % 128)) = ks := ⟨_, rfl⟩
  have hks : ∀ k ∈ ks, k < 262 := fun k hk => by
    rw [← hkse] at hk
    obtain ⟨z, hz, rfl⟩ := List.mem_map.1 hk
    exact (vnI_at _ (Nat.mod_lt _ (by decide))).1
  have hkl : ks.length = q := by rw [← hkse, List.length_map]; exact hql
  have hin : vnIn ks = L.map (fun z : Int => ((z.toNat % 128 : Nat) : Int)) := by
    rw [← hkse]
    clear hkse hks hkl hrt hwt hql HR HQL HW hLe
    unfold vnIn
    induction L with
    | nil => rfl
    | cons z L ih => rw [List.map_cons, List.flatMap_cons, List.map_cons, ih, (vnI_at _ (Nat.mod_lt _ (by decide))).2]; rfl
  have hout : vnOut ks = L.map (fun z : Int => ((z.toNat % 128 : Nat) : Int)) := by
    rw [← hkse]
    clear hkse hks hkl hrt hwt hql HR HQL HW hLe hin
    unfold vnOut
    induction L with
    | nil => rfl
    | cons z L ih => rw [List.map_cons, List.flatMap_cons, List.map_cons, ih, (vnI_at _ (Nat.mod_lt _ (by decide))).2]; rfl
  have HKS := Lib.hid hks
  have HKL := Lib.hid hkl
  have HIN := Lib.hid hin
  have HOUT := Lib.hid hout
  clear hr hn hw hrt hwt hql hLe hq hT hks hkl hkse hin hout
  go_enter Tryd.func7, Tryd.ntmps7
  go_wp2_with fail
  refine A0.out.mono ?_
  rintro e w1 ⟨rfl, hb1⟩
  have hs1 := hb1.size
  have R1 := Lib.hid (vnrules_any w1 (HT.out.below hb1))
  have HB1 := Lib.hid hb1
  clear hb1 A0 HT
  go_wp2_with fail
  refine R1.out.mono ?_
  rintro e w2 ⟨v, rfl, hO, hb2⟩
  obtain ⟨A2, c2, rfl, hr2⟩ := hO.form
  have HB2 := Lib.hid (HB1.out.trans (hb2.mono hs1))
  have hs2 := HB2.out.size
  rw [vnR_len] at hr2 ⊢
  have T1 := Lib.hid (of_ok 262 A2 c2 vnR _ w2 hr2 (Nat.le_refl _) vnR_right)
  have HR2 := Lib.hid hr2
  clear hO hb2 R1 HB1 hr2
  go_wp2_with fail
  refine T1.out.mono ?_
  rintro e w3 ⟨T, rfl, hT3, hb3⟩
  have HT3 := Lib.hid hT3
  have HR3 := Lib.hid (HR2.out.below hb3 hb3.size)
  have HB3 := Lib.hid (HB2.out.trans (hb3.mono hs2))
  have hs3 := HB3.out.size
  have HL3 := Lib.hid (HR.out.below HB3.out hs3)
  clear hT3 hb3 T1 HB2 HR2 HR
  go_wp2_with fail
  go_loopw [5, 29] (fun v i wr => ∃ K : Nat, K ≤ q ∧ i = .int .i64 K ∧ Hid (IR wr w3.heap.size v ((L.take K).map (fun z : Int => ((z.toNat % 128 : Nat) : Int)))) ∧ Hid (Below w3.heap.size w3 wr)) (fun _ i _ => q - (intOf i).toNat)
  case atStart => exact ⟨0, by omega, rfl, Lib.hid (IR.nil _ _), Lib.hid (Below.refl _ _)⟩
  case round =>
    obtain ⟨K, hK, rfl, ho, hb⟩ := hrel
    have hbs := hb.out.size
    by_cases hKq : K = q
    · have HF := Lib.hid (show L.take K = L by rw [hKq, ← HQL.out]; exact List.take_length)
      have hKl : ¬ K < q := by omega
      rw [HF.out, ← HIN.out] at ho
      obtain ⟨hre1, hre2⟩ := vn_reads2 ks HKS.out
      have hlens := vn_lens ks HKS.out
      rw [HOUT.out, ← HIN.out] at hre1 hlens
      obtain ⟨xs, hxs⟩ : ∃ x, vnIn ks = x := ⟨_, rfl⟩
      rw [hxs] at ho hlens
      rw [hxs] at hre1 hre2
      have htl2 : ks.length ≤ 60 := by rw [HKL.out]; exact hq6
      have hxl : xs.length ≤ 60 := by omega
      obtain ⟨A6, c6, rfl, h61, h62⟩ := ho.out.form
      obtain ⟨m, hm⟩ : ∃ m, xs.length = m := ⟨_, rfl⟩
      have HX := Lib.hid ho.out.rd
      obtain ⟨ts, hts⟩ : ∃ ts, rewA vnR 0 xs = ts := ⟨_, rfl⟩
      have W1 := Lib.hid (rew_any wr wr.heap.size T vnR (HT3.out.below hb.out hbs) (Nat.le_refl _) m A6 c6 xs _ hm.symm HX.out (Nat.le_refl _) (by omega) h62 (by omega) ts hts)
      rw [hts] at hre1 hre2
      have HRE1 := Lib.hid hre1
      have HRE2 := Lib.hid hre2
      have HM := Lib.hid hm
      have HB := Lib.hid (HB3.out.trans (hb.out.mono hs3))
      rw [hm]
      clear hlens hKq hre1 hre2 hxs hm hts ho h61 h62 hb
      go_wp2_with fail
      refine W1.out.mono ?_
      rintro e w4 ⟨v4, rfl, hO4, hb4⟩
      obtain ⟨A4, c4, rfl, hk4⟩ := hO4.form
      obtain ⟨m4, hm4⟩ : ∃ m, ts.length = m := ⟨_, rfl⟩
      rw [hm4] at hk4 ⊢
      have U1 := Lib.hid (unitsT_any m4 A4 c4 ts _ w4 hk4 (Nat.le_refl _) (by rw [HRE1.out]; omega) xs ⟨0, 0, [], 0⟩ m 0 HRE1.out HRE2.out HM.out rfl)
      have hs4 := hb4.size
      have HY4 := Lib.hid (HX.out.below hb4)
      have HB4 := Lib.hid (HB.out.trans (hb4.mono (by omega)))
      clear hO4 hb4 hk4 hm4 W1 HB HX
      go_wp2_with fail
      refine U1.out.mono ?_
      rintro e w5 ⟨A5, c5, A8, c8, rfl, hu5, -, hb5⟩
      have HY5 := Lib.hid (HY4.out.below hb5)
      have hs5 := hb5.size
      have HB5 := Lib.hid (HB4.out.trans (hb5.mono (by omega)))
      obtain ⟨_, _, he5, -, -, hx5⟩ := hu5
      injection he5 with he5 he5n he5'
      clear he5n
      subst he5 he5'
      have HX5 := Lib.hid (show RI w5 A5 xs from hx5.rd (Nat.le_refl _))
      clear hb5 hx5 U1 HY4 HB4
      have hb6 : Below w5.heap.size w5 (w5.alloc (.cells #[.int .i64 0, .int .i64 0, .slice A8 0 c8, .int .i64 0] 53)) := (Below.refl _ w5).alloc (Nat.le_refl _) _
      have V1 := Lib.hid (units_any m m A5 A6 c5 c6 xs xs _ rfl HM.out.symm HM.out.symm (HX5.out.below hb6) (HY5.out.below hb6) (by omega))
      have HB6 := Lib.hid (HB5.out.trans (hb6.mono (by omega)))
      have hs6 := HB6.out.size
      clear hb6 HX5 HY5 HB5
      go_wp2_with fail
      refine V1.out.mono ?_
      rintro e w7 ⟨rfl, hb7⟩
      have HB7 := Lib.hid (HB6.out.trans (hb7.mono hs6))
      clear hb7 HB6 V1
      go_wp2_with fail
      go_ret
      exact ⟨rfl, HB7.out⟩
    have hKl : K < q := by omega
    have hKL : K < L.length := by rw [HQL.out]; exact hKl
    obtain ⟨b, off, rfl, hbl, hcell⟩ := rd_ints (HL3.out.below hb.out hbs) (by omega)
    have hx := hcell K hKL
    have hzr := getD_range HW.out K hKL
    have htk : L.take (K + 1) = L.take K ++ [L.getD K 0] := by rw [List.take_succ_eq_append_getElem hKL]; simp [List.getD_eq_getElem?_getD, hKL]
    obtain ⟨z, hze⟩ : ∃ x, L.getD K 0 = x := ⟨_, rfl⟩
    rw [hze] at hx hzr htk
    obtain ⟨y, hy⟩ : ∃ y : Nat, z.toNat % 128 = y := ⟨_, rfl⟩
    have hyi : z % 128 = (y : Int) := by omega
    have HTK := Lib.hid (show (L.take (K + 1)).map (fun z : Int => ((z.toNat % 128 : Nat) : Int)) = (L.take K).map (fun z : Int => ((z.toNat % 128 : Nat) : Int)) ++ [(y : Int)] by rw [htk, List.map_append, ← hy]; rfl)
    have hal : ((L.take K).map (fun z : Int => ((z.toNat % 128 : Nat) : Int))).length ≤ 60 := by simp; omega
    obtain ⟨acc, hacc⟩ : ∃ x, (L.take K).map (fun z : Int => ((z.toNat % 128 : Nat) : Int)) = x := ⟨_, rfl⟩
    rw [hacc] at ho hal HTK
    have z0 := hzr.1
    have z1 := hzr.2
    have hbit : bits BinOp.and IntKind.u8 z 127 = (y : Int) := by rw [and127 z z0 z1, hyi]
    have hy128 : y < 128 := by rw [← hy]; exact Nat.mod_lt _ (by decide)
    have hw64 := (wrapY y hy128).1
    have hw64' := (wrapY y hy128).2
    clear hcell hze htk hacc hzr hy hyi
    go_wp2_with (at_builtin; refine wpList_appI1 rfl _ _ rfl w3.heap.size u5 acc (y : Int) rfl ho.out _ rfl rfl (by omega) hbs ?_)
    intro v4 w4 hO4 hG4
    have HB4 := Lib.hid (IR.keepsB hb.out hG4.out ho.out (Nat.le_refl _) hbs)
    have HN : Hid (IR w4 w3.heap.size v4 ((L.take (K + 1)).map (fun z : Int => ((z.toNat % 128 : Nat) : Int)))) := by rw [HTK.out]; exact hO4
    clear hO4 hG4 ho hb
    go_wp2_with fail
    go_roundw
    case rel => exact ⟨K + 1, by omega, by go_num, HN, HB4⟩
    case measure => simp [intOf]; omega
end Go.Proofs.YtgjmclbcmfkhdaaDoor
