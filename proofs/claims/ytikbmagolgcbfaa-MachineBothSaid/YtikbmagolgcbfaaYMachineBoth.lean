/- MachineBoth: the walk. -/
import Derived.Test.YtikbmagolgcbfaaZ17
import Derived.Test.YtikbmagolgcbfaaZ13
import Derived.Test.YtikbmagolgcbfaaZ11
namespace Go.Proofs.Ytikbmagolgcbfaa
set_option linter.unusedVariables false
set_option linter.unusedSimpArgs false
set_option linter.unnecessarySimpa false
open Go.RowKit
set_option maxRecDepth 100000 in
set_option maxHeartbeats 12800000 in
theorem machineBoth_any (n : Nat) (A : Option Addr) (c : Nat) (rows : List RowL) (A' : Option Addr) (c' : Nat) (zs : List Int) (w : World) (hr : RwAt w w.heap.size A n c rows) (hz : Rd w w.heap.size A' (zs.map (Value.int .u8))) (hzr : ∀ z ∈ zs, 0 ≤ z ∧ z ≤ 255) (hzc : zs.length ≤ c') (hzm : c' ≤ maxLen) :
    Calls Try.prog 7 #[.slice A n c, .slice A' zs.length c'] w fun e w' => e = .returned (.bool true) ∧ Below w.heap.size w w' := by
  obtain ⟨rs, hrs⟩ : ∃ rs, tabR (rightR (rulesR rows)) = rs := ⟨_, rfl⟩
  obtain ⟨hck, hcl, hct, h40⟩ := tab_good rows
  rw [hrs] at hck hcl hct h40
  have HCL := Lib.hid hcl
  have HGT := Lib.hid (good_of hct)
  have HG := Lib.hid (good_of hck)
  obtain ⟨N, hN⟩ : ∃ N, N = rs.length := ⟨_, rfl⟩
  obtain ⟨Z, hZ⟩ : ∃ Z, Z = zs.length := ⟨_, rfl⟩
  obtain ⟨us, hus⟩ : ∃ us, fewM zs = us := ⟨_, rfl⟩
  obtain ⟨M, hM⟩ : ∃ M, us.length = M := ⟨_, rfl⟩
  have hM60 : M ≤ 60 := by rw [← hM, ← hus]; exact fewM_len zs
  rw [← hZ] at hzc ⊢
  rw [← hN] at h40
  have HZM := Lib.hid hzm
  have HR := Lib.hid hr
  have HRS := Lib.hid hrs
  have HCK := Lib.hid hck
  have HN := Lib.hid hN
  have HZ := Lib.hid hz
  have HZR := Lib.hid hzr
  have HZL := Lib.hid hZ
  have HUS := Lib.hid hus
  have HM := Lib.hid hM
  clear hr hrs hck hcl hct hN hz hzr hZ hus hM hzm
  go_enter Try.func7, Try.ntmps7
  go_wp2_with fail
  refine (awake16_any _).mono ?_
  rintro e w1 ⟨rfl, hb1⟩
  have hs1 := hb1.size
  go_wp2_with fail
  refine (ltab_any n A c rows w1.heap.size _ (HR.out.below hb1 hs1) (Nat.le_refl _) rs HRS.out).mono ?_
  rintro e w2 ⟨v2, rfl, ho2, hb2⟩
  have hs2 := hb2.size
  obtain ⟨A2, c2, rfl, hat2⟩ := ho2.form
  rw [← HN.out] at hat2 ⊢
  have HAT2 := Lib.hid hat2
  clear ho2 hat2
  go_wp2_with fail
  refine (tab_of_ok N A2 c2 rs w2.heap.size _ HAT2.out (Nat.le_refl _) (by omega) HCK.out HCL.out).mono ?_
  rintro e w3 ⟨T, rfl, ho, hb3⟩
  have hs3 := hb3.size
  have HO := Lib.hid ho
  have HAT3 := Lib.hid (HAT2.out.below hb3 hs3)
  have hbE3 : Below w.heap.size w w3 := hb1.trans ((hb2.trans (hb3.mono hs2)).mono hs1)
  have HB3 := Lib.hid hbE3
  have hsE := hbE3.size
  clear ho hb1 hb2 hb3 hbE3 HAT2
  go_wp2_with fail
  refine (mdecode_any w3 w3.heap.size T rs HO.out (Nat.le_refl _)).mono ?_
  rintro e w4 ⟨p, T1, B1, rfl, ht1, hB1, hs1', hm, hb4⟩
  have hpl := hm.lt
  have HT1 := Lib.hid ht1
  have HMA := Lib.hid hm
  have HB34 := Lib.hid hb4
  have HB4 := Lib.hid (HB3.out.trans (hb4.mono hsE))
  have hs4 := hb4.size
  clear ht1 hm hb4
  go_wp2_with fail
  refine (mencode_any w4 w3.heap.size T rs (HO.out.below HB34.out (Nat.le_refl _)) hs4).mono ?_
  rintro e w5 ⟨x, T2, R2, rfl, hs5', hx, hb5⟩
  have hxE := hx (fun b => b ≠ x ∧ b ≠ p) (fun b hb => hb.1)
  have hxl := hxE.lt
  have hxT := hxE.tlt
  have hs5 := hb5.size
  have hxp : p ≠ x := by omega
  have hpT : p ≠ T2 := by omega
  have HX5 := Lib.hid hxE
  have HM5 := Lib.hid (HMA.out.below hb5 hpl)
  have HT5 := Lib.hid (HT1.out.below (hb5.mono (show B1 ≤ w4.heap.size by omega)) (Nat.le_refl _))
  have HB35 := Lib.hid (HB34.out.trans (hb5.mono hs4))
  have HB5 := Lib.hid (HB4.out.trans (hb5.mono HB4.out.size))
  have hsw := HB5.out.size
  clear hx hxE hb5 HMA HT1 HB34 HB4
  go_wp2_with fail
  refine (few_any Z A' c' zs w.heap.size w5 HZL.out (HZ.out.below HB5.out (Nat.le_refl _)) HZR.out HB5.out.size hzc HZM.out us M HUS.out HM.out).mono ?_
  rintro e w6 ⟨A5, c5, rfl, hu6, hb6⟩
  have hs6 := hb6.size
  obtain ⟨tt0, htt0⟩ : ∃ tt0, rewA (turnR rs) 0 us = tt0 := ⟨_, rfl⟩
  obtain ⟨te, hte⟩ : ∃ te, encF rs [] tt0 = te := ⟨_, rfl⟩
  have hea : encA rs us = te := by rw [← hte, ← htt0]; rfl
  have D1 := Lib.hid (mallE_any w6 w3.heap.size x rs T2 R2 0 0 [] ((HX5.out.below hb6).weak (fun b hb => hb.1) (fun b hb => hb)) (by omega) (by omega) (by omega) (by omega) M A5 c5 us HM.out (hu6.step (Nat.le_refl _) fun b _ hx => ⟨(by have : w5.heap.size ≤ b := hx; omega), rfl⟩) (by omega) tt0 htt0)
  rw [hte] at D1
  have hte8 : ∀ t ∈ te, t.out.length ≤ 8 := by rw [← hea]; exact encA_out HGT.out us
  have htel : te.length ≤ 60 := by rw [← hea]; have := encA_len HGT.out us; rw [HM.out] at this; omega
  have hull : (outsT te).length ≤ 480 := by have := outsT_len te hte8; omega
  obtain ⟨U, hU⟩ : ∃ U, outsT te = U := ⟨_, rfl⟩
  obtain ⟨tt, htt⟩ : ∃ tt, rewA rs 0 U = tt := ⟨_, rfl⟩
  rw [hU] at hull
  have htt8 : ∀ t ∈ tt, t.out.length ≤ 8 := by rw [← htt]; exact rewA_out HG.out U 0
  have httl : tt.length ≤ 480 := by rw [← htt]; have := HG.out.rew_len U 0; omega
  have hback : (∀ t ∈ te, t.err = 0) → outsT tt = us := fun h => by
    have := (table_back HG.out HGT.out HCL.out us (by rw [hea]; exact h) 0).1
    rw [hea, hU, htt] at this
    exact this
  obtain ⟨L, hL⟩ : ∃ L, L = te.length := ⟨_, rfl⟩
  rw [← hL] at htel
  have HM6 := Lib.hid (HM5.out.below hb6 (by omega))
  have HT6 := Lib.hid (HT5.out.below (hb6.mono (show B1 ≤ w5.heap.size by omega)) (Nat.le_refl _))
  have HB6 := Lib.hid (HB5.out.trans (hb6.mono hsw))
  have HTE8 := Lib.hid hte8
  have HU := Lib.hid hU
  have HTT := Lib.hid htt
  have HTT8 := Lib.hid htt8
  have HTTL := Lib.hid httl
  have HBK := Lib.hid hback
  have HLT := Lib.hid hL
  clear hu6 hb6 htt0 hte hea hte8 hU htt htt8 httl hback hL HX5 HM5 HT5 HB5 HB35 HO HAT3
  go_wp2_with fail
  refine D1.out.mono ?_
  rintro e w7 ⟨v7, s7, rfl, ho7, -, -, -, hg7⟩
  obtain ⟨A8, c8, rfl, -⟩ := ho7.own.form
  rw [← HLT.out] at ho7 ⊢
  have hs7 := hg7.size
  have HM7 := Lib.hid (HM6.out.of_block (hg7.block p (by omega) (fun e => by injection e with e; exact hxp e)))
  have HT7 := Lib.hid (HT6.out.below (below_of hg7 (by omega) (by omega)) (Nat.le_refl _))
  have HB7 := Lib.hid (show Below w.heap.size w w7 from HB6.out.trans (below_of hg7 (by omega) (by omega)))
  have HTE := Lib.hid ho7
  obtain ⟨S, hS⟩ : ∃ S, S = w7.heap.size := ⟨_, rfl⟩
  have hpS : p < S := by omega
  have hsS : w7.heap.size ≤ S := by omega
  have hSw : S ≤ w7.heap.size := by omega
  have hS6 : w6.heap.size ≤ S := by omega
  have hwS : w.heap.size ≤ S := by omega
  have HSE := Lib.hid hS
  have HB0 : Hid (Both w7 w7 S p T1 rs U tt (.slice none 0 0) (outsT (te.take 0)).length [] 0 []) := ⟨IR.nil _ _, MS.start _ _, HM7.out, HTT.out, grownR _ _⟩
  clear hg7 ho7 hS HM6 HT6 HB6 D1 HM7 HTT
  go_wp2
  go_loopw [9, 48] (fun v j wr => ∃ (J : Nat) (q : List Int) (st : Int) (acc : List Tk), J ≤ L ∧ j = .int .i64 J ∧ Hid (Both w7 wr S p T1 rs U tt v (outsT (te.take J)).length q st acc) ∧ Hid (∀ t ∈ te.take J, t.err = 0)) (fun _ j _ => L - (intOf j).toNat)
  case atStart => exact ⟨0, [], 0, [], by omega, rfl, HB0, Lib.hid (by simp)⟩
  case round =>
    obtain ⟨J, q, st, acc, hJ, rfl, hbo, hal⟩ := hrel
    have hgr := hbo.out.grown.size
    by_cases hJn : J = L
    · have hJ' : ¬ J < L := by omega
      have htk : te.take J = te := List.take_of_length_le (by rw [← HLT.out]; omega)
      rw [htk] at hbo hal
      have hfin := HBK.out hal.out
      have hrest := all_end (by rw [HU.out]; exact Nat.le_refl _) hbo.out.rest
      have hql := hbo.out.ms.len
      obtain ⟨hst0, hst1⟩ := hbo.out.ms.steps
      have hq7 := opens_lt HG.out hbo.out.ms.open_
      rw [HU.out] at hrest hql hst1
      obtain ⟨K, hK⟩ : ∃ K, U.length = K := ⟨_, rfl⟩
      have hmat := hbo.out.mat
      rw [HU.out] at hmat
      rw [hK] at hrest hql hst1 hull hmat
      obtain ⟨t2, ht2⟩ : ∃ t2, rewA rs ((K : Int) - q.length) q = t2 := ⟨_, rfl⟩
      rw [ht2] at hrest
      have h28 : ∀ t ∈ t2, t.out.length ≤ 8 := by rw [← ht2]; exact rewA_out HG.out q _
      have ht8 : t2.length ≤ 8 := by have := HG.out.rew_len q ((K : Int) - q.length); rw [ht2] at this; omega
      have hTr : TrieOK wr B1 T1 rs := HT7.out.below (below_of hbo.out.grown hB1 (by omega)) (Nat.le_refl _)
      have E1 := Lib.hid (mend_any wr p T1 q _ st hmat B1 rs hTr hB1 (by omega) (by omega) (by omega) (by omega) t2 ht2)
      obtain ⟨A9, c9, rfl, -, -⟩ := hbo.out.row.form
      obtain ⟨k9, hk9⟩ : ∃ k, (outsT acc).length = k := ⟨_, rfl⟩
      rw [hk9] at hbo ⊢
      have HFIN := Lib.hid hfin
      have HREST := Lib.hid hrest
      have HT88 := Lib.hid h28
      have HROW := Lib.hid hbo.out.row
      have HGRA := Lib.hid hbo.out.grown
      obtain ⟨rr, hrr⟩ : ∃ r, acc ++ (t2 ++ r) = tt := ⟨[], by rw [List.append_nil]; exact hrest⟩
      have BREST := Lib.hid hrr
      clear hJn htk hal hbo hfin hrest hmat ht2 h28 hTr hk9 hK hrr
      obtain ⟨wa, rfl⟩ : ∃ wa : World, wa = wr := ⟨_, rfl⟩
      go_wp2_with fail
      refine E1.out.mono ?_
      rintro e w8 ⟨v8, rfl, ho8, -, hg8⟩
      obtain ⟨A6, c6, rfl, -⟩ := ho8.own.form
      obtain ⟨N6, hN6⟩ : ∃ N6, t2.length = N6 := ⟨_, rfl⟩
      rw [hN6] at ho8 ht8 ⊢
      have HN6 := Lib.hid hN6
      have HT8 := Lib.hid ho8
      have hs8 := hg8.size
      have HI8 := Lib.hid (HROW.out.keptP hg8 hpS)
      have HG8 := Lib.hid (grown_seq HGRA.out hg8)
      obtain ⟨V, hV⟩ : ∃ V, (Value.slice A9 k9 c9).ownBlock = V := ⟨_, rfl⟩
      have HVE := Lib.hid hV
      have HVB := Lib.hid (show ∀ b, V = some b → b < wa.heap.size from fun b e => (HROW.out.lt (hV.trans e)).2)
      have HVS := Lib.hid (show ∀ b, V = some b → S ≤ b from fun b e => (HROW.out.lt (hV.trans e)).1)
      clear ho8 hg8 hN6 hV E1 HROW HGRA
      go_wp2
      go_loopw [9, 80] (fun a j wx => ∃ m : Nat, m ≤ N6 ∧ j = .int .i64 m ∧ Hid (IR wx S a (outsT (acc ++ t2.take m))) ∧ Hid (w8.grownBy wx V) ∧ Hid (a.ownBlock = V ∨ ∃ b, a.ownBlock = some b ∧ w8.heap.size ≤ b)) (fun _ j _ => N6 - (intOf j).toNat)
      case atStart => exact ⟨0, by omega, rfl, by rw [List.take_zero, List.append_nil]; exact HI8, Lib.hid (grownR _ _), Lib.hid (.inl HVE.out)⟩
      case round =>
        obtain ⟨m, hm, rfl, hi, hg, hvb⟩ := hrel
        have hgs := hg.out.size
        by_cases hmn : m = N6
        · have hm' : ¬ m < N6 := by omega
          have HIE := Lib.hid (show IR wr S _ (outsT (acc ++ t2)) by have h := hi.out; rw [List.take_of_length_le (by rw [HN6.out]; omega)] at h; exact h)
          clear hmn hi
          rw [HREST.out, HFIN.out] at HIE
          obtain ⟨A12, c12, rfl, -, -⟩ := HIE.out.form
          obtain ⟨w12, rfl⟩ : ∃ w12 : World, w12 = wr := ⟨_, rfl⟩
          have hlM := HM.out
          rw [hlM] at HIE ⊢
          have hg712 := grown_more HG8.out hg.out (fun b e => Nat.le_trans hsS (HVS.out b e))
          have HB12 := Lib.hid (below_grownP HB7.out hg712 (by omega) (by omega))
          clear hg hvb hlM hg712
          go_wp2_with fail
          refine (few_any Z A' c' zs w.heap.size w12 HZL.out (HZ.out.below HB12.out (Nat.le_refl _)) HZR.out HB12.out.size hzc HZM.out us M HUS.out HM.out).mono ?_
          rintro e w13 ⟨A13, c13, rfl, hu13, hb13⟩
          have HB13 := Lib.hid (HB12.out.trans (hb13.mono HB12.out.size))
          have hir := (HIE.out.below hb13 (Nat.le_refl _)).rd
          obtain ⟨-, r4, r5, r6⟩ := hu13.rd
          have U1 := Lib.hid (units_v M M A12 A13 c12 c13 us us w13.heap.size w13.heap.size w13 true (eqB_t rfl) HM.out.symm HM.out.symm hir (r6.rd (Nat.le_refl w13.heap.size)) (by omega))
          clear hu13 hb13 hir r6 HIE HB12
          go_wp2_with fail
          refine U1.out.mono ?_
          rintro e w14 ⟨rfl, qn, rfl⟩
          go_wp2_with fail
          go_ret
          exact ⟨rfl, below_dr HB13.out qn⟩
        have hm' : m < N6 := by omega
        have hm1 : m < t2.length := by rw [HN6.out]; exact hm'
        have m3 : (0 : Int) ≤ m := by omega
        have m4 : (m : Int) < N6 := by omega
        have h2r := HT8.out.keptR hg.out HVB.out
        obtain ⟨g, cg, hgv⟩ : ∃ g c', Value.slice A6 N6 c6 = .slice (some ⟨g, 0, none⟩) N6 c' := by
          obtain ⟨xs, hown, _⟩ := HT8.out
          rcases hown.2 with ⟨_, h2⟩ | ⟨g, cap, cur, h1, _⟩
          · rw [HN6.out] at h2; omega
          · rw [HN6.out] at h1
            exact ⟨g, cap, h1⟩
        obtain ⟨rfl, rfl⟩ : A6 = some ⟨g, 0, none⟩ ∧ c6 = cg := by injection hgv with a b c; exact ⟨a, c⟩
        clear hgv
        obtain ⟨A7, n7, c7, q0, q1, q2, q3, hn7, hu7, hfr⟩ := h2r.cellsAt (k := m) hm1
        have h78 := HT88.out _ (List.getElem_mem hm1)
        have hnx : outsT (acc ++ t2.take (m + 1)) = outsT (acc ++ t2.take m) ++ t2[m].out := by
          rw [List.take_succ_eq_append_getElem hm1, ← List.append_assoc, outsT_app]; simp [outsT]
        have hzl := gather_len (tt := tt) (a := acc ++ t2.take m) (b := t2.drop m ++ rr) (by rw [List.append_assoc, ← List.append_assoc (t2.take m), List.take_append_drop]; exact BREST.out) HTT8.out HTTL.out
        obtain ⟨t, ht⟩ : ∃ t, t2[m] = t := ⟨_, rfl⟩
        rw [ht] at q0 q1 q3 hn7 hu7 hnx h78
        obtain ⟨tp', tz, tu, te'⟩ := t
        simp only at q0 q1 q3 hn7 hu7 hnx h78
        obtain ⟨zs', hzs'⟩ : ∃ zs', outsT (acc ++ t2.take m) = zs' := ⟨_, rfl⟩
        rw [hzs'] at hi hnx hzl
        obtain ⟨A10, c10, rfl, -, -⟩ := hi.out.form
        obtain ⟨k10, hk10⟩ : ∃ k, zs'.length = k := ⟨_, rfl⟩
        have HK10 := Lib.hid hk10
        rw [hk10] at hi hvb hzl ⊢
        have hba : Below wr.heap.size wr (wr.alloc (.cells #[.int .i64 tp', .int .i64 tz, .slice A7 n7 c7, .int .i64 te'] 45)) := (Below.refl _ wr).alloc (Nat.le_refl _) _
        have HI9 := Lib.hid (hi.out.below hba (Nat.le_refl _))
        obtain ⟨p1, c1', e1, g1, g2, g3⟩ := hu7
        obtain ⟨rfl, rfl⟩ : A7 = p1 ∧ c7 = c1' := by injection e1 with a b c; exact ⟨a, c⟩
        have HR9 := Lib.hid (Rd.below (g3.rd (Nat.le_refl _)) hba (Nat.le_refl _))
        have HQ := Held.new wr #[.int .i64 tp', .int .i64 tz, .slice A7 n7 c7, .int .i64 te'] 45
        have x2' := HQ.cell 2
        have E7 := Lib.hid hn7
        have HNX := Lib.hid hnx
        have HGA := Lib.hid (grown_seq hg.out (grown_below (p := V) hba))
        have hsa := hba.size
        have hSb : S ≤ (wr.alloc (.cells #[.int .i64 tp', .int .i64 tz, .slice A7 n7 c7, .int .i64 te'] 45)).heap.size := by omega
        have hl9 : zs'.length + tu.length ≤ 17592186044416 := by omega
        have HL9 := Lib.hid hl9
        have HVO := Lib.hid hvb.out
        clear hi hg hba hn7 e1 g1 g2 g3 HQ ht hnx hk10 hmn h2r hfr h78 hzs' hvb hm1 hzl hl9
        go_wp2_with (at_builtin; refine wpList_appIo rfl _ _ rfl S (.slice A10 k10 c10) zs' rfl HI9.out A7 n7 c7 tu rfl E7.out _ HR9.out HL9.out hSb ?_)
        intro v9 w9 HI10 HG10 HV10
        have HGF : Hid (w8.grownBy w9 V) := by
          have h2 := HGA.out
          have hg6 := HG10.out
          refine ⟨hg6.os.trans h2.os, hg6.tape.trans h2.tape, hg6.output.trans h2.output, Nat.le_trans h2.size hg6.size, fun k hk hr => (hg6.block k (Nat.lt_of_lt_of_le hk h2.size) (fun e => ?_)).trans (h2.block k hk hr)⟩
          rcases HVO.out with h | ⟨b, h, hb⟩
          · exact hr (e.trans h)
          · rw [h] at e; injection e with e; omega
        have HVF : Hid (v9.ownBlock = V ∨ ∃ b, v9.ownBlock = some b ∧ w8.heap.size ≤ b) := by
          rcases HV10.out with h | h
          · show _ ∨ _
            rw [h]; exact HVO.out
          · exact .inr ⟨_, h, by omega⟩
        have HIF : Hid (IR w9 S v9 (outsT (acc ++ t2.take (m + 1)))) := by rw [HNX.out]; exact HI10
        clear HI9 HR9 HGA HI10 HG10 HV10 HVO
        go_wp2_with fail
        go_roundw
        case rel => exact ⟨m + 1, by omega, by go_num, HIF, HGF, HVF⟩
        case measure => simp [intOf]; omega
    have hJ' : J < L := by omega
    have hJ1 : J < te.length := by rw [← HLT.out]; exact hJ'
    have j3 : (0 : Int) ≤ J := by omega
    have j4 : (J : Int) < L := by omega
    obtain ⟨g, cg, hgv⟩ : ∃ g c', Value.slice A8 L c8 = .slice (some ⟨g, 0, none⟩) L c' := by
      obtain ⟨xs, hown, _⟩ := HTE.out
      rcases hown.2 with ⟨_, h2⟩ | ⟨g, cap, cur, h1, _⟩
      · omega
      · rw [← HLT.out] at h1
        exact ⟨g, cap, h1⟩
    obtain ⟨rfl, rfl⟩ : A8 = some ⟨g, 0, none⟩ ∧ c8 = cg := by injection hgv with a b c; exact ⟨a, c⟩
    clear hgv
    have hgb : w6.heap.size ≤ g ∧ g < w7.heap.size := by
      obtain ⟨xs, hown, _⟩ := HTE.out
      exact hown.lt g rfl
    have hbk : wr.heap[g]? = w7.heap[g]? := hbo.out.grown.block g hgb.2 (fun e => by injection e with e; omega)
    obtain ⟨A3, n3, c3, q0, q1, q2, q3, hn3, hu3, hfr⟩ := HTE.out.cellsAt (k := J) hJ1
    have hcg : ∀ o, wr.cell? ⟨g, o, none⟩ = w7.cell? ⟨g, o, none⟩ := fun o => by simp only [World.cell?, hbk]
    rw [← hcg] at q0 q1 q2 q3
    have h38 := HTE8.out _ (List.getElem_mem hJ1)
    have hnl := outsT_len_take hJ1
    have hmem := mem_takeS hJ1 (P := fun t => t.err = 0) hal.out
    have hat : ∀ i, i < n3 → U.getD ((outsT (te.take J)).length + i) 0 = te[J].out.getD i 0 ∧ (outsT (te.take J)).length + i < U.length := fun i hi => by
      have := outsT_at hJ1 (i := i) (by rw [← hn3]; exact hi)
      rwa [HU.out] at this
    obtain ⟨t, ht⟩ : ∃ t, te[J] = t := ⟨_, rfl⟩
    rw [ht] at q0 q1 q3 hn3 hu3 h38 hnl hmem hat
    obtain ⟨tp, tz, tu, tr⟩ := t
    simp only at q0 q1 q3 hn3 hu3 h38 hnl hmem hat
    rw [← hn3] at hnl h38
    obtain ⟨K, hK⟩ : ∃ K, (outsT (te.take J)).length = K := ⟨_, rfl⟩
    rw [hK] at hbo hnl hat
    have hb1 : Below wr.heap.size wr (wr.alloc (.cells #[.int .i64 tp, .int .i64 tz, .slice A3 n3 c3, .int .i64 tr] 45)) := (Below.refl _ wr).alloc (Nat.le_refl _) _
    have HBO1 := Lib.hid (hbo.out.below hb1)
    have HU3 := Lib.hid hu3
    have HN3 := Lib.hid hn3
    have HNL := Lib.hid hnl
    have HMEM := Lib.hid hmem
    have HATU := Lib.hid hat
    have HBE := Lib.hid (show ∀ o, Below w.heap.size w (wr.alloc o) from fun o => (below_grownP HB7.out hbo.out.grown (by omega) (by omega)).alloc (by omega) o)
    have HQ := Held.new wr #[.int .i64 tp, .int .i64 tz, .slice A3 n3 c3, .int .i64 tr] 45
    have x2 := HQ.cell 2
    have x3 := HQ.cell 3
    obtain ⟨A9, c9, rfl, -, -⟩ := hbo.out.row.form
    obtain ⟨k9, hk9⟩ : ∃ k, (outsT acc).length = k := ⟨_, rfl⟩
    rw [hk9] at HBO1 ⊢
    have hgw : g < wr.heap.size := by omega
    clear hJn hbo hal hbk hcg hn3 hu3 hfr hnl hmem hat ht hK hb1 HQ hk9 hJ1
    by_cases hd : tr = 0
    · have HALL := Lib.hid (HMEM.out hd)
      subst hd
      clear HMEM HBE
      obtain ⟨wo, rfl⟩ : ∃ wo : World, wo = wr := ⟨_, rfl⟩
      obtain ⟨wa, hwa⟩ : ∃ wa : World, wa = wo.alloc (.cells #[.int .i64 tp, .int .i64 tz, .slice A3 n3 c3, .int .i64 0] 45) := ⟨_, rfl⟩
      rw [← hwa] at HBO1
      have HWA := Lib.hid hwa
      clear hwa
      go_upto_region 16 with fail
      rw [← HWA.out]
      go_loopw [9, 58] (fun v i wx => ∃ (I : Nat) (q : List Int) (st : Int) (acc : List Tk), I ≤ n3 ∧ i = .int .i64 I ∧ Hid (Both w7 wx S p T1 rs U tt v (K + I) q st acc)) (fun _ i _ => n3 - (intOf i).toNat)
      case atStart => exact ⟨0, q, st, acc, by omega, rfl, HBO1⟩
      case round =>
        obtain ⟨I, q, st, acc, hI, rfl, hbo⟩ := hrel
        have hgr2 := hbo.out.grown.size
        by_cases hIn : I = n3
        · have hI' : ¬ I < n3 := by omega
          have HBN := Lib.hid (show Both w7 wr S p T1 rs U tt _ (outsT (te.take (J + 1))).length q st acc by rw [HNL.out, ← hIn]; exact hbo.out)
          clear hIn hbo
          go_wp2
          go_roundw
          case rel => exact ⟨J + 1, q, st, acc, by omega, by go_num, HBN, HALL⟩
          case measure => simp [intOf]; omega
        have hI' : I < n3 := by omega
        have i3 : (0 : Int) ≤ I := by omega
        have i4 : (I : Int) < n3 := by omega
        have hI1 : I < tu.length := by rw [← HN3.out]; exact hI'
        obtain ⟨p1, c1', e1, g1, g2, g3⟩ := HU3.out.past hbo.out.grown (fun b hb e => by have := hb.2; omega)
        obtain ⟨rfl, rfl⟩ : A3 = p1 ∧ c3 = c1' := by injection e1 with a b c; exact ⟨a, c⟩
        obtain ⟨b3, o3, rfl, -, hc3⟩ := rd_ints (g3.rd (Nat.le_refl _)) (by omega)
        have r3 := hc3 I hI1
        obtain ⟨hat1, hat2⟩ := HATU.out I hI'
        obtain ⟨u, hu⟩ : ∃ u, tu.getD I 0 = u := ⟨_, rfl⟩
        rw [hu] at r3 hat1
        obtain ⟨t2, rest, k, hd⟩ : ∃ t2 rest k, drain rs (((K + I : Nat) : Int) - q.length) (q ++ [u]) = (t2, rest, k) := ⟨_, _, _, rfl⟩
        have hdu := hd
        rw [← hat1] at hdu
        have hq7 := opens_lt HG.out hbo.out.ms.open_
        have hql := hbo.out.ms.len
        obtain ⟨hst0, hst1⟩ := hbo.out.ms.steps
        obtain ⟨hms2, ht8, hr7⟩ := hbo.out.ms.step HG.out hat2 hdu
        obtain ⟨hf2, hle2⟩ := all_step HG.out hat2 hdu hbo.out.rest
        obtain ⟨h28, -⟩ := HG.out.drain_small hd
        rw [show ((K + I : Nat) : Int) - q.length + q.length + 1 - rest.length = ((K + (I + 1) : Nat) : Int) - rest.length from by omega, Nat.add_assoc K I 1] at hf2
        have hTr : TrieOK wr B1 T1 rs := HT7.out.below (below_of hbo.out.grown hB1 (by omega)) (Nat.le_refl _)
        have E1 := Lib.hid (mput_any wr p T1 q _ st u hbo.out.mat hq7 B1 rs hTr hB1 (by omega) (by omega) (by omega) (by omega) t2 rest k hd)
        obtain ⟨rr, hrr⟩ : ∃ r, acc ++ (t2 ++ r) = tt := ⟨_, by rw [← List.append_assoc]; exact hf2⟩
        have BREST := Lib.hid hrr
        have HF2 := Lib.hid hf2
        have HMS2 := Lib.hid hms2
        have HT88 := Lib.hid h28
        obtain ⟨A9, c9, rfl, -, -⟩ := hbo.out.row.form
        obtain ⟨k9, hk9⟩ : ∃ k, (outsT acc).length = k := ⟨_, rfl⟩
        rw [hk9] at hbo ⊢
        have HROW := Lib.hid hbo.out.row
        have HGRA := Lib.hid hbo.out.grown
        clear hIn hbo e1 g1 g2 g3 hc3 hI1 hat1 hat2 hu hd hdu hms2 hf2 h28 hTr hrr hk9
        obtain ⟨wb, rfl⟩ : ∃ wb : World, wb = wr := ⟨_, rfl⟩
        go_wp2_with fail
        refine E1.out.mono ?_
        rintro e w8 ⟨v8, rfl, ho8, hm8, hg8⟩
        rw [show ((K + I : Nat) : Int) - q.length + q.length + 1 - rest.length = ((K + (I + 1) : Nat) : Int) - rest.length from by omega] at hm8
        obtain ⟨A6, c6, rfl, -⟩ := ho8.own.form
        obtain ⟨N6, hN6⟩ : ∃ N6, t2.length = N6 := ⟨_, rfl⟩
        rw [hN6] at ho8 ht8 ⊢
        have HN6 := Lib.hid hN6
        have HT8 := Lib.hid ho8
        have HM8 := Lib.hid hm8
        have hp8 := hm8.lt
        have hs8 := hg8.size
        have HI8 := Lib.hid (HROW.out.keptP hg8 hpS)
        have HG8 := Lib.hid (grown_seq HGRA.out hg8)
        obtain ⟨V, hV⟩ : ∃ V, (Value.slice A9 k9 c9).ownBlock = V := ⟨_, rfl⟩
        have HVE := Lib.hid hV
        have HVB := Lib.hid (show ∀ b, V = some b → b < wb.heap.size from fun b e => (HROW.out.lt (hV.trans e)).2)
        have HVS := Lib.hid (show ∀ b, V = some b → S ≤ b from fun b e => (HROW.out.lt (hV.trans e)).1)
        clear ho8 hm8 hg8 hN6 hV E1 HROW HGRA r3
        go_wp2
        go_loopw [9, 66] (fun a j wx => ∃ m : Nat, m ≤ N6 ∧ j = .int .i64 m ∧ Hid (IR wx S a (outsT (acc ++ t2.take m))) ∧ Hid (w8.grownBy wx V) ∧ Hid (a.ownBlock = V ∨ ∃ b, a.ownBlock = some b ∧ w8.heap.size ≤ b)) (fun _ j _ => N6 - (intOf j).toNat)
        case atStart => exact ⟨0, by omega, rfl, by rw [List.take_zero, List.append_nil]; exact HI8, Lib.hid (grownR _ _), Lib.hid (.inl HVE.out)⟩
        case round =>
          obtain ⟨m, hm, rfl, hi, hg, hvb⟩ := hrel
          have hgs := hg.out.size
          by_cases hmn : m = N6
          · have hm' : ¬ m < N6 := by omega
            have HIE := Lib.hid (show IR wr S _ (outsT (acc ++ t2)) by have h := hi.out; rw [List.take_of_length_le (by rw [HN6.out]; omega)] at h; exact h)
            clear hmn hi
            have HBN : Hid (Both w7 wr S p T1 rs U tt _ (K + (I + 1)) rest (st + k) (acc ++ t2)) := ⟨HIE.out, HMS2.out, HM8.out.of_block (hg.out.block p hp8 (fun e => by have := HVS.out p e.symm; omega)), HF2.out, grown_more HG8.out hg.out (fun b e => Nat.le_trans hsS (HVS.out b e))⟩
            clear hg hvb HIE
            go_wp2
            go_roundw
            case rel => exact ⟨I + 1, rest, st + k, acc ++ t2, by omega, by go_num, HBN⟩
            case measure => simp [intOf]; omega
          have hm' : m < N6 := by omega
          have hm1 : m < t2.length := by rw [HN6.out]; exact hm'
          have m3 : (0 : Int) ≤ m := by omega
          have m4 : (m : Int) < N6 := by omega
          have h2r := HT8.out.keptR hg.out HVB.out
          obtain ⟨g, cg, hgv⟩ : ∃ g c', Value.slice A6 N6 c6 = .slice (some ⟨g, 0, none⟩) N6 c' := by
            obtain ⟨xs, hown, _⟩ := HT8.out
            rcases hown.2 with ⟨_, h2⟩ | ⟨g, cap, cur, h1, _⟩
            · rw [HN6.out] at h2; omega
            · rw [HN6.out] at h1
              exact ⟨g, cap, h1⟩
          obtain ⟨rfl, rfl⟩ : A6 = some ⟨g, 0, none⟩ ∧ c6 = cg := by injection hgv with a b c; exact ⟨a, c⟩
          clear hgv
          obtain ⟨A7, n7, c7, q0, q1, q2, q3, hn7, hu7, hfr⟩ := h2r.cellsAt (k := m) hm1
          have h78 := HT88.out _ (List.getElem_mem hm1)
          have hnx : outsT (acc ++ t2.take (m + 1)) = outsT (acc ++ t2.take m) ++ t2[m].out := by
            rw [List.take_succ_eq_append_getElem hm1, ← List.append_assoc, outsT_app]; simp [outsT]
          have hzl := gather_len (tt := tt) (a := acc ++ t2.take m) (b := t2.drop m ++ rr) (by rw [List.append_assoc, ← List.append_assoc (t2.take m), List.take_append_drop]; exact BREST.out) HTT8.out HTTL.out
          obtain ⟨t, ht⟩ : ∃ t, t2[m] = t := ⟨_, rfl⟩
          rw [ht] at q0 q1 q3 hn7 hu7 hnx h78
          obtain ⟨tp', tz, tu, te'⟩ := t
          simp only at q0 q1 q3 hn7 hu7 hnx h78
          obtain ⟨zs', hzs'⟩ : ∃ zs', outsT (acc ++ t2.take m) = zs' := ⟨_, rfl⟩
          rw [hzs'] at hi hnx hzl
          obtain ⟨A10, c10, rfl, -, -⟩ := hi.out.form
          obtain ⟨k10, hk10⟩ : ∃ k, zs'.length = k := ⟨_, rfl⟩
          have HK10 := Lib.hid hk10
          rw [hk10] at hi hvb hzl ⊢
          have hba : Below wr.heap.size wr (wr.alloc (.cells #[.int .i64 tp', .int .i64 tz, .slice A7 n7 c7, .int .i64 te'] 45)) := (Below.refl _ wr).alloc (Nat.le_refl _) _
          have HI9 := Lib.hid (hi.out.below hba (Nat.le_refl _))
          obtain ⟨p1, c1', e1, g1, g2, g3⟩ := hu7
          obtain ⟨rfl, rfl⟩ : A7 = p1 ∧ c7 = c1' := by injection e1 with a b c; exact ⟨a, c⟩
          have HR9 := Lib.hid (Rd.below (g3.rd (Nat.le_refl _)) hba (Nat.le_refl _))
          have HQ := Held.new wr #[.int .i64 tp', .int .i64 tz, .slice A7 n7 c7, .int .i64 te'] 45
          have x2' := HQ.cell 2
          have E7 := Lib.hid hn7
          have HNX := Lib.hid hnx
          have HGA := Lib.hid (grown_seq hg.out (grown_below (p := V) hba))
          have hsa := hba.size
          have hSb : S ≤ (wr.alloc (.cells #[.int .i64 tp', .int .i64 tz, .slice A7 n7 c7, .int .i64 te'] 45)).heap.size := by omega
          have hl9 : zs'.length + tu.length ≤ 17592186044416 := by omega
          have HL9 := Lib.hid hl9
          have HVO := Lib.hid hvb.out
          clear hi hg hba hn7 e1 g1 g2 g3 HQ ht hnx hk10 hmn h2r hfr h78 hzs' hvb hm1 hzl hl9
          go_wp2_with (at_builtin; refine wpList_appIo rfl _ _ rfl S (.slice A10 k10 c10) zs' rfl HI9.out A7 n7 c7 tu rfl E7.out _ HR9.out HL9.out hSb ?_)
          intro v9 w9 HI10 HG10 HV10
          have HGF : Hid (w8.grownBy w9 V) := by
            have h2 := HGA.out
            have hg6 := HG10.out
            refine ⟨hg6.os.trans h2.os, hg6.tape.trans h2.tape, hg6.output.trans h2.output, Nat.le_trans h2.size hg6.size, fun k hk hr => (hg6.block k (Nat.lt_of_lt_of_le hk h2.size) (fun e => ?_)).trans (h2.block k hk hr)⟩
            rcases HVO.out with h | ⟨b, h, hb⟩
            · exact hr (e.trans h)
            · rw [h] at e; injection e with e; omega
          have HVF : Hid (v9.ownBlock = V ∨ ∃ b, v9.ownBlock = some b ∧ w8.heap.size ≤ b) := by
            rcases HV10.out with h | h
            · show _ ∨ _
              rw [h]; exact HVO.out
            · exact .inr ⟨_, h, by omega⟩
          have HIF : Hid (IR w9 S v9 (outsT (acc ++ t2.take (m + 1)))) := by rw [HNX.out]; exact HI10
          clear HI9 HR9 HGA HI10 HG10 HV10 HVO
          go_wp2_with fail
          go_roundw
          case rel => exact ⟨m + 1, by omega, by go_num, HIF, HGF, HVF⟩
          case measure => simp [intOf]; omega
    · have hne : (tr != 0) = true := by simpa using hd
      clear hd HMEM
      go_wp2_with fail
      go_ret
      exact ⟨rfl, HBE.out _⟩
end Go.Proofs.Ytikbmagolgcbfaa
