/- IsciiBack: the walk. -/
import Derived.Test.YtdkcadckbjncjaaDoorZ27
import Derived.Test.YtdkcadckbjncjaaDoorZ24
import Derived.Handy
namespace Go.Proofs.YtdkcadckbjncjaaDoor
set_option linter.unusedVariables false
set_option linter.unusedSimpArgs false
set_option linter.unnecessarySimpa false
open Go.RowKit
set_option maxRecDepth 100000 in
set_option maxHeartbeats 25600000 in
theorem isciiBack_any (I : IsApi) (A : Option Addr) (c : Nat) (zs : List Int) (w : World) (hI : I.OK w) (hz : Rd w w.heap.size A (zs.map (Value.int .u8))) (hzr : ∀ z ∈ zs, 0 ≤ z ∧ z ≤ 255) (hzc : zs.length ≤ c) (hzm : c ≤ maxLen) :
    Calls Tryd.prog 5 #[.slice A zs.length c] w fun e w' => e = .returned (.bool true) ∧ Below w.heap.size w w' := by
  obtain ⟨Z, hZ⟩ : ∃ Z, Z = zs.length := ⟨_, rfl⟩
  rw [← hZ] at hzc ⊢
  have HI := Lib.hid hI
  have HZ := Lib.hid hz
  have HZR := Lib.hid hzr
  have HZM := Lib.hid hzm
  have HZL := Lib.hid hZ
  have HSC := Lib.hid (scalarsI_sc zs hzr)
  clear hI hz hzr hzm hZ
  go_enter Tryd.func5, Tryd.ntmps5
  go_wp2_with fail
  refine (awake18_any I w HI.out).mono ?_
  rintro e w1 ⟨rfl, hb1⟩
  have HI1 := Lib.hid (I.keep HI.out hb1)
  have HB1 := Lib.hid hb1
  have hs1 := hb1.size
  clear hb1
  go_wp2_with fail
  refine (I.encode w1 HI1.out).mono ?_
  rintro e w2 ⟨pe, Fe, rfl, hE2, hfe1, hb2⟩
  have HI2 := Lib.hid (I.keep HI1.out hb2)
  have HE2 := Lib.hid hE2
  have HB2 := Lib.hid (HB1.out.trans (hb2.mono hs1))
  have hs2 := hb2.size
  clear hE2 hb2
  go_wp2_with fail
  refine (I.decode w2 HI2.out).mono ?_
  rintro e w3 ⟨pd, Fd, rfl, hD3, hfd1, hb3⟩
  have hs3 := hb3.size
  have HD3 := Lib.hid hD3
  have HE3 := Lib.hid (eBelow HE2.out hb3)
  have HB3 := Lib.hid (HB2.out.trans (hb3.mono (by omega)))
  clear hD3 hb3
  obtain ⟨ss, hss⟩ : ∃ ss, scalarsI zs = ss := ⟨_, rfl⟩
  have hsl : ss.length ≤ 60 := by rw [← hss]; exact scalarsI_len zs
  rw [hss] at HSC
  have HSS := Lib.hid hss
  clear hss
  go_wp2_with fail
  refine (scalars_any Z A c zs w.heap.size w3 HZL.out (HZ.out.below HB3.out (Nat.le_refl _)) HZR.out HB3.out.size hzc HZM.out ss HSS.out).mono ?_
  rintro e W0 ⟨v4, rfl, hi4, hb4⟩
  obtain ⟨Ax, cx, rfl, -, -⟩ := hi4.form
  have hs4 := hb4.size
  have hfe : ∀ b, Fe b → w1.heap.size ≤ b ∧ b < w2.heap.size := fun b hb => ⟨hfe1 b hb, (I.efoot HE2.out).2 b hb⟩
  have hfd : ∀ b, Fd b → w2.heap.size ≤ b ∧ b < w3.heap.size := fun b hb => ⟨hfd1 b hb, (I.dfoot HD3.out).2 b hb⟩
  have HE := Lib.hid (eBelow HE3.out hb4)
  have HD0 := Lib.hid (dBelow HD3.out hb4)
  have HBW := Lib.hid (HB3.out.trans (hb4.mono (by omega)))
  obtain ⟨S1, hS1⟩ : ∃ S, w1.heap.size = S := ⟨_, rfl⟩
  obtain ⟨S2, hS2⟩ : ∃ S, w2.heap.size = S := ⟨_, rfl⟩
  obtain ⟨S3, hS3⟩ : ∃ S, w3.heap.size = S := ⟨_, rfl⟩
  obtain ⟨R, hR⟩ : ∃ S, W0.heap.size = S := ⟨_, rfl⟩
  rw [hS1, hS2] at hfe
  rw [hS1, hS2] at hs2
  rw [hS1] at hs1
  rw [hS2, hS3] at hfd
  rw [hS2, hS3] at hs3
  rw [hS3] at hi4 hs4
  rw [hR] at hs4
  have HRX := Lib.hid (fun (W : World) (hm : Mid Fe W0 W) => hi4.atMid (fun b hb => by have := (hfe b hb).2; omega) hm)
  have HFE0 := Lib.hid (show ∀ b, Fe b → Fe b ∨ R ≤ b from fun b hb => .inl hb)
  have HFS := Lib.hid hfe
  have HTK0 := Lib.hid (show TkRow Fe R R W0 (.slice none 0 0) [] from ⟨Nat.le_refl _, by omega, fun b hb => by have := (hfe b hb).2; omega, OwnTkB.nil _ _⟩)
  have HFD := Lib.hid hfd
  have HW0 := Lib.hid hR
  have hwS : w.heap.size ≤ S1 := hs1
  have hSR : S2 ≤ R := by omega
  obtain ⟨M, hM⟩ : ∃ M, ss.length = M := ⟨_, rfl⟩
  rw [hM] at hsl ⊢
  have HM := Lib.hid hM
  clear hM hi4 hb4 HE2 HE3 HD3 HB1 HB2 HB3 HI1 HI2 hfe hfd hfe1 hfd1 hS1 hS2 hS3 hR
  go_wp2_with fail
  go_loopw [5, 30] (fun v i wr => ∃ (K : Nat) (q ah : List Int) (a sc : Int) (acc : List Tk) (G F : Nat → Prop) (base : Nat), K ≤ M ∧ i = .int .i64 K ∧ Hid (ES ss K q a ah sc acc) ∧ Hid (I.E G F wr pe q a ah sc) ∧ Hid (TkRow G R base wr v acc) ∧ Hid (NotIn F v) ∧ Hid (Mid Fe W0 wr) ∧ Hid (∀ b, F b → Fe b ∨ R ≤ b) ∧ acc.length ≤ 3 * K ∧ Hid (K = 0 → v = .slice none 0 0 ∧ acc = [])) (fun _ i _ => M - (intOf i).toNat)
  case atStart => exact ⟨0, [], [], 0, 0, [], Fe, Fe, R, by omega, rfl, Lib.hid (ES.start ss), HE, HTK0, Lib.hid (NotIn.nil _), Lib.hid (Mid.refl _ _), HFE0, by simp, Lib.hid (fun _ => ⟨rfl, rfl⟩)⟩
  case round =>
    clear HE HFE0 HTK0
    obtain ⟨K, q, ah, a, sc, acc, G, F, base, hK, rfl, hes, hE, htk, hnot, hmid, hff, hal, hnil⟩ := hrel
    have hrow := Lib.hid htk.out.row
    have hgf := Lib.hid (I.efoot hE.out).1
    have hbR := htk.out.le
    have hbW := htk.out.top
    have hwr := hmid.out.size
    rw [HW0.out] at hwr
    have hb := Lib.hid (HBW.out.trans (hmid.out.below (fun b hb => Nat.le_trans hwS (HFS.out b hb).1) (by rw [HW0.out]; omega)))
    by_cases hKn : K = M
    · have hK' : ¬ K < M := by omega
      obtain ⟨wa, rfl⟩ : ∃ wa : World, wa = wr := ⟨_, rfl⟩
      obtain ⟨ts, hts⟩ : ∃ ts, encF inR ah (rewA (turnR inR) a q) = ts := ⟨_, rfl⟩
      have hfin := hes.out.fin (by rw [HM.out]; omega) hts
      have hq1 := hes.out.one
      have hln := eEnd_len hts hq1
      obtain ⟨-, ha1, -, hah, ha0, hsc0, hsc1⟩ := hes.out
      have hI5 := I.keep HI.out hb.out
      have P1 := Lib.hid (I.eend ts hE.out hI5 hq1 hah ha0 (by omega) hsc0 hsc1 hts)
      have HLN := Lib.hid (show acc.length + ts.length ≤ 1048576 by omega)
      have HFIN := Lib.hid hfin
      have hvl := Lib.hid (fun b (e : _ = some b) => own_ltT hrow.out e)
      have hfr := Lib.hid (fun (e : q = [] ∧ a = 0) => hnil.out (by rw [e.1, e.2] at ha1; simp at ha1; omega))
      obtain ⟨A9, c9, rfl, -⟩ := hrow.out.form
      obtain ⟨k9, hk9⟩ : ∃ k, acc.length = k := ⟨_, rfl⟩
      have HK9 := Lib.hid hk9
      rw [hk9] at hnot hvl hal htk hfr ⊢
      clear hes hts hfin hI5 hE hk9 hKn hnil hrow
      go_wp2_with fail
      refine P1.out.mono ?_
      rintro e w8 ⟨v8, G', F', B8, rfl, ho8, hE8, hT8⟩
      obtain ⟨base', hbB, htk8⟩ := htk.out.told hT8 hfr.out
      have hm8 := hT8.mid
      obtain ⟨A8, c8, rfl, -⟩ := ho8.form
      obtain ⟨m8, hm8l⟩ : ∃ m, ts.length = m := ⟨_, rfl⟩
      rw [hm8l] at ho8 hln ⊢
      have HM8 := Lib.hid hm8l.symm
      have HO8 := Lib.hid ho8
      have HROW8 := Lib.hid htk8.row
      have hbR' := htk8.le
      have hbW' := htk8.top
      have HT8 := Lib.hid hT8
      have hB8 := hT8.base
      have HMID8 := Lib.hid (hmid.out.then hm8 (fun b hb => by rw [HW0.out]; exact hff.out b (hgf.out b hb)))
      have hs8 : R ≤ w8.heap.size := Nat.le_trans hwr hm8.size
      have HE8 := Lib.hid hE8
      have HFF8 := Lib.hid (show ∀ b, F' b → Fe b ∨ R ≤ b from fun b hb => by
        rcases hT8.news b hb with h | h
        · exact hff.out b h
        · right; omega)
      clear htk hmid hE8 hm8 P1 hm8l ho8 hT8 hff hb htk8 hfr hgf
      go_wp2_with (at_builtin; refine wpList_appTk rfl _ _ rfl base' (.slice A9 k9 c9) acc rfl HROW8.out A8 m8 c8 B8 ts rfl HM8.out HO8.out hbB (fun b e => Nat.lt_of_lt_of_le (hvl.out b e).2 hB8) HLN.out hbW' ?_)
      intro v9 w9 HO9 HG9 HV9
      obtain ⟨hE9, hN9⟩ := etold HE8.out hnot.out HT8.out (fun b e => (hvl.out b e).2) HG9.out HV9.out
      have HE9 := Lib.hid hE9
      have HMID9 := Lib.hid (HMID8.out.grown HG9.out (fun b e => by rw [HW0.out]; have := (hvl.out b e).1; omega))
      have hs9 : R ≤ w9.heap.size := Nat.le_trans hs8 HG9.out.size
      clear hE9 hN9 HG9 HV9 HE8 HROW8 HO8 HMID8 hnot HT8 hvl
      obtain ⟨te, hte⟩ : ∃ te, acc ++ ts = te := ⟨_, rfl⟩
      have hsm : ∀ t ∈ te, t.out.length ≤ 8 := by
        have h := lawE_small ss 0 [] 0
        rw [← HFIN.out, hte] at h
        exact h
      have htl : te.length ≤ 200 := by rw [← hte, List.length_append]; have := HK9.out; have := HM8.out; omega
      have HLAW := Lib.hid (show (te, sc) = lawE 0 [] 0 ss by rw [← hte]; exact HFIN.out)
      rw [hte] at HO9
      obtain ⟨U, hU⟩ : ∃ U, outsT te = U := ⟨_, rfl⟩
      have hull : U.length ≤ 1600 := by rw [← hU]; have := outsT_len te hsm; omega
      obtain ⟨A10, c10, rfl, -⟩ := HO9.out.form
      obtain ⟨N, hN⟩ : ∃ N, te.length = N := ⟨_, rfl⟩
      rw [hN] at HO9 htl ⊢
      have HN := Lib.hid hN
      have HSM := Lib.hid hsm
      have HU := Lib.hid hU
      have HB9 := Lib.hid (HBW.out.trans (HMID9.out.below (fun b hb => Nat.le_trans hwS (HFS.out b hb).1) (by rw [HW0.out]; omega)))
      have HD9 := Lib.hid (dMid HD0.out HMID9.out (fun b hb e => by have h1 := (HFD.out b hb).1; have h2 := (HFS.out b e).2; omega))
      obtain ⟨wb, rfl⟩ : ∃ wb : World, wb = w9 := ⟨_, rfl⟩
      obtain ⟨Sb, hSb⟩ : ∃ S, wb.heap.size = S := ⟨_, rfl⟩
      rw [hSb] at hs9
      have HSB := Lib.hid hSb
      have h3R : S3 ≤ R := hs4
      have HMB := Lib.hid (Mid.refl Fd wb)
      have HDS0 : Hid (DS U (outsT (te.take 0)).length [] 0 0 []) := DS.start U
      clear hN hsm hU hte hSb HMID9 HFIN HLN HK9 HM8 hal hln
      go_wp2_with fail
      go_loopw [8, 45] (fun v j wr => ∃ (J : Nat) (q : List Int) (a sc1 : Int) (acc1 : List Tk) (G F : Nat → Prop), J ≤ N ∧ j = .int .i64 J ∧ Hid (DS U (outsT (te.take J)).length q a sc1 acc1) ∧ Hid (I.D G F wr pd q a sc1) ∧ Hid (∀ b, G b → Fd b ∨ Sb ≤ b) ∧ Hid (IR wr Sb v (outsT acc1)) ∧ Hid (NotIn F v) ∧ Hid (Mid Fd wb wr) ∧ Hid (∀ t ∈ te.take J, t.err = 0) ∧ Hid ((outsT acc1).length ≤ 16 * (outsT (te.take J)).length)) (fun _ j _ => N - (intOf j).toNat)
      case atStart => exact ⟨0, [], 0, 0, [], Fd, Fd, by omega, rfl, HDS0, HD9, Lib.hid (fun b hb => .inl hb), Lib.hid (IR.nil _ _), Lib.hid (NotIn.nil _), HMB, Lib.hid (by simp), Lib.hid (by simp [outsT])⟩
      case round =>
        clear HDS0 HD9 HMB
        obtain ⟨J, q, a, sc1, acc1, G, F, hJ, rfl, hds, hD, hgg, hout, hnot, hmid, hall, hol⟩ := hrel
        have hgf := Lib.hid (I.dfoot hD.out).1
        obtain ⟨wo, rfl⟩ : ∃ wo : World, wo = wr := ⟨_, rfl⟩
        have hwr := hmid.out.size
        rw [HSB.out] at hwr
        have hb := Lib.hid (HB9.out.trans (hmid.out.below (fun b hb => by have := HFD.out b hb; omega) (by rw [HSB.out]; omega)))
        by_cases hJn : J = N
        · have hJ' : ¬ J < N := by omega
          have htk : te.take J = te := List.take_of_length_le (by rw [HN.out]; omega)
          rw [htk, HU.out] at hds hol
          rw [htk] at hall
          obtain ⟨t2, ht2⟩ : ∃ ts, rewA inR a q = ts := ⟨_, rfl⟩
          obtain ⟨ms, sc', hm⟩ : ∃ ms sc', meanT sc1 t2 = (ms, sc') := ⟨_, _, rfl⟩
          have hfin := hds.out.fin (Nat.le_refl _) ht2 hm
          have hq1 := hds.out.one
          obtain ⟨hsm, hml⟩ := rew_smallI ht2 hm
          obtain ⟨-, ha1, -, ha0, hsc0, hsc1⟩ := hds.out
          have hI5 := I.keep HI.out hb.out
          have P3 := Lib.hid (I.dend t2 ms sc' hD.out hI5 hq1 ha0 (by omega) hsc0 hsc1 ht2 hm)
          have HFIN2 := Lib.hid hfin
          have HALL := Lib.hid hall.out
          obtain ⟨A9, c9, rfl, -, -⟩ := hout.out.form
          obtain ⟨zs0, hzs0⟩ : ∃ z, outsT acc1 = z := ⟨_, rfl⟩
          have HZ0 := Lib.hid hzs0
          rw [hzs0] at hout hol hnot ⊢
          obtain ⟨k9, hk9⟩ : ∃ k, zs0.length = k := ⟨_, rfl⟩
          have HZLL := Lib.hid (show zs0.length ≤ 40000 by have := hol.out; omega)
          rw [hk9] at hout hnot ⊢
          clear hds ht2 hm hfin hI5 hD hzs0 hk9 hall hol htk hJn hb
          go_wp2_with fail
          refine P3.out.mono ?_
          rintro e w8 ⟨v8, G', F', B8, rfl, ho8, hD8, hT8⟩
          have hm8 := hT8.mid
          have hB8 := hT8.base
          obtain ⟨A8, c8, rfl, -⟩ := ho8.form
          obtain ⟨m8, hm8l⟩ : ∃ m, ms.length = m := ⟨_, rfl⟩
          rw [hm8l] at ho8 hml ⊢
          have HM8 := Lib.hid hm8l.symm
          have HSM8 := Lib.hid hsm
          have HO8 := Lib.hid ho8
          have hs8 : Sb ≤ w8.heap.size := Nat.le_trans hwr hm8.size
          have HMID8 := Lib.hid (hmid.out.then hm8 (fun b hb => by rw [HSB.out]; exact hgg.out b hb))
          have HI8 := hout.out.toldN hT8 hgf.out hnot.out
          obtain ⟨V, hV⟩ : ∃ V, (Value.slice A9 k9 c9).ownBlock = V := ⟨_, rfl⟩
          have hvl := Lib.hid (show ∀ b, V = some b → Sb ≤ b ∧ b < wo.heap.size from fun b e => hout.out.lt (hV.trans e))
          have HC0 : Hid (Coll Sb w8 w8 V (.slice A9 k9 c9) (zs0 ++ outsT (ms.take 0))) := by
            show Coll _ _ _ _ _ _
            rw [← hV, show zs0 ++ outsT (ms.take 0) = zs0 by simp [outsT]]
            exact Coll.start HI8
          have HVR := Lib.hid (show ∀ b, V = some b → b < wo.heap.size from fun b e => (hvl.out b e).2)
          have HVB := Lib.hid (show ∀ b, V = some b → b < B8 from fun b e => Nat.lt_of_lt_of_le (hvl.out b e).2 hB8)
          have HD8 := Lib.hid hD8
          have HVF := Lib.hid (show ∀ b, V = some b → ¬ F' b from fun b e => hnot.out.put hT8.news (fun b e => (hvl.out b (hV.symm.trans e)).2) b (hV.trans e))
          have HVS := Lib.hid (show ∀ b, V = some b → Sb ≤ b from fun b e => (hvl.out b e).1)
          clear hm8l ho8 hsm hout hm8 hnot hT8 hD8 P3 HI8 hV hvl hmid hgg hgf
          go_wp2_with fail
          go_loopw [8, 77] (fun v j wx => ∃ m : Nat, m ≤ m8 ∧ j = .int .i64 m ∧ Hid (Coll Sb w8 wx V v (zs0 ++ outsT (ms.take m)))) (fun _ j _ => m8 - (intOf j).toNat)
          case atStart => exact ⟨0, by omega, rfl, HC0⟩
          case round =>
            clear HC0
            obtain ⟨m, hm, rfl, hco⟩ := hrel
            by_cases hmn : m = m8
            · have hm' : ¬ m < m8 := by omega
              have hco2 := hco.out
              rw [List.take_of_length_le (by have := HM8.out; omega)] at hco2
              have HCO := Lib.hid hco2
              obtain ⟨A12, c12, rfl, -, -⟩ := hco2.row.form
              obtain ⟨wC, rfl⟩ : ∃ wC : World, wC = wr := ⟨_, rfl⟩
              obtain ⟨zs2, hzs2⟩ : ∃ z, zs0 ++ outsT ms = z := ⟨_, rfl⟩
              rw [hzs2] at HCO ⊢
              have HZ2 := Lib.hid hzs2
              obtain ⟨k12, hk12⟩ : ∃ k, zs2.length = k := ⟨_, rfl⟩
              rw [hk12] at HCO ⊢
              have HK12 := Lib.hid hk12
              clear hmn hco hco2 hzs2 hk12
              have HDC := Lib.hid (dGrown HD8.out HCO.out.grown HVF.out)
              have HMC := Lib.hid (HMID8.out.grown HCO.out.grown (fun b e => by rw [HSB.out]; exact HVS.out b e))
              have HEC := Lib.hid (eMid HE9.out HMC.out (fun b hb e => by have h1 := HFD.out b e; rcases HFF8.out b hb with h | h; have := HFS.out b h; omega; omega))
              have HBC := Lib.hid (HB9.out.trans (HMC.out.below (fun b hb => by have := HFD.out b hb; omega) (by rw [HSB.out]; omega)))
              have hfin2 : zs2 = ss ∧ sc' = sc := by
                have hb := isc_back (ss := ss) HSC.out (fun t ht => HALL.out t (by rw [← HLAW.out] at ht; exact ht))
                rw [← HLAW.out] at hb
                simp only at hb
                rw [HU.out, HFIN2.out] at hb
                simp only at hb
                rw [outsT_app, HZ0.out, HZ2.out] at hb
                exact hb
              obtain ⟨rfl, hsc'⟩ := hfin2
              subst hsc'
              have hk := HK12.out
              rw [HM.out] at hk
              obtain rfl : M = k12 := hk
              have HROWC := Lib.hid HCO.out.row
              have hsC := HMC.out.size
              rw [HSB.out] at hsC
              clear HCO HD8 HO8 HSM8 HVR HVB HVF HVS HZLL HZ0 HZ2 HK12 HMID8 HFIN2 HMC HALL
              go_wp2_with fail
              refine (scalars_any Z A c zs w.heap.size wC HZL.out (HZ.out.below HBC.out (Nat.le_refl _)) HZR.out HBC.out.size hzc HZM.out zs2 HSS.out).mono ?_
              rintro e w13 ⟨v13, rfl, hi13, hb13⟩
              obtain ⟨A13, c13, rfl, -, -⟩ := hi13.form
              rw [HM.out]
              have U1 := Lib.hid (units_any M M A12 A13 c12 c13 zs2 zs2 w13 rfl HM.out.symm HM.out.symm ((HROWC.out.below hb13 (Nat.le_refl _)).rd) hi13.rd (by rw [HM.out]; omega))
              have HD13 := Lib.hid (dBelow HDC.out hb13)
              have HE13 := Lib.hid (eBelow HEC.out hb13)
              have HB13 := Lib.hid (HBC.out.trans (hb13.mono HBC.out.size))
              clear hi13 hb13 HROWC HDC HEC HBC
              go_wp2_with fail
              refine U1.out.mono ?_
              rintro e w14 ⟨rfl, hb14⟩
              have HD14 := Lib.hid (dBelow HD13.out hb14)
              have HE14 := Lib.hid (eBelow HE13.out hb14)
              have HB14 := Lib.hid (HB13.out.trans (hb14.mono HB13.out.size))
              clear hb14 U1 HD13 HE13 HB13
              go_wp2_with fail
              refine (I.dscript HD14.out).mono ?_
              rintro e w15 ⟨rfl, hb15⟩
              have HE15 := Lib.hid (eBelow HE14.out hb15)
              have HB15 := Lib.hid (HB14.out.trans (hb15.mono HB14.out.size))
              clear hb15 HD14 HE14 HB14
              go_wp2_with fail
              refine (I.escript HE15.out).mono ?_
              rintro e w16 ⟨rfl, hb16⟩
              have HB16 := Lib.hid (HB15.out.trans (hb16.mono HB15.out.size))
              have dz : (sc' == sc') = true := by simp
              clear hb16 HE15 HB15
              go_wp2_with fail
              go_ret
              exact ⟨ret_bool (by simp), HB16.out⟩
            have hm' : m < m8 := by omega
            have hm1 : m < ms.length := by rw [← HM8.out]; exact hm'
            have m3 : (0 : Int) ≤ m := by omega
            have m4 : (m : Int) < m8 := by omega
            have h2r := hco.out.tks HO8.out HVB.out
            obtain ⟨g, cg, hgv⟩ : ∃ g c', Value.slice A8 m8 c8 = .slice (some ⟨g, 0, none⟩) m8 c' := by
              obtain ⟨xs, hown, _⟩ := HO8.out
              rcases hown.2 with ⟨_, h2⟩ | ⟨g, cap, cur, h1, _⟩
              · omega
              · rw [← HM8.out] at h1
                exact ⟨g, cap, h1⟩
            obtain ⟨rfl, rfl⟩ : A8 = some ⟨g, 0, none⟩ ∧ c8 = cg := by injection hgv with a b c; exact ⟨a, c⟩
            clear hgv
            obtain ⟨A7, n7, c7, q0, q1, q2, q3, hn7, hu7, -⟩ := h2r.cellsAt (k := m) hm1
            have h78 := HSM8.out _ (List.getElem_mem hm1)
            have hnx : zs0 ++ outsT (ms.take (m + 1)) = (zs0 ++ outsT (ms.take m)) ++ ms[m].out := by rw [outsT_take hm1, List.append_assoc]
            have hzl : (zs0 ++ outsT (ms.take m)).length ≤ 100000 := by
              have h1 := outsT_len (ms.take m) fun t ht => HSM8.out t (List.mem_of_mem_take ht)
              have h2 := HZLL.out
              rw [List.length_take] at h1
              rw [List.length_append]
              omega
            obtain ⟨t, ht⟩ : ∃ t, ms[m] = t := ⟨_, rfl⟩
            rw [ht] at q0 q1 q3 hn7 hu7 hnx h78
            obtain ⟨tp', tz, tu, te'⟩ := t
            simp only at q0 q1 q3 hn7 hu7 hnx h78
            obtain ⟨zs', hzs'⟩ : ∃ zs', zs0 ++ outsT (ms.take m) = zs' := ⟨_, rfl⟩
            rw [hzs'] at hco hnx hzl
            have hi := hco.out.row
            obtain ⟨A10, c10, rfl, -, -⟩ := hi.form
            obtain ⟨k10, hk10⟩ : ∃ k, zs'.length = k := ⟨_, rfl⟩
            rw [hk10] at hi hco ⊢
            have hba : Below wr.heap.size wr (wr.alloc (.cells #[.int .i64 tp', .int .i64 tz, .slice A7 n7 c7, .int .i64 te'] 44)) := (Below.refl _ wr).alloc (Nat.le_refl _) _
            have HI9 := Lib.hid (hi.below hba (Nat.le_refl _))
            obtain ⟨p1, c1', e1, g1, g2, g3⟩ := hu7
            obtain ⟨rfl, rfl⟩ : A7 = p1 ∧ c7 = c1' := by injection e1 with a b c; exact ⟨a, c⟩
            have HR9 := Lib.hid (Rd.below (g3.rd (Nat.le_refl _)) hba (Nat.le_refl _))
            have HQ := Held.new wr #[.int .i64 tp', .int .i64 tz, .slice A7 n7 c7, .int .i64 te'] 44
            have x2' := HQ.cell 2
            have E7 := Lib.hid hn7
            have HNX := Lib.hid hnx
            have hgs := hco.out.grown.size
            have hSb : Sb ≤ (wr.alloc (.cells #[.int .i64 tp', .int .i64 tz, .slice A7 n7 c7, .int .i64 te'] 44)).heap.size := by have := hba.size; omega
            have hl9 : zs'.length + tu.length ≤ 17592186044416 := by omega
            have HL9 := Lib.hid hl9
            have HCO := Lib.hid hco.out
            have HBA := Lib.hid hba
            clear hi hba hn7 e1 g1 g2 g3 HQ ht hnx hmn h2r h78 hzs' hm1 hzl hl9 hco hk10 
            go_wp2_with (at_builtin; refine wpList_appIo rfl _ _ rfl Sb (.slice A10 k10 c10) zs' rfl HI9.out A7 n7 c7 tu rfl E7.out _ HR9.out HL9.out hSb ?_)
            intro v9 w9 HI10 HG10 HV10
            have HC9 : Hid (Coll Sb w8 w9 V v9 (zs0 ++ outsT (ms.take (m + 1)))) := by rw [HNX.out]; exact HCO.out.step HBA.out HI10.out HG10.out (by have := HV10.out; simpa using this)
            clear HI9 HR9 HI10 HG10 HV10 HCO HBA
            go_wp2_with fail
            go_roundw
            case rel => exact ⟨m + 1, by omega, by go_num, HC9⟩
            case measure => simp [intOf]; omega
        have hJ' : J < N := by omega
        have hJ1 : J < te.length := by rw [HN.out]; exact hJ'
        have j3 : (0 : Int) ≤ J := by omega
        have j4 : (J : Int) < N := by omega
        obtain ⟨g, cg, hgv⟩ : ∃ g c', Value.slice A10 N c10 = .slice (some ⟨g, 0, none⟩) N c' := by
          obtain ⟨xs, hown, _⟩ := HO9.out
          rcases hown.2 with ⟨_, h2⟩ | ⟨g, cap, cur, h1, _⟩
          · omega
          · rw [HN.out] at h1
            exact ⟨g, cap, h1⟩
        obtain ⟨rfl, rfl⟩ : A10 = some ⟨g, 0, none⟩ ∧ c10 = cg := by injection hgv with a b c; exact ⟨a, c⟩
        clear hgv
        have hgl := own_ltT HO9.out (b := g) rfl
        have hbk : wo.heap[g]? = wb.heap[g]? := hmid.out.block g hgl.2 (fun e => by have := HFD.out g e; omega)
        have hcg : ∀ o, wo.cell? ⟨g, o, none⟩ = wb.cell? ⟨g, o, none⟩ := fun o => by simp only [World.cell?, hbk]
        obtain ⟨A3, n3, c3, q0, q1, q2, q3, hn3, hu3, -⟩ := HO9.out.cellsAt (k := J) hJ1
        rw [← hcg] at q0 q1 q2 q3
        have h38 := HSM.out _ (List.getElem_mem hJ1)
        have hnl := outsT_len_take hJ1
        have hmem := mem_takeS hJ1 (P := fun t => t.err = 0) hall.out
        have hat : ∀ i, i < n3 → U.getD ((outsT (te.take J)).length + i) 0 = te[J].out.getD i 0 ∧ (outsT (te.take J)).length + i < U.length := fun i hi => by
          have := outsT_at hJ1 (i := i) (by rw [← hn3]; exact hi)
          rwa [HU.out] at this
        obtain ⟨t, ht⟩ : ∃ t, te[J] = t := ⟨_, rfl⟩
        rw [ht] at q0 q1 q3 hn3 hu3 h38 hnl hmem hat
        obtain ⟨tp, tz, tu, tr⟩ := t
        simp only at q0 q1 q3 hn3 hu3 h38 hnl hmem hat
        rw [← hn3] at hnl h38
        obtain ⟨K0, hK0⟩ : ∃ K, (outsT (te.take J)).length = K := ⟨_, rfl⟩
        rw [hK0] at hds hnl hat hol
        have HU3 := Lib.hid hu3
        have HN3 := Lib.hid hn3
        have HNL := Lib.hid hnl
        have HMEM := Lib.hid hmem
        have HATU := Lib.hid hat
        have hba := below_allocI wo (.cells #[.int .i64 tp, .int .i64 tz, .slice A3 n3 c3, .int .i64 tr] 44)
        have HQ := Held.new wo #[.int .i64 tp, .int .i64 tz, .slice A3 n3 c3, .int .i64 tr] 44
        have x2 := HQ.cell 2
        have x3 := HQ.cell 3
        have HDA := Lib.hid (dBelow hD.out hba)
        have HMA := Lib.hid (hmid.out.trans (Mid.of hba))
        have HOA := Lib.hid (hout.out.below hba (Nat.le_refl _))
        have HNA := hnot
        have HGA := hgg
        have HBA := Lib.hid (hb.out.trans (hba.mono hb.out.size))
        have HDS0 : Hid (DS U (K0 + 0) q a sc1 acc1) := hds
        have HOL := hol
        clear hds hD hout hnot hmid hall hgg hgf hb hbk hcg hu3 hn3 hnl hmem hat ht hba HQ hJn hJ1 hK0 hol
        by_cases hd : tr = 0
        · have HALL := Lib.hid (HMEM.out hd)
          subst hd
          clear HMEM HBA
          go_wp2_with fail
          go_loopw [8, 55] (fun v i wr => ∃ (i1 : Nat) (q : List Int) (a sc1 : Int) (acc1 : List Tk) (G F : Nat → Prop), i1 ≤ n3 ∧ i = .int .i64 i1 ∧ Hid (DS U (K0 + i1) q a sc1 acc1) ∧ Hid (I.D G F wr pd q a sc1) ∧ Hid (∀ b, G b → Fd b ∨ Sb ≤ b) ∧ Hid (IR wr Sb v (outsT acc1)) ∧ Hid (NotIn F v) ∧ Hid (Mid Fd wb wr) ∧ (outsT acc1).length ≤ 16 * (K0 + i1)) (fun _ i _ => n3 - (intOf i).toNat)
          case atStart => exact ⟨0, q, a, sc1, acc1, G, F, by omega, rfl, HDS0, HDA, HGA, HOA, HNA, HMA, HOL.out⟩
          case round =>
            clear HDS0 HDA HOA HNA HMA HOL HGA acc1
            obtain ⟨i1, q, a, sc1, acc1, G, F, hi1, rfl, hds, hD, hgg, hout, hnot, hmid, hol⟩ := hrel
            have hgf := Lib.hid (I.dfoot hD.out).1
            obtain ⟨wi, rfl⟩ : ∃ wi : World, wi = wr := ⟨_, rfl⟩
            have hwi := hmid.out.size
            rw [HSB.out] at hwi
            by_cases hin : i1 = n3
            · have hin' : ¬ i1 < n3 := by omega
              have hds2 : Hid (DS U (outsT (te.take (J + 1))).length q a sc1 acc1) := by
                rw [HNL.out, ← hin]; exact hds
              have hol2 : Hid ((outsT acc1).length ≤ 16 * (outsT (te.take (J + 1))).length) := by
                show _ ≤ _
                rw [HNL.out, ← hin]; exact hol
              clear hds hol hin
              go_wp2_with fail
              go_roundw
              case rel => exact ⟨J + 1, q, a, sc1, acc1, G, F, by omega, by go_num, hds2, hD, hgg, hout, hnot, hmid, HALL, hol2⟩
              case measure => simp [intOf]; omega
            have hin' : i1 < n3 := by omega
            have i3 : (0 : Int) ≤ i1 := by omega
            have i4 : (i1 : Int) < n3 := by omega
            have hb := Lib.hid (HB9.out.trans (hmid.out.below (fun b hb => by have := HFD.out b hb; omega) (by rw [HSB.out]; omega)))
            obtain ⟨p1, c1', e1, g1, g2, g3⟩ := HU3.out.mid hmid.out (fun b hb e => by have h1 := HFD.out b e; have := hb.2; omega)
            obtain ⟨rfl, rfl⟩ : A3 = p1 ∧ c3 = c1' := by injection e1 with a b c; exact ⟨a, c⟩
            obtain ⟨b3, o3, hA3, -, hc3⟩ := rd_ints (g3.rd (Nat.le_refl wi.heap.size)) (by have := HN3.out; omega)
            subst hA3
            have r3 := hc3 i1 (by have := HN3.out; omega)
            obtain ⟨ha1', ha2'⟩ := HATU.out i1 hin'
            rw [← ha1'] at r3
            obtain ⟨u, hu⟩ : ∃ u, U.getD (K0 + i1) 0 = u := ⟨_, rfl⟩
            obtain ⟨ts, rest, k, hd⟩ : ∃ ts rest k, drain inR a (q ++ [U.getD (K0 + i1) 0]) = (ts, rest, k) := ⟨_, _, _, rfl⟩
            obtain ⟨ms, sc', hm⟩ : ∃ ms sc', meanT sc1 ts = (ms, sc') := ⟨_, _, rfl⟩
            have hds2 := hds.out.step ha2' hd hm
            have hq1 := hds.out.one
            have hsm := drain_smallI hd hm
            have hml : ms.length ≤ 2 := by
              have h1 := meanT_len ts sc1
              rw [hm] at h1
              simp only at h1
              have h2 := (inR_good.drained (q ++ [U.getD (K0 + i1) 0]) a).count
              rw [hd, List.length_append, List.length_singleton] at h2
              simp only at h2
              omega
            obtain ⟨-, ha1, -, ha0, hsc0, hsc1⟩ := hds.out
            have HDS2 := Lib.hid (show DS U (K0 + (i1 + 1)) rest (a + q.length + 1 - rest.length) sc' (acc1 ++ ms) from hds2)
            rw [hu] at r3 hd
            have hI5 := I.keep HI.out hb.out
            have P1 := Lib.hid (I.dput u ts rest k ms sc' hD.out hI5 hq1 ha0 (by omega) hsc0 hsc1 hd hm)
            obtain ⟨A9, c9, rfl, -, -⟩ := hout.out.form
            obtain ⟨zs0, hzs0⟩ : ∃ z, outsT acc1 = z := ⟨_, rfl⟩
            have HZ0 := Lib.hid hzs0
            rw [hzs0] at hout hol hnot ⊢
            obtain ⟨k9, hk9⟩ : ∃ k, zs0.length = k := ⟨_, rfl⟩
            have HZLL := Lib.hid (show zs0.length ≤ 40000 by omega)
            rw [hk9] at hout hnot hol ⊢
            have HK9b := Lib.hid hk9
            clear hds hds2 hu hd hm hI5 hD hc3 hin hzs0 hk9 e1 g1 g2 g3 ha1' hb
            go_wp2_with fail
            refine P1.out.mono ?_
            rintro e w8 ⟨v8, G', F', B8, rfl, ho8, hD8, hT8⟩
            have hm8 := hT8.mid
            have hB8 := hT8.base
            have HGG8 := Lib.hid (show ∀ b, G' b → Fd b ∨ Sb ≤ b from fun b hb => by
              rcases hT8.gnew b hb with h | h
              · exact hgg.out b h
              · exact .inr (Nat.le_trans hwi h))
            obtain ⟨A8, c8, rfl, -⟩ := ho8.form
            obtain ⟨m8, hm8l⟩ : ∃ m, ms.length = m := ⟨_, rfl⟩
            rw [hm8l] at ho8 hml ⊢
            have HM8 := Lib.hid hm8l.symm
            have HSM8 := Lib.hid hsm
            have HO8 := Lib.hid ho8
            have hs8 : Sb ≤ w8.heap.size := Nat.le_trans hwi hm8.size
            have HMID8 := Lib.hid (hmid.out.then hm8 (fun b hb => by rw [HSB.out]; exact hgg.out b hb))
            have HI8 := hout.out.toldN hT8 hgf.out hnot.out
            obtain ⟨V, hV⟩ : ∃ V, (Value.slice A9 k9 c9).ownBlock = V := ⟨_, rfl⟩
            have hvl := Lib.hid (show ∀ b, V = some b → Sb ≤ b ∧ b < wi.heap.size from fun b e => hout.out.lt (hV.trans e))
            have HC0 : Hid (Coll Sb w8 w8 V (.slice A9 k9 c9) (zs0 ++ outsT (ms.take 0))) := by
              show Coll _ _ _ _ _ _
              rw [← hV, show zs0 ++ outsT (ms.take 0) = zs0 by simp [outsT]]
              exact Coll.start HI8
            have HVR := Lib.hid (show ∀ b, V = some b → b < wi.heap.size from fun b e => (hvl.out b e).2)
            have HVB := Lib.hid (show ∀ b, V = some b → b < B8 from fun b e => Nat.lt_of_lt_of_le (hvl.out b e).2 hB8)
            have HD8 := Lib.hid hD8
            have HVF := Lib.hid (show ∀ b, V = some b → ¬ F' b from fun b e => hnot.out.put hT8.news (fun b e => (hvl.out b (hV.symm.trans e)).2) b (hV.trans e))
            have HVS := Lib.hid (show ∀ b, V = some b → Sb ≤ b from fun b e => (hvl.out b e).1)
            clear hm8l ho8 hsm hout hm8 hnot hT8 hD8 P1 HI8 hV hvl hmid hgg hgf
            go_wp2_with fail
            go_loopw [8, 63] (fun v j wx => ∃ m : Nat, m ≤ m8 ∧ j = .int .i64 m ∧ Hid (Coll Sb w8 wx V v (zs0 ++ outsT (ms.take m)))) (fun _ j _ => m8 - (intOf j).toNat)
            case atStart => exact ⟨0, by omega, rfl, HC0⟩
            case round =>
              clear HC0
              obtain ⟨m, hm, rfl, hco⟩ := hrel
              by_cases hmn : m = m8
              · have hm' : ¬ m < m8 := by omega
                have hco2 := hco.out
                rw [List.take_of_length_le (by have := HM8.out; omega)] at hco2
                have HCO := Lib.hid hco2
                obtain ⟨A12, c12, rfl, -, -⟩ := hco2.row.form
                obtain ⟨wC, rfl⟩ : ∃ wC : World, wC = wr := ⟨_, rfl⟩
                obtain ⟨zs2, hzs2⟩ : ∃ z, zs0 ++ outsT ms = z := ⟨_, rfl⟩
                rw [hzs2] at HCO ⊢
                have HZ2 := Lib.hid hzs2
                obtain ⟨k12, hk12⟩ : ∃ k, zs2.length = k := ⟨_, rfl⟩
                rw [hk12] at HCO ⊢
                have HK12 := Lib.hid hk12
                clear hmn hco hco2 hzs2 hk12
                have HDC := Lib.hid (dGrown HD8.out HCO.out.grown HVF.out)
                have HNC := Lib.hid (HCO.out.notIn HVF.out (fun b hb => (I.dfoot HD8.out).2 b hb))
                have HMC := Lib.hid (HMID8.out.grown HCO.out.grown (fun b e => by rw [HSB.out]; exact HVS.out b e))
                have HROWC := Lib.hid (show IR wC Sb (.slice A12 k12 c12) (outsT (acc1 ++ ms)) by rw [outsT_app, HZ0.out, HZ2.out]; exact HCO.out.row)
                have hlen : (outsT (acc1 ++ ms)).length ≤ 16 * (K0 + (i1 + 1)) := by
                  have h1 := outsT_len ms HSM8.out
                  rw [outsT_app, List.length_append, HZ0.out, HK9b.out]
                  have h2 := HM8.out
                  omega
                obtain ⟨z9, hz9⟩ : ∃ z, outsT (acc1 ++ ms) = z := ⟨_, rfl⟩
                have HLE := Lib.hid hlen
                clear HCO HD8 HO8 HSM8 HVR HVB HVF HVS HZLL HK9b HZ0 HZ2 HK12 HMID8 hz9 z9 hlen
                go_wp2_with fail
                go_roundw
                case rel => exact ⟨i1 + 1, rest, _, sc', _, G', F', by omega, by go_num, HDS2, HDC, HGG8, HROWC, HNC, HMC, HLE.out⟩
                case measure => simp [intOf]; omega
              have hm' : m < m8 := by omega
              have hm1 : m < ms.length := by rw [← HM8.out]; exact hm'
              have m3 : (0 : Int) ≤ m := by omega
              have m4 : (m : Int) < m8 := by omega
              have h2r := hco.out.tks HO8.out HVB.out
              obtain ⟨g, cg, hgv⟩ : ∃ g c', Value.slice A8 m8 c8 = .slice (some ⟨g, 0, none⟩) m8 c' := by
                obtain ⟨xs, hown, _⟩ := HO8.out
                rcases hown.2 with ⟨_, h2⟩ | ⟨g, cap, cur, h1, _⟩
                · omega
                · rw [← HM8.out] at h1
                  exact ⟨g, cap, h1⟩
              obtain ⟨rfl, rfl⟩ : A8 = some ⟨g, 0, none⟩ ∧ c8 = cg := by injection hgv with a b c; exact ⟨a, c⟩
              clear hgv
              obtain ⟨A7, n7, c7, q0, q1, q2, q3, hn7, hu7, -⟩ := h2r.cellsAt (k := m) hm1
              have h78 := HSM8.out _ (List.getElem_mem hm1)
              have hnx : zs0 ++ outsT (ms.take (m + 1)) = (zs0 ++ outsT (ms.take m)) ++ ms[m].out := by rw [outsT_take hm1, List.append_assoc]
              have hzl : (zs0 ++ outsT (ms.take m)).length ≤ 100000 := by
                have h1 := outsT_len (ms.take m) fun t ht => HSM8.out t (List.mem_of_mem_take ht)
                have h2 := HZLL.out
                rw [List.length_take] at h1
                rw [List.length_append]
                omega
              obtain ⟨t, ht⟩ : ∃ t, ms[m] = t := ⟨_, rfl⟩
              rw [ht] at q0 q1 q3 hn7 hu7 hnx h78
              obtain ⟨tp', tz, tu, te'⟩ := t
              simp only at q0 q1 q3 hn7 hu7 hnx h78
              obtain ⟨zs', hzs'⟩ : ∃ zs', zs0 ++ outsT (ms.take m) = zs' := ⟨_, rfl⟩
              rw [hzs'] at hco hnx hzl
              have hi := hco.out.row
              obtain ⟨A10, c10, rfl, -, -⟩ := hi.form
              obtain ⟨k10, hk10⟩ : ∃ k, zs'.length = k := ⟨_, rfl⟩
              rw [hk10] at hi hco ⊢
              have hba : Below wr.heap.size wr (wr.alloc (.cells #[.int .i64 tp', .int .i64 tz, .slice A7 n7 c7, .int .i64 te'] 44)) := (Below.refl _ wr).alloc (Nat.le_refl _) _
              have HI9 := Lib.hid (hi.below hba (Nat.le_refl _))
              obtain ⟨p1, c1', e1, g1, g2, g3⟩ := hu7
              obtain ⟨rfl, rfl⟩ : A7 = p1 ∧ c7 = c1' := by injection e1 with a b c; exact ⟨a, c⟩
              have HR9 := Lib.hid (Rd.below (g3.rd (Nat.le_refl _)) hba (Nat.le_refl _))
              have HQ := Held.new wr #[.int .i64 tp', .int .i64 tz, .slice A7 n7 c7, .int .i64 te'] 44
              have x2' := HQ.cell 2
              have E7 := Lib.hid hn7
              have HNX := Lib.hid hnx
              have hgs := hco.out.grown.size
              have hSb : Sb ≤ (wr.alloc (.cells #[.int .i64 tp', .int .i64 tz, .slice A7 n7 c7, .int .i64 te'] 44)).heap.size := by have := hba.size; omega
              have hl9 : zs'.length + tu.length ≤ 17592186044416 := by omega
              have HL9 := Lib.hid hl9
              have HCO := Lib.hid hco.out
              have HBA := Lib.hid hba
              clear hi hba hn7 e1 g1 g2 g3 HQ ht hnx hmn h2r h78 hzs' hm1 hzl hl9 hco hk10 
              go_wp2_with (at_builtin; refine wpList_appIo rfl _ _ rfl Sb (.slice A10 k10 c10) zs' rfl HI9.out A7 n7 c7 tu rfl E7.out _ HR9.out HL9.out hSb ?_)
              intro v9 w9 HI10 HG10 HV10
              have HC9 : Hid (Coll Sb w8 w9 V v9 (zs0 ++ outsT (ms.take (m + 1)))) := by rw [HNX.out]; exact HCO.out.step HBA.out HI10.out HG10.out (by have := HV10.out; simpa using this)
              clear HI9 HR9 HI10 HG10 HV10 HCO HBA
              go_wp2_with fail
              go_roundw
              case rel => exact ⟨m + 1, by omega, by go_num, HC9⟩
              case measure => simp [intOf]; omega
        · have hne : (tr != 0) = true := by simpa using hd
          clear hd HMEM
          go_wp2_with fail
          go_ret
          exact ⟨rfl, HBA.out⟩
    have hK' : K < M := by omega
    have hK1 : K < ss.length := by rw [HM.out]; exact hK'
    have k3 : (0 : Int) ≤ K := by omega
    have k4 : (K : Int) < M := by omega
    obtain ⟨b3, o3, rfl, -, hc3⟩ := rd_ints (HRX.out wr hmid.out) (by omega)
    have r3 := hc3 K hK1
    obtain ⟨s, hs⟩ : ∃ s, ss.getD K 0 = s := ⟨_, rfl⟩
    obtain ⟨ts, q', a', ah', sc', hd⟩ : ∃ ts q' a' ah' sc', ePut q a ah sc (ss.getD K 0) = (ts, q', a', ah', sc') := ⟨_, _, _, _, _, rfl⟩
    have hes2 := hes.out.step hK1 hd
    have hq1 := hes.out.one
    have hln := ePut_len hd hq1
    obtain ⟨-, ha1, -, hah, ha0, hsc0, hsc1⟩ := hes.out
    have HES2 := Lib.hid hes2
    rw [hs] at r3 hd
    have hI5 := I.keep HI.out hb.out
    have P1 := Lib.hid (I.eput s ts q' a' ah' sc' hE.out hI5 hq1 hah ha0 (by omega) hsc0 hsc1 hd)
    have HLN := Lib.hid (show acc.length + ts.length ≤ 1048576 by omega)
    have hal2 : (acc ++ ts).length ≤ 3 * (K + 1) := by rw [List.length_append]; omega
    have hvl := Lib.hid (fun b (e : _ = some b) => own_ltT hrow.out e)
    have hfr := Lib.hid (fun (e : q = [] ∧ a = 0) => hnil.out (by rw [e.1, e.2] at ha1; simp at ha1; omega))
    obtain ⟨A9, c9, rfl, -⟩ := hrow.out.form
    obtain ⟨k9, hk9⟩ : ∃ k, acc.length = k := ⟨_, rfl⟩
    rw [hk9] at hnot hvl htk hfr ⊢
    clear hes hes2 hs hd hI5 hE hc3 hKn hln hk9 hal hrow hnil
    go_wp2_with fail
    refine P1.out.mono ?_
    rintro e w8 ⟨v8, G', F', B8, rfl, ho8, hE8, hT8⟩
    obtain ⟨base', hbB, htk8⟩ := htk.out.told hT8 hfr.out
    have hm8 := hT8.mid
    obtain ⟨A8, c8, rfl, -⟩ := ho8.form
    obtain ⟨m8, hm8l⟩ : ∃ m, ts.length = m := ⟨_, rfl⟩
    rw [hm8l] at ho8 ⊢
    have HM8 := Lib.hid hm8l.symm
    have HO8 := Lib.hid ho8
    have HROW8 := Lib.hid htk8.row
    have hbR' := htk8.le
    have hbW' := htk8.top
    have HFAR8 := Lib.hid htk8.far
    have HT8 := Lib.hid hT8
    have hB8 := hT8.base
    have HMID8 := Lib.hid (hmid.out.then hm8 (fun b hb => by rw [HW0.out]; exact hff.out b (hgf.out b hb)))
    have hs8 : R ≤ w8.heap.size := Nat.le_trans hwr hm8.size
    have HE8 := Lib.hid hE8
    have HFF8 := Lib.hid (show ∀ b, F' b → Fe b ∨ R ≤ b from fun b hb => by
      rcases hT8.news b hb with h | h
      · exact hff.out b h
      · right; omega)
    clear htk hmid hE8 hm8 P1 hm8l ho8 hT8 hff hb htk8 hfr hgf
    go_wp2_with (at_builtin; refine wpList_appTk rfl _ _ rfl base' (.slice A9 k9 c9) acc rfl HROW8.out A8 m8 c8 B8 ts rfl HM8.out HO8.out hbB (fun b e => Nat.lt_of_lt_of_le (hvl.out b e).2 hB8) HLN.out hbW' ?_)
    intro v9 w9 HO9 HG9 HV9
    obtain ⟨hE9, hN9⟩ := etold HE8.out hnot.out HT8.out (fun b e => (hvl.out b e).2) HG9.out HV9.out
    have HTK9 := Lib.hid (show TkRow G' R base' w9 v9 (acc ++ ts) from ⟨hbR', Nat.le_trans hbW' HG9.out.size, HFAR8.out, HO9.out⟩)
    have HE9 := Lib.hid hE9
    have HN9 := Lib.hid hN9
    have HMID9 := Lib.hid (HMID8.out.grown HG9.out (fun b e => by rw [HW0.out]; have := (hvl.out b e).1; omega))
    clear hE9 hN9 HG9 HV9 HE8 HROW8 HO8 HMID8 hnot HT8 hvl
    go_wp2_with fail
    go_roundw
    case rel => exact ⟨K + 1, q', ah', a', sc', _, G', F', base', by omega, by go_num, HES2, HE9, HTK9, HN9, HMID9, HFF8, hal2, Lib.hid (fun e => by omega)⟩
    case measure => simp [intOf]; omega
end Go.Proofs.YtdkcadckbjncjaaDoor
