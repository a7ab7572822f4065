/- Texts of this seat, one behind the other: IscW, IscT. -/
import Derived.Test.YtdkcadckbjncjaaDoorZ16
import Derived.Test.YtdkcadckbjncjaaDoorZ26
import Derived.Test.YtdkcadckbjncjaaDoorZ15
import Derived.Test.YtdkcadckbjncjaaDoorZ23
import Derived.Handy
import Derived.Test.YtdkcadckbjncjaaDoorZ24
namespace Go.Proofs.YtdkcadckbjncjaaDoor
set_option linter.unusedVariables false
set_option linter.unusedSimpArgs false
set_option linter.unnecessarySimpa false
open Go.RowKit
theorem ex_steps : lawE 0 [] 0 [2453] = (swT 0 1 :: (encA inR [21]).map (shK 0), 1) := by
  have h1 : isB 2453 = true ∧ isC 2453 ≠ 0 := by decide
  have h2 : isC 2453 = 1 := by decide
  have h3 : isU 2453 = 21 := by decide
  rw [lawE, if_pos h1, h2, h3]
  simp [lawE, encA, rewA_nil, encF]
theorem ex_step : stepT (turnR inR) [21] = (1, 0, [179]) := by rw [inR_turn]; decide +kernel
theorem ex_rew : rewA (turnR inR) 0 [21] = [⟨0, 1, [179], 0⟩] := by
  rw [rewA_cons (by simp) ex_step (by decide)]
  show _ :: rewA (turnR inR) _ [] = _
  rw [rewA_nil]
theorem ex_enc : (lawE 0 [] 0 [2453]).1 = [⟨0, 0, [239, 67], 0⟩, ⟨0, 1, [179], 0⟩] := by
  rw [ex_steps]
  show swT 0 1 :: (encF inR [] (rewA (turnR inR) 0 [21])).map (shK 0) = _
  rw [ex_rew]
  simp only [encF, joinT_nil, List.map_cons, List.map_nil]
  rfl
theorem ex_outs : outsT (lawE 0 [] 0 [2453]).1 = [239, 67, 179] := by rw [ex_enc]; rfl
theorem ex_back : outsT (meanT 0 (rewA inR 0 [239, 67, 179])).1 = [2453] ∧ (meanT 0 (rewA inR 0 [239, 67, 179])).2 = 1 := by
  have h := isc_back (ss := [2453]) (by intro s hs; rw [List.mem_singleton] at hs; subst hs; rfl) (by rw [ex_enc]; intro t ht; simp at ht; rcases ht with rfl | rfl <;> rfl)
  rw [ex_outs, ex_steps] at h
  exact h
set_option maxRecDepth 100000 in
set_option maxHeartbeats 12800000 in
theorem awake18_any (I : IsApi) (w : World) (hI : I.OK w) : Calls Tryd.prog 9 #[] w fun e w' => e = .returned (.bool true) ∧ Below w.heap.size w w' := by
  have HI := Lib.hid hI
  clear hI
  go_enter Tryd.func9, Tryd.ntmps9
  go_wp2_with fail
  refine (I.encode w HI.out).mono ?_
  rintro e w1 ⟨pe, Fe, rfl, hE1, hfe1, hb1⟩
  have hs1 := hb1.size
  have HI1 := Lib.hid (I.keep HI.out hb1)
  have HE1 := Lib.hid hE1
  have HB1 := Lib.hid hb1
  clear hE1 hb1
  go_wp2_with fail
  refine (I.decode w1 HI1.out).mono ?_
  rintro e w2 ⟨pd, Fd, rfl, hD2, hfd1, hb2⟩
  have hs2 := hb2.size
  have HI2 := Lib.hid (I.keep HI1.out hb2)
  have HD2 := Lib.hid hD2
  have HE2 := Lib.hid (eBelow HE1.out hb2)
  have HB2 := Lib.hid (HB1.out.trans (hb2.mono hs1))
  obtain ⟨S1, hS1⟩ : ∃ S, w.heap.size = S := ⟨_, rfl⟩
  obtain ⟨S2, hS2⟩ : ∃ S, w1.heap.size = S := ⟨_, rfl⟩
  obtain ⟨S3, hS3⟩ : ∃ S, w2.heap.size = S := ⟨_, rfl⟩
  have HFD := Lib.hid (show ∀ b, Fd b → S2 ≤ b ∧ b < S3 from fun b hb => by have := (I.dfoot hD2).2 b hb; have := hfd1 b hb; omega)
  have HFE := Lib.hid (show ∀ b, Fe b → S1 ≤ b ∧ b < S2 from fun b hb => by have := (I.efoot HE1.out).2 b hb; have := hfe1 b hb; omega)
  obtain ⟨ts1, q1, a1, ah1, sc1, hp1⟩ : ∃ ts1 q1 a1 ah1 sc1, ePut [] 0 [] 0 2453 = (ts1, q1, a1, ah1, sc1) := ⟨_, _, _, _, _, rfl⟩
  have hes := (ES.start [2453]).step (by decide) hp1
  have hq1 := hes.one
  have hln := ePut_len hp1 (by simp)
  have P1 := Lib.hid (I.eput 2453 ts1 q1 a1 ah1 sc1 HE2.out HI2.out (by simp) (by simp) (by decide) (by decide) (by decide) (by decide) hp1)
  have HES := Lib.hid hes
  rw [hS2, hS3] at hs2
  rw [hS1] at HB2
  rw [hS1, hS2] at hs1
  have HSE := Lib.hid hS1
  have HS3E := Lib.hid hS3
  clear hD2 hb2 HE1 HE2 HB1 HI1 hp1 hes hS1 hS2 hS3 hfe1 hfd1
  go_wp2_with fail
  refine P1.out.mono ?_
  rintro e w3 ⟨v3, G3, F3, B3, rfl, ho3, hE3, hT3⟩
  have hm3 := hT3.mid
  have hB3 := hT3.base
  have hB3t := hT3.top
  rw [HS3E.out] at hB3
  have HFAR3 := Lib.hid hT3.far
  have HG3 := Lib.hid (show ∀ b, G3 b → (S1 ≤ b ∧ b < S2) ∨ S3 ≤ b from fun b hb => by
    rcases hT3.gnew b hb with h | h
    · exact .inl (HFE.out b h)
    · rw [HS3E.out] at h; exact .inr h)
  obtain ⟨A3, c3, rfl, -⟩ := ho3.form
  have hs3 := hm3.size
  rw [HS3E.out] at hs3
  have HD3 := Lib.hid (dMid HD2.out hm3 (fun b hb e => by have h1 := HFD.out b hb; have h2 := HFE.out b e; omega))
  have HB3 := Lib.hid (HB2.out.trans (hm3.below (fun b hb => (HFE.out b hb).1) (by rw [HS3E.out]; omega)))
  have HI3 := Lib.hid (I.keep HI.out (by rw [HSE.out]; exact HB3.out))
  obtain ⟨ts2, hts2⟩ : ∃ ts2, encF inR ah1 (rewA (turnR inR) a1 q1) = ts2 := ⟨_, rfl⟩
  have hfin := HES.out.fin (by simp) hts2
  have hln2 := eEnd_len hts2 hq1
  obtain ⟨-, ha1, -, hah, ha0, hsc0, hsc1⟩ := HES.out
  have P2 := Lib.hid (I.eend ts2 hE3 HI3.out hq1 hah ha0 (by omega) hsc0 hsc1 hts2)
  have HO3 := Lib.hid ho3
  have HT := Lib.hid (show ts1 ++ ts2 = (lawE 0 [] 0 [2453]).1 from congrArg Prod.fst hfin)
  clear ho3 hE3 hT3 hm3 P1 HES HD2 HB2 HI2 hts2 hfin
  obtain ⟨k3, hk3⟩ : ∃ k, ts1.length = k := ⟨_, rfl⟩
  rw [hk3] at HO3 ⊢
  clear hk3
  go_wp2_with fail
  refine P2.out.mono ?_
  rintro e w4 ⟨v4, G4, F4, B4, rfl, ho4, -, hT4⟩
  have hm4 := hT4.mid
  have hB4 := hT4.base
  have hB4t := hT4.top
  obtain ⟨A4, c4, rfl, -⟩ := ho4.form
  obtain ⟨k4, hk4⟩ : ∃ k, ts2.length = k := ⟨_, rfl⟩
  rw [hk4] at ho4 ⊢
  have HK4 := Lib.hid hk4.symm
  have hs4 := hm4.size
  have HO4 := Lib.hid ho4
  have HO34 := Lib.hid (HO3.out.mid hm4 HFAR3.out)
  have HD4 := Lib.hid (dMid HD3.out hm4 (fun b hb e => by have h1 := HFD.out b hb; have h2 := HG3.out b e; omega))
  have HB4 := Lib.hid (HB3.out.trans (hm4.below (fun b hb => by have h2 := HG3.out b hb; omega) (by omega)))
  have HV3 := Lib.hid (fun b (e : _ = some b) => (own_ltT HO3.out e))
  have HLN := Lib.hid (show ts1.length + ts2.length ≤ 1048576 by omega)
  clear ho4 hm4 hT4 P2 HD3 HB3 HO3 hk4 HG3 HFAR3
  go_wp2_with (at_builtin; refine wpList_appTk rfl _ _ rfl B3 (.slice A3 k3 c3) ts1 rfl HO34.out A4 k4 c4 B4 ts2 rfl HK4.out HO4.out (by omega) (fun b e => by have := (HV3.out b e).2; omega) HLN.out (by omega) ?_)
  intro v5 w5 HO5 HG5 HV5
  have hs5 := HG5.out.size
  have HD5 := Lib.hid (dGrown HD4.out HG5.out (fun b e hb => by have h1 := (HV3.out b e).1; have h2 := (HFD.out b hb).2; omega))
  have HB5 := Lib.hid (below_rowG HB4.out HG5.out (fun b e => by have := (HV3.out b e).1; omega) (by omega))
  obtain ⟨ms, hms⟩ : ∃ ms, ts1 ++ ts2 = ms := ⟨_, rfl⟩
  have hmo : outsT ms = [239, 67, 179] := by rw [← hms, HT.out]; exact ex_outs
  have hsm : ∀ t ∈ ms, t.out.length ≤ 8 := by rw [← hms, HT.out]; exact lawE_small _ _ _ _
  have hml : ms.length ≤ 4 := by rw [← hms, List.length_append]; omega
  rw [hms] at HO5
  obtain ⟨A8, c8, rfl, -⟩ := HO5.out.form
  obtain ⟨m8, hm8⟩ : ∃ k, ms.length = k := ⟨_, rfl⟩
  rw [hm8] at HO5 hml ⊢
  have HM8 := Lib.hid hm8.symm
  have HSM8 := Lib.hid hsm
  have HMO := Lib.hid hmo
  have HO8 := HO5
  obtain ⟨V, hV⟩ : ∃ V : Option Nat, V = none := ⟨_, rfl⟩
  obtain ⟨So, hSoE⟩ : ∃ S, w5.heap.size = S := ⟨_, rfl⟩
  have hSo : So ≤ w5.heap.size := by omega
  have hS3So : S3 ≤ So := by omega
  have HVN := Lib.hid hV
  have HSOE := Lib.hid hSoE
  have HC0 : Hid (Coll So w5 w5 V (.slice none 0 0) ([] ++ outsT (ms.take 0))) := by rw [hV]; exact Coll.start (IR.nil _ _)
  have HVR := Lib.hid (show ∀ b, V = some b → b < B3 from fun b e => by rw [hV] at e; cases e)
  have HZL := Lib.hid (show ([] : List Int).length ≤ 4000 by simp)
  clear HG5 HV5 HO4 HO34 HV3 HD4 HB4 hms hsm hmo hm8 hV hSoE HT HLN HK4 hln hln2 HI3 HS3E
  go_wp2_with fail
  go_loopw [3, 27] (fun v j wx => ∃ m : Nat, m ≤ m8 ∧ j = .int .i64 m ∧ Hid (Coll So w5 wx V v ([] ++ outsT (ms.take m)))) (fun _ j _ => m8 - (intOf j).toNat)
  case atStart => exact ⟨0, by omega, rfl, HC0⟩
  case round =>
    clear HC0
    obtain ⟨m, hm, rfl, hco⟩ := hrel
    by_cases hmn : m = m8
    · have hm' : ¬ m < m8 := by omega
      have hco2 := hco.out
      rw [List.take_of_length_le (by have := HM8.out; omega)] at hco2
      have HCO := Lib.hid hco2
      obtain ⟨A12, c12, rfl, -, -⟩ := hco2.row.form
      obtain ⟨wC, rfl⟩ : ∃ wC : World, wC = wr := ⟨_, rfl⟩
      obtain ⟨zs2, hzs2⟩ : ∃ z, [] ++ outsT ms = z := ⟨_, rfl⟩
      rw [hzs2] at HCO ⊢
      have HZ2 := Lib.hid hzs2
      obtain ⟨k12, hk12⟩ : ∃ k, zs2.length = k := ⟨_, rfl⟩
      rw [hk12] at HCO ⊢
      have HK12 := Lib.hid hk12
      clear hmn hco hco2 hzs2 hk12
      have h1 := HCO.out.row
      rw [← HZ2.out, List.nil_append, HMO.out] at h1
      have hk := HK12.out
      rw [← HZ2.out, List.nil_append, HMO.out] at hk
      obtain rfl : (3 : Nat) = k12 := hk
      have HBR := Lib.hid h1
      have HBC := Lib.hid (HCO.out.below HB5.out (fun b e => by rw [HVN.out] at e; cases e) (by omega))
      have HDC := Lib.hid (dGrown HD5.out HCO.out.grown (fun b e => by rw [HVN.out] at e; cases e))
      have hsC := HCO.out.grown.size
      have HBL := Lib.hid (fun b (e : _ = some b) => HCO.out.row.lt e)
      clear h1 HCO HZ2 HK12 HM8 HSM8 HO8 HO5 HD5 HB5 HVR HVN HZL
      obtain ⟨Sb, hSb⟩ : ∃ S, wC.heap.size = S := ⟨_, rfl⟩
      have HSBE := Lib.hid hSb
      have hSbw : Sb ≤ wC.heap.size := by omega
      have hSoSb : So ≤ Sb := by have := HSOE.out; omega
      rw [hSb] at HBL
      clear hSb
      go_wp2_with fail
      go_loopw [6, 38] (fun v i wr => ∃ (K : Nat) (q : List Int) (a sc : Int) (acc : List Tk) (G F : Nat → Prop), K ≤ 3 ∧ i = .int .i64 K ∧ Hid (DS [239, 67, 179] K q a sc acc) ∧ Hid (I.D G F wr pd q a sc) ∧ Hid (∀ b, G b → Fd b ∨ Sb ≤ b) ∧ Hid (IR wr So (.slice A12 3 c12) [239, 67, 179]) ∧ Hid (IR wr Sb v (outsT acc)) ∧ Hid (NotIn F v) ∧ Hid (Below S1 w wr) ∧ Sb ≤ wr.heap.size ∧ (outsT acc).length ≤ 16 * K) (fun _ i _ => 3 - (intOf i).toNat)
      case atStart => exact ⟨0, [], 0, 0, [], Fd, Fd, by omega, rfl, Lib.hid (DS.start _), HDC, Lib.hid (fun b hb => .inl hb), HBR, Lib.hid (IR.nil _ _), Lib.hid (NotIn.nil _), HBC, hSbw, by simp [outsT]⟩
      case round =>
        clear HDC HBR HBC hSbw
        obtain ⟨K, q, a, sc, acc, G, F, hK, rfl, hds, hD, hgg, hbrow, hout, hnot, hb, hwr, hol⟩ := hrel
        have hgf := Lib.hid (I.dfoot hD.out).1
        have hgs := Lib.hid (show ∀ b, G b → S1 ≤ b from fun b hb => by rcases hgg.out b hb with h | h; have := HFD.out b h; omega; omega)
        obtain ⟨wo, rfl⟩ : ∃ wo : World, wo = wr := ⟨_, rfl⟩
        by_cases hKn : K = 3
        · subst hKn
          rw [show ((3 : Nat) : Int) = 3 from rfl]
          obtain ⟨ts, hts⟩ : ∃ ts, rewA inR a q = ts := ⟨_, rfl⟩
          obtain ⟨ms, sc', hm⟩ : ∃ ms sc', meanT sc ts = (ms, sc') := ⟨_, _, rfl⟩
          have hfin := hds.out.fin (by simp) hts hm
          have hq1 := hds.out.one
          obtain ⟨hsm, hml⟩ := rew_smallI hts hm
          obtain ⟨-, ha1, -, ha0, hsc0, hsc1⟩ := hds.out
          have hI5 := I.keep HI.out (by rw [HSE.out]; exact hb.out)
          have P3 := Lib.hid (I.dend ts ms sc' hD.out hI5 hq1 ha0 (by omega) hsc0 hsc1 hts hm)
          have HFIN := Lib.hid hfin
          obtain ⟨A9, c9, rfl, -, -⟩ := hout.out.form
          obtain ⟨zs0, hzs0⟩ : ∃ z, outsT acc = z := ⟨_, rfl⟩
          have HZ0 := Lib.hid hzs0
          rw [hzs0] at hout hol hnot ⊢
          obtain ⟨k9, hk9⟩ : ∃ k, zs0.length = k := ⟨_, rfl⟩
          have HZL := Lib.hid (show zs0.length ≤ 4000 by omega)
          rw [hk9] at hout hnot hol ⊢
          clear hds hts hm hfin hI5 hD hzs0 hk9
          go_wp2_with fail
          refine P3.out.mono ?_
          rintro e w8 ⟨v8, G', F', B8, rfl, ho8, hD8, hT8⟩
          have hm8 := hT8.mid
          have hB8 := hT8.base
          obtain ⟨A8, c8, rfl, -⟩ := ho8.form
          obtain ⟨m8, hm8l⟩ : ∃ m, ms.length = m := ⟨_, rfl⟩
          rw [hm8l] at ho8 hml ⊢
          have HM8 := Lib.hid hm8l.symm
          have HSM8 := Lib.hid hsm
          have HO8 := Lib.hid ho8
          have hs8 : Sb ≤ w8.heap.size := Nat.le_trans hwr hm8.size
          have HB8 := Lib.hid (hb.out.trans (hm8.below hgs.out (by omega)))
          have HBROW8 := Lib.hid (hbrow.out.mid hm8 (fun b e hb => by have h1 := HBL.out b e; rcases hgg.out b hb with h | h; have := HFD.out b h; omega; omega))
          have HI8 := hout.out.toldN hT8 hgf.out hnot.out
          obtain ⟨V, hV⟩ : ∃ V, (Value.slice A9 k9 c9).ownBlock = V := ⟨_, rfl⟩
          have hvl := Lib.hid (show ∀ b, V = some b → Sb ≤ b ∧ b < wo.heap.size from fun b e => hout.out.lt (hV.trans e))
          have HC0 : Hid (Coll Sb w8 w8 V (.slice A9 k9 c9) (zs0 ++ outsT (ms.take 0))) := by
            show Coll _ _ _ _ _ _
            rw [← hV, show zs0 ++ outsT (ms.take 0) = zs0 by simp [outsT]]
            exact Coll.start HI8
          have HVR := Lib.hid (show ∀ b, V = some b → b < wo.heap.size from fun b e => (hvl.out b e).2)
          have HVB := Lib.hid (show ∀ b, V = some b → b < B8 from fun b e => Nat.lt_of_lt_of_le (hvl.out b e).2 hB8)
          have HD8 := Lib.hid hD8
          have HVF := Lib.hid (show ∀ b, V = some b → ¬ F' b from fun b e => hnot.out.put hT8.news (fun b e => (hvl.out b (hV.symm.trans e)).2) b (hV.trans e))
          have HVS := Lib.hid (show ∀ b, V = some b → Sb ≤ b from fun b e => (hvl.out b e).1)
          clear hm8l ho8 hsm hb hbrow hout hm8 hnot hT8 hD8 P3 HI8 hV hvl hgg hgf hgs
          go_wp2_with fail
          go_loopw [6, 59] (fun v j wx => ∃ m : Nat, m ≤ m8 ∧ j = .int .i64 m ∧ Hid (Coll Sb w8 wx V v (zs0 ++ outsT (ms.take m)))) (fun _ j _ => m8 - (intOf j).toNat)
          case atStart => exact ⟨0, by omega, rfl, HC0⟩
          case round =>
            clear HC0
            obtain ⟨m, hm, rfl, hco⟩ := hrel
            by_cases hmn : m = m8
            · have hm' : ¬ m < m8 := by omega
              have hco2 := hco.out
              rw [List.take_of_length_le (by have := HM8.out; omega)] at hco2
              have HCO := Lib.hid hco2
              obtain ⟨A12', c12', rfl, -, -⟩ := hco2.row.form
              obtain ⟨wC, rfl⟩ : ∃ wC : World, wC = wr := ⟨_, rfl⟩
              obtain ⟨zs2, hzs2⟩ : ∃ z, zs0 ++ outsT ms = z := ⟨_, rfl⟩
              rw [hzs2] at HCO ⊢
              have HZ2 := Lib.hid hzs2
              obtain ⟨k12, hk12⟩ : ∃ k, zs2.length = k := ⟨_, rfl⟩
              rw [hk12] at HCO ⊢
              have HK12 := Lib.hid hk12
              clear hmn hco hco2 hzs2 hk12
              have HDC := Lib.hid (dGrown HD8.out HCO.out.grown HVF.out)
              have HBC := Lib.hid (HCO.out.below HB8.out (fun b e => by have := HVS.out b e; omega) (by omega))
              have hfin : zs2 = [2453] ∧ sc' = 1 := by
                have h1 := ex_back
                rw [HFIN.out] at h1
                simp only at h1
                rw [outsT_app, HZ0.out, HZ2.out] at h1
                exact h1
              have HBROWC := Lib.hid (show IR wC So (.slice A12 3 c12) [239, 67, 179] from World.ownsRow.kept HBROW8.out HCO.out.grown (by
                rcases hown : (Value.slice A12 3 c12).ownBlock with _ | b
                · exact .inl rfl
                · right
                  intro e
                  have h1 := HVS.out b e.symm
                  have h2 := (HBL.out b hown).2
                  omega))
              obtain ⟨rfl, rfl⟩ := hfin
              have hrow := HCO.out.row
              have hk := HK12.out
              obtain rfl : (1 : Nat) = k12 := hk
              have HROWC := Lib.hid hrow
              have hsC := HCO.out.grown.size
              clear HCO HD8 HB8 HBROW8 HO8 HSM8 HVR HVB HVF HVS HZL HZ0 HZ2 HK12 hrow HFIN
              have hb6 := below_allocI wC (.cells #[.int .i64 239, .int .i64 67, .int .i64 179] 3)
              have U1 := Lib.hid (units_any 3 3 A12 (some ⟨wC.heap.size, 0, none⟩) c12 3 [239, 67, 179] [239, 67, 179] (wC.alloc (.cells #[.int .i64 239, .int .i64 67, .int .i64 179] 3)) rfl rfl rfl ((HBROWC.out.below hb6 (Nat.le_refl _)).rd) (rd_new_ints wC .i64 [239, 67, 179] _ _ rfl) (by decide))
              have HB6 := Lib.hid hb6
              clear hb6
              go_wp2_with fail
              refine U1.out.mono ?_
              rintro e w13 ⟨rfl, hb13⟩
              have HB13 := Lib.hid (HB6.out.trans (hb13.mono HB6.out.size))
              have HROW13 := Lib.hid (HROWC.out.below HB13.out (Nat.le_refl _))
              have HD13 := Lib.hid (dBelow HDC.out HB13.out)
              have HBB13 := Lib.hid (HBC.out.trans (HB13.out.mono (by omega)))
              have hs13 := HB13.out.size
              clear hb13 U1 HB6 HB13 HROWC HDC HBC HBROWC
              have hb14 := below_allocI w13 (.cells #[.int .i64 2453] 3)
              have U2 := Lib.hid (units_any 1 1 A12' (some ⟨w13.heap.size, 0, none⟩) c12' 1 [2453] [2453] (w13.alloc (.cells #[.int .i64 2453] 3)) rfl rfl rfl ((HROW13.out.below hb14 (Nat.le_refl _)).rd) (rd_new_ints w13 .i64 [2453] _ _ rfl) (by decide))
              have HB14 := Lib.hid hb14
              clear hb14
              go_wp2_with fail
              refine U2.out.mono ?_
              rintro e w15 ⟨rfl, hb15⟩
              have HB15 := Lib.hid (HB14.out.trans (hb15.mono HB14.out.size))
              have HD15 := Lib.hid (dBelow HD13.out HB15.out)
              have HBB15 := Lib.hid (HBB13.out.trans (HB15.out.mono (by omega)))
              have hs15 := HB15.out.size
              clear hb15 U2 HB14 HB15 HROW13 HD13 HBB13
              go_wp2_with fail
              refine (I.dscript HD15.out).mono ?_
              rintro e w16 ⟨rfl, hb16⟩
              have HBB16 := Lib.hid (HBB15.out.trans (hb16.mono (by omega)))
              clear hb16 HD15 HBB15
              go_wp2_with fail
              go_ret
              exact ⟨rfl, by rw [HSE.out]; exact HBB16.out⟩
            have hm' : m < m8 := by omega
            have hm1 : m < ms.length := by rw [← HM8.out]; exact hm'
            have m3 : (0 : Int) ≤ m := by omega
            have m4 : (m : Int) < m8 := by omega
            have h2r := hco.out.tks HO8.out HVB.out
            obtain ⟨g, cg, hgv⟩ : ∃ g c', Value.slice A8 m8 c8 = .slice (some ⟨g, 0, none⟩) m8 c' := by
              obtain ⟨xs, hown, _⟩ := HO8.out
              rcases hown.2 with ⟨_, h2⟩ | ⟨g, cap, cur, h1, _⟩
              · omega
              · rw [← HM8.out] at h1
                exact ⟨g, cap, h1⟩
            obtain ⟨rfl, rfl⟩ : A8 = some ⟨g, 0, none⟩ ∧ c8 = cg := by injection hgv with a b c; exact ⟨a, c⟩
            clear hgv
            obtain ⟨A7, n7, c7, q0, q1, q2, q3, hn7, hu7, -⟩ := h2r.cellsAt (k := m) hm1
            have h78 := HSM8.out _ (List.getElem_mem hm1)
            have hnx : zs0 ++ outsT (ms.take (m + 1)) = (zs0 ++ outsT (ms.take m)) ++ ms[m].out := by rw [outsT_take hm1, List.append_assoc]
            have hzl : (zs0 ++ outsT (ms.take m)).length ≤ 100000 := by
              have h1 := outsT_len (ms.take m) fun t ht => HSM8.out t (List.mem_of_mem_take ht)
              have h2 := HZL.out
              rw [List.length_take] at h1
              rw [List.length_append]
              omega
            obtain ⟨t, ht⟩ : ∃ t, ms[m] = t := ⟨_, rfl⟩
            rw [ht] at q0 q1 q3 hn7 hu7 hnx h78
            obtain ⟨tp', tz, tu, te'⟩ := t
            simp only at q0 q1 q3 hn7 hu7 hnx h78
            obtain ⟨zs', hzs'⟩ : ∃ zs', zs0 ++ outsT (ms.take m) = zs' := ⟨_, rfl⟩
            rw [hzs'] at hco hnx hzl
            have hi := hco.out.row
            obtain ⟨A10, c10, rfl, -, -⟩ := hi.form
            obtain ⟨k10, hk10⟩ : ∃ k, zs'.length = k := ⟨_, rfl⟩
            rw [hk10] at hi hco ⊢
            have hba : Below wr.heap.size wr (wr.alloc (.cells #[.int .i64 tp', .int .i64 tz, .slice A7 n7 c7, .int .i64 te'] 44)) := (Below.refl _ wr).alloc (Nat.le_refl _) _
            have HI9 := Lib.hid (hi.below hba (Nat.le_refl _))
            obtain ⟨p1, c1', e1, g1, g2, g3⟩ := hu7
            obtain ⟨rfl, rfl⟩ : A7 = p1 ∧ c7 = c1' := by injection e1 with a b c; exact ⟨a, c⟩
            have HR9 := Lib.hid (Rd.below (g3.rd (Nat.le_refl _)) hba (Nat.le_refl _))
            have HQ := Held.new wr #[.int .i64 tp', .int .i64 tz, .slice A7 n7 c7, .int .i64 te'] 44
            have x2' := HQ.cell 2
            have E7 := Lib.hid hn7
            have HNX := Lib.hid hnx
            have hgs := hco.out.grown.size
            have hSb : Sb ≤ (wr.alloc (.cells #[.int .i64 tp', .int .i64 tz, .slice A7 n7 c7, .int .i64 te'] 44)).heap.size := by have := hba.size; omega
            have hl9 : zs'.length + tu.length ≤ 17592186044416 := by omega
            have HL9 := Lib.hid hl9
            have HCO := Lib.hid hco.out
            have HBA := Lib.hid hba
            clear hi hba hn7 e1 g1 g2 g3 HQ ht hnx hmn h2r h78 hzs' hm1 hzl hl9 hco hk10 
            go_wp2_with (at_builtin; refine wpList_appIo rfl _ _ rfl Sb (.slice A10 k10 c10) zs' rfl HI9.out A7 n7 c7 tu rfl E7.out _ HR9.out HL9.out hSb ?_)
            intro v9 w9 HI10 HG10 HV10
            have HC9 : Hid (Coll Sb w8 w9 V v9 (zs0 ++ outsT (ms.take (m + 1)))) := by rw [HNX.out]; exact HCO.out.step HBA.out HI10.out HG10.out (by have := HV10.out; simpa using this)
            clear HI9 HR9 HI10 HG10 HV10 HCO HBA
            go_wp2_with fail
            go_roundw
            case rel => exact ⟨m + 1, by omega, by go_num, HC9⟩
            case measure => simp [intOf]; omega
        have hK' : K < 3 := by omega
        have hK1 : K < ([239, 67, 179] : List Int).length := by simp; omega
        have k3 : (0 : Int) ≤ K := by omega
        have k4 : (K : Int) < 3 := by omega
        obtain ⟨b3, o3, hA12, -, hc3⟩ := rd_ints (show Rd wo wo.heap.size A12 ([239, 67, 179].map (Value.int .i64)) from hbrow.out.rd) (by simp)
        subst hA12
        have r3 := hc3 K hK1
        obtain ⟨u, hu⟩ : ∃ u, ([239, 67, 179] : List Int).getD K 0 = u := ⟨_, rfl⟩
        obtain ⟨ts, rest, k, hd⟩ : ∃ ts rest k, drain inR a (q ++ [([239, 67, 179] : List Int).getD K 0]) = (ts, rest, k) := ⟨_, _, _, rfl⟩
        obtain ⟨ms, sc', hm⟩ : ∃ ms sc', meanT sc ts = (ms, sc') := ⟨_, _, rfl⟩
        have hds2 := hds.out.step hK1 hd hm
        have hq1 := hds.out.one
        have hsm := drain_smallI hd hm
        have hml : ms.length ≤ 2 := by
          have h1 := meanT_len ts sc
          rw [hm] at h1
          simp only at h1
          have h2 := (inR_good.drained (q ++ [([239, 67, 179] : List Int).getD K 0]) a).count
          rw [hd, List.length_append, List.length_singleton] at h2
          simp only at h2
          omega
        obtain ⟨-, ha1, -, ha0, hsc0, hsc1⟩ := hds.out
        have HDS2 := Lib.hid hds2
        rw [hu] at r3 hd
        have hI5 := I.keep HI.out (by rw [HSE.out]; exact hb.out)
        have P1 := Lib.hid (I.dput u ts rest k ms sc' hD.out hI5 hq1 ha0 (by omega) hsc0 hsc1 hd hm)
        obtain ⟨A9, c9, rfl, -, -⟩ := hout.out.form
        obtain ⟨zs0, hzs0⟩ : ∃ z, outsT acc = z := ⟨_, rfl⟩
        have HZ0 := Lib.hid hzs0
        rw [hzs0] at hout hol hnot ⊢
        obtain ⟨k9, hk9⟩ : ∃ k, zs0.length = k := ⟨_, rfl⟩
        have HZL := Lib.hid (show zs0.length ≤ 4000 by omega)
        rw [hk9] at hout hnot hol ⊢
        have HK9 := Lib.hid hk9
        clear hds hds2 hu hd hm hI5 hD hc3 hKn hzs0 hk9
        go_wp2_with fail
        refine P1.out.mono ?_
        rintro e w8 ⟨v8, G', F', B8, rfl, ho8, hD8, hT8⟩
        have hm8 := hT8.mid
        have hB8 := hT8.base
        have HGG8 := Lib.hid (show ∀ b, G' b → Fd b ∨ Sb ≤ b from fun b hb => by
          rcases hT8.gnew b hb with h | h
          · exact hgg.out b h
          · exact .inr (Nat.le_trans hwr h))
        obtain ⟨A8, c8, rfl, -⟩ := ho8.form
        obtain ⟨m8, hm8l⟩ : ∃ m, ms.length = m := ⟨_, rfl⟩
        rw [hm8l] at ho8 hml ⊢
        have HM8 := Lib.hid hm8l.symm
        have HSM8 := Lib.hid hsm
        have HO8 := Lib.hid ho8
        have hs8 : Sb ≤ w8.heap.size := Nat.le_trans hwr hm8.size
        have HB8 := Lib.hid (hb.out.trans (hm8.below hgs.out (by omega)))
        have HBROW8 := Lib.hid (hbrow.out.mid hm8 (fun b e hb => by have h1 := HBL.out b e; rcases hgg.out b hb with h | h; have := HFD.out b h; omega; omega))
        have HI8 := hout.out.toldN hT8 hgf.out hnot.out
        obtain ⟨V, hV⟩ : ∃ V, (Value.slice A9 k9 c9).ownBlock = V := ⟨_, rfl⟩
        have hvl := Lib.hid (show ∀ b, V = some b → Sb ≤ b ∧ b < wo.heap.size from fun b e => hout.out.lt (hV.trans e))
        have HC0 : Hid (Coll Sb w8 w8 V (.slice A9 k9 c9) (zs0 ++ outsT (ms.take 0))) := by
          show Coll _ _ _ _ _ _
          rw [← hV, show zs0 ++ outsT (ms.take 0) = zs0 by simp [outsT]]
          exact Coll.start HI8
        have HVR := Lib.hid (show ∀ b, V = some b → b < wo.heap.size from fun b e => (hvl.out b e).2)
        have HVB := Lib.hid (show ∀ b, V = some b → b < B8 from fun b e => Nat.lt_of_lt_of_le (hvl.out b e).2 hB8)
        have HD8 := Lib.hid hD8
        have HVF := Lib.hid (show ∀ b, V = some b → ¬ F' b from fun b e => hnot.out.put hT8.news (fun b e => (hvl.out b (hV.symm.trans e)).2) b (hV.trans e))
        have HVS := Lib.hid (show ∀ b, V = some b → Sb ≤ b from fun b e => (hvl.out b e).1)
        have hSo8 : Sb ≤ w8.heap.size := hs8
        clear hm8l ho8 hsm hb hbrow hout hm8 hnot hT8 hD8 P1 HI8 hV hvl hgg hgf hgs
        go_wp2_with fail
        go_loopw [6, 46] (fun v j wx => ∃ m : Nat, m ≤ m8 ∧ j = .int .i64 m ∧ Hid (Coll Sb w8 wx V v (zs0 ++ outsT (ms.take m)))) (fun _ j _ => m8 - (intOf j).toNat)
        case atStart => exact ⟨0, by omega, rfl, HC0⟩
        case round =>
          clear HC0
          obtain ⟨m, hm, rfl, hco⟩ := hrel
          by_cases hmn : m = m8
          · have hm' : ¬ m < m8 := by omega
            have hco2 := hco.out
            rw [List.take_of_length_le (by have := HM8.out; omega)] at hco2
            have HCO := Lib.hid hco2
            obtain ⟨A12', c12', rfl, -, -⟩ := hco2.row.form
            obtain ⟨wC, rfl⟩ : ∃ wC : World, wC = wr := ⟨_, rfl⟩
            obtain ⟨zs2, hzs2⟩ : ∃ z, zs0 ++ outsT ms = z := ⟨_, rfl⟩
            rw [hzs2] at HCO ⊢
            have HZ2 := Lib.hid hzs2
            obtain ⟨k12, hk12⟩ : ∃ k, zs2.length = k := ⟨_, rfl⟩
            rw [hk12] at HCO ⊢
            have HK12 := Lib.hid hk12
            clear hmn hco hco2 hzs2 hk12
            have HDC := Lib.hid (dGrown HD8.out HCO.out.grown HVF.out)
            have HNC := Lib.hid (HCO.out.notIn HVF.out (fun b hb => (I.dfoot HD8.out).2 b hb))
            have HBC := Lib.hid (HCO.out.below HB8.out (fun b e => by have := HVS.out b e; omega) (by omega))
            have HBROWC := Lib.hid (show IR wC So (.slice (some ⟨b3, o3, none⟩) 3 c12) [239, 67, 179] from World.ownsRow.kept HBROW8.out HCO.out.grown (by
              right
              intro e
              have h1 := HVS.out b3 e.symm
              have h2 := (HBL.out b3 rfl).2
              omega))
            have HROWC := Lib.hid (show IR wC Sb (.slice A12' k12 c12') (outsT (acc ++ ms)) by rw [outsT_app, HZ0.out, HZ2.out]; exact HCO.out.row)
            have hsC := HCO.out.grown.size
            have hlen : (outsT (acc ++ ms)).length ≤ 16 * (K + 1) := by
              have h1 := outsT_len ms HSM8.out
              rw [outsT_app, List.length_append, HZ0.out, HK9.out, ]
              have h2 := HM8.out
              omega
            clear HCO HD8 HB8 HBROW8 HO8 HSM8 HVR HVB HVF HVS HZL HK9 HZ0 HZ2 HK12
            go_wp2_with fail
            go_roundw
            case rel => exact ⟨K + 1, rest, _, sc', _, G', F', by omega, by go_num, HDS2, HDC, HGG8, HBROWC, HROWC, HNC, HBC, by omega, hlen⟩
            case measure => simp [intOf]; omega
          have hm' : m < m8 := by omega
          have hm1 : m < ms.length := by rw [← HM8.out]; exact hm'
          have m3 : (0 : Int) ≤ m := by omega
          have m4 : (m : Int) < m8 := by omega
          have h2r := hco.out.tks HO8.out HVB.out
          obtain ⟨g, cg, hgv⟩ : ∃ g c', Value.slice A8 m8 c8 = .slice (some ⟨g, 0, none⟩) m8 c' := by
            obtain ⟨xs, hown, _⟩ := HO8.out
            rcases hown.2 with ⟨_, h2⟩ | ⟨g, cap, cur, h1, _⟩
            · omega
            · rw [← HM8.out] at h1
              exact ⟨g, cap, h1⟩
          obtain ⟨rfl, rfl⟩ : A8 = some ⟨g, 0, none⟩ ∧ c8 = cg := by injection hgv with a b c; exact ⟨a, c⟩
          clear hgv
          obtain ⟨A7, n7, c7, q0, q1, q2, q3, hn7, hu7, -⟩ := h2r.cellsAt (k := m) hm1
          have h78 := HSM8.out _ (List.getElem_mem hm1)
          have hnx : zs0 ++ outsT (ms.take (m + 1)) = (zs0 ++ outsT (ms.take m)) ++ ms[m].out := by rw [outsT_take hm1, List.append_assoc]
          have hzl : (zs0 ++ outsT (ms.take m)).length ≤ 100000 := by
            have h1 := outsT_len (ms.take m) fun t ht => HSM8.out t (List.mem_of_mem_take ht)
            have h2 := HZL.out
            rw [List.length_take] at h1
            rw [List.length_append]
            omega
          obtain ⟨t, ht⟩ : ∃ t, ms[m] = t := ⟨_, rfl⟩
          rw [ht] at q0 q1 q3 hn7 hu7 hnx h78
          obtain ⟨tp', tz, tu, te'⟩ := t
          simp only at q0 q1 q3 hn7 hu7 hnx h78
          obtain ⟨zs', hzs'⟩ : ∃ zs', zs0 ++ outsT (ms.take m) = zs' := ⟨_, rfl⟩
          rw [hzs'] at hco hnx hzl
          have hi := hco.out.row
          obtain ⟨A10, c10, rfl, -, -⟩ := hi.form
          obtain ⟨k10, hk10⟩ : ∃ k, zs'.length = k := ⟨_, rfl⟩
          rw [hk10] at hi hco ⊢
          have hba : Below wr.heap.size wr (wr.alloc (.cells #[.int .i64 tp', .int .i64 tz, .slice A7 n7 c7, .int .i64 te'] 44)) := (Below.refl _ wr).alloc (Nat.le_refl _) _
          have HI9 := Lib.hid (hi.below hba (Nat.le_refl _))
          obtain ⟨p1, c1', e1, g1, g2, g3⟩ := hu7
          obtain ⟨rfl, rfl⟩ : A7 = p1 ∧ c7 = c1' := by injection e1 with a b c; exact ⟨a, c⟩
          have HR9 := Lib.hid (Rd.below (g3.rd (Nat.le_refl _)) hba (Nat.le_refl _))
          have HQ := Held.new wr #[.int .i64 tp', .int .i64 tz, .slice A7 n7 c7, .int .i64 te'] 44
          have x2' := HQ.cell 2
          have E7 := Lib.hid hn7
          have HNX := Lib.hid hnx
          have hgs := hco.out.grown.size
          have hSb : Sb ≤ (wr.alloc (.cells #[.int .i64 tp', .int .i64 tz, .slice A7 n7 c7, .int .i64 te'] 44)).heap.size := by have := hba.size; omega
          have hl9 : zs'.length + tu.length ≤ 17592186044416 := by omega
          have HL9 := Lib.hid hl9
          have HCO := Lib.hid hco.out
          have HBA := Lib.hid hba
          clear hi hba hn7 e1 g1 g2 g3 HQ ht hnx hmn h2r h78 hzs' hm1 hzl hl9 hco hk10 
          go_wp2_with (at_builtin; refine wpList_appIo rfl _ _ rfl Sb (.slice A10 k10 c10) zs' rfl HI9.out A7 n7 c7 tu rfl E7.out _ HR9.out HL9.out hSb ?_)
          intro v9 w9 HI10 HG10 HV10
          have HC9 : Hid (Coll Sb w8 w9 V v9 (zs0 ++ outsT (ms.take (m + 1)))) := by rw [HNX.out]; exact HCO.out.step HBA.out HI10.out HG10.out (by have := HV10.out; simpa using this)
          clear HI9 HR9 HI10 HG10 HV10 HCO HBA
          go_wp2_with fail
          go_roundw
          case rel => exact ⟨m + 1, by omega, by go_num, HC9⟩
          case measure => simp [intOf]; omega
    have hm' : m < m8 := by omega
    have hm1 : m < ms.length := by rw [← HM8.out]; exact hm'
    have m3 : (0 : Int) ≤ m := by omega
    have m4 : (m : Int) < m8 := by omega
    have h2r := hco.out.tks HO8.out HVR.out
    obtain ⟨g, cg, hgv⟩ : ∃ g c', Value.slice A8 m8 c8 = .slice (some ⟨g, 0, none⟩) m8 c' := by
      obtain ⟨xs, hown, _⟩ := HO8.out
      rcases hown.2 with ⟨_, h2⟩ | ⟨g, cap, cur, h1, _⟩
      · omega
      · rw [← HM8.out] at h1
        exact ⟨g, cap, h1⟩
    obtain ⟨rfl, rfl⟩ : A8 = some ⟨g, 0, none⟩ ∧ c8 = cg := by injection hgv with a b c; exact ⟨a, c⟩
    clear hgv
    obtain ⟨A7, n7, c7, q0, q1, q2, q3, hn7, hu7, -⟩ := h2r.cellsAt (k := m) hm1
    have h78 := HSM8.out _ (List.getElem_mem hm1)
    have hnx : [] ++ outsT (ms.take (m + 1)) = ([] ++ outsT (ms.take m)) ++ ms[m].out := by rw [outsT_take hm1, List.append_assoc]
    have hzl : ([] ++ outsT (ms.take m)).length ≤ 100000 := by
      have h1 := outsT_len (ms.take m) fun t ht => HSM8.out t (List.mem_of_mem_take ht)
      have h2 := HZL.out
      rw [List.length_take] at h1
      rw [List.length_append]
      omega
    obtain ⟨t, ht⟩ : ∃ t, ms[m] = t := ⟨_, rfl⟩
    rw [ht] at q0 q1 q3 hn7 hu7 hnx h78
    obtain ⟨tp', tz, tu, te'⟩ := t
    simp only at q0 q1 q3 hn7 hu7 hnx h78
    obtain ⟨zs', hzs'⟩ : ∃ zs', [] ++ outsT (ms.take m) = zs' := ⟨_, rfl⟩
    rw [hzs'] at hco hnx hzl
    have hi := hco.out.row
    obtain ⟨A10, c10, rfl, -, -⟩ := hi.form
    obtain ⟨k10, hk10⟩ : ∃ k, zs'.length = k := ⟨_, rfl⟩
    rw [hk10] at hi hco ⊢
    have hba : Below wr.heap.size wr (wr.alloc (.cells #[.int .i64 tp', .int .i64 tz, .slice A7 n7 c7, .int .i64 te'] 44)) := (Below.refl _ wr).alloc (Nat.le_refl _) _
    have HI9 := Lib.hid (hi.below hba (Nat.le_refl _))
    obtain ⟨p1, c1', e1, g1, g2, g3⟩ := hu7
    obtain ⟨rfl, rfl⟩ : A7 = p1 ∧ c7 = c1' := by injection e1 with a b c; exact ⟨a, c⟩
    have HR9 := Lib.hid (Rd.below (g3.rd (Nat.le_refl _)) hba (Nat.le_refl _))
    have HQ := Held.new wr #[.int .i64 tp', .int .i64 tz, .slice A7 n7 c7, .int .i64 te'] 44
    have x2' := HQ.cell 2
    have E7 := Lib.hid hn7
    have HNX := Lib.hid hnx
    have hgs := hco.out.grown.size
    have hSb : So ≤ (wr.alloc (.cells #[.int .i64 tp', .int .i64 tz, .slice A7 n7 c7, .int .i64 te'] 44)).heap.size := by have := hba.size; omega
    have hl9 : zs'.length + tu.length ≤ 17592186044416 := by omega
    have HL9 := Lib.hid hl9
    have HCO := Lib.hid hco.out
    have HBA := Lib.hid hba
    clear hi hba hn7 e1 g1 g2 g3 HQ ht hnx hmn h2r h78 hzs' hm1 hzl hl9 hco hk10 
    go_wp2_with (at_builtin; refine wpList_appIo rfl _ _ rfl So (.slice A10 k10 c10) zs' rfl HI9.out A7 n7 c7 tu rfl E7.out _ HR9.out HL9.out hSb ?_)
    intro v9 w9 HI10 HG10 HV10
    have HC9 : Hid (Coll So w5 w9 V v9 ([] ++ outsT (ms.take (m + 1)))) := by rw [HNX.out]; exact HCO.out.step HBA.out HI10.out HG10.out (by have := HV10.out; simpa using this)
    clear HI9 HR9 HI10 HG10 HV10 HCO HBA
    go_wp2_with fail
    go_roundw
    case rel => exact ⟨m + 1, by omega, by go_num, HC9⟩
    case measure => simp [intOf]; omega
end Go.Proofs.YtdkcadckbjncjaaDoor
namespace Go.Proofs.YtdkcadckbjncjaaDoor
set_option linter.unusedVariables false
set_option linter.unusedSimpArgs false
set_option linter.unnecessarySimpa false
open Go.RowKit
set_option maxRecDepth 100000 in
set_option maxHeartbeats 6400000 in
theorem put18_any (w8 : World) (So : Nat) (A9 : Option Addr) (k9 c9 : Nat) (zs0 : List Int) (hv : IR w8 So (.slice A9 k9 c9) zs0) (hSo : So ≤ w8.heap.size) (R8 : Nat) (A8 : Option Addr) (m8 c8 : Nat) (ms : List Tk) (ho : OwnTkB R8 w8 (.slice A8 m8 c8) ms) (hm : m8 = ms.length)
    (hsm : ∀ t ∈ ms, t.out.length ≤ 8) (hml : m8 ≤ 8) (hzl : zs0.length ≤ 40000) (V : Option Nat) (hV : (Value.slice A9 k9 c9).ownBlock = V) (hvr : ∀ b, V = some b → b < R8) :
    Calls Tryd.prog 27 #[.slice A9 k9 c9, .slice A8 m8 c8] w8 fun e w' => ∃ A' k' c', e = .returned (.slice A' k' c') ∧ Coll So w8 w' V (.slice A' k' c') (zs0 ++ outsT ms) := by
  have HC0 : Hid (Coll So w8 w8 V (.slice A9 k9 c9) (zs0 ++ outsT (ms.take 0))) := by
    show Coll _ _ _ _ _ _
    rw [← hV, show zs0 ++ outsT (ms.take 0) = zs0 by simp [outsT]]
    exact Coll.start hv
  have HO8 := Lib.hid ho
  have HM8 := Lib.hid hm
  have HSM8 := Lib.hid hsm
  have HZL := Lib.hid hzl
  have HVR := Lib.hid hvr
  clear hv ho hm hsm hzl hvr hV
  go_enter Tryd.func27, Tryd.ntmps27
  go_wp2_with fail
  go_loopw [0, 9] (fun v j wx => ∃ m : Nat, m ≤ m8 ∧ j = .int .i64 m ∧ Hid (Coll So w8 wx V v (zs0 ++ outsT (ms.take m)))) (fun _ j _ => m8 - (intOf j).toNat)
  case atStart => exact ⟨0, by omega, rfl, HC0⟩
  case round =>
    clear HC0
    obtain ⟨m, hm, rfl, hco⟩ := hrel
    by_cases hmn : m = m8
    · have hm' : ¬ m < m8 := by omega
      have hco2 := hco.out
      rw [List.take_of_length_le (by have := HM8.out; omega)] at hco2
      have HCO := Lib.hid hco2
      obtain ⟨A12, c12, rfl, -, -⟩ := hco2.row.form
      obtain ⟨wC, rfl⟩ : ∃ wC : World, wC = wr := ⟨_, rfl⟩
      obtain ⟨zs2, hzs2⟩ : ∃ z, zs0 ++ outsT ms = z := ⟨_, rfl⟩
      rw [hzs2] at HCO ⊢
      have HZ2 := Lib.hid hzs2
      obtain ⟨k12, hk12⟩ : ∃ k, zs2.length = k := ⟨_, rfl⟩
      rw [hk12] at HCO ⊢
      have HK12 := Lib.hid hk12
      clear hmn hco hco2 hzs2 hk12
      clear HM8 HSM8 HO8 HZL HVR
      rw [← HK12.out, ← HZ2.out] at HCO
      have HL := Lib.hid (show k12 = (zs0 ++ outsT ms).length by rw [HZ2.out]; exact HK12.out.symm)
      clear HZ2 HK12
      go_wp2
      go_ret
      exact ⟨A12, k12, c12, rfl, by rw [HL.out]; exact HCO.out⟩
    have hm' : m < m8 := by omega
    have hm1 : m < ms.length := by rw [← HM8.out]; exact hm'
    have m3 : (0 : Int) ≤ m := by omega
    have m4 : (m : Int) < m8 := by omega
    have h2r := hco.out.tks HO8.out HVR.out
    obtain ⟨g, cg, hgv⟩ : ∃ g c', Value.slice A8 m8 c8 = .slice (some ⟨g, 0, none⟩) m8 c' := by
      obtain ⟨xs, hown, _⟩ := HO8.out
      rcases hown.2 with ⟨_, h2⟩ | ⟨g, cap, cur, h1, _⟩
      · omega
      · rw [← HM8.out] at h1
        exact ⟨g, cap, h1⟩
    obtain ⟨rfl, rfl⟩ : A8 = some ⟨g, 0, none⟩ ∧ c8 = cg := by injection hgv with a b c; exact ⟨a, c⟩
    clear hgv
    obtain ⟨A7, n7, c7, q0, q1, q2, q3, hn7, hu7, -⟩ := h2r.cellsAt (k := m) hm1
    have h78 := HSM8.out _ (List.getElem_mem hm1)
    have hnx : zs0 ++ outsT (ms.take (m + 1)) = (zs0 ++ outsT (ms.take m)) ++ ms[m].out := by rw [outsT_take hm1, List.append_assoc]
    have hzl : (zs0 ++ outsT (ms.take m)).length ≤ 100000 := by
      have h1 := outsT_len (ms.take m) fun t ht => HSM8.out t (List.mem_of_mem_take ht)
      have h2 := HZL.out
      rw [List.length_take] at h1
      rw [List.length_append]
      omega
    obtain ⟨t, ht⟩ : ∃ t, ms[m] = t := ⟨_, rfl⟩
    rw [ht] at q0 q1 q3 hn7 hu7 hnx h78
    obtain ⟨tp', tz, tu, te'⟩ := t
    simp only at q0 q1 q3 hn7 hu7 hnx h78
    obtain ⟨zs', hzs'⟩ : ∃ zs', zs0 ++ outsT (ms.take m) = zs' := ⟨_, rfl⟩
    rw [hzs'] at hco hnx hzl
    have hi := hco.out.row
    obtain ⟨A10, c10, rfl, -, -⟩ := hi.form
    obtain ⟨k10, hk10⟩ : ∃ k, zs'.length = k := ⟨_, rfl⟩
    rw [hk10] at hi hco ⊢
    have hba : Below wr.heap.size wr (wr.alloc (.cells #[.int .i64 tp', .int .i64 tz, .slice A7 n7 c7, .int .i64 te'] 44)) := (Below.refl _ wr).alloc (Nat.le_refl _) _
    have HI9 := Lib.hid (hi.below hba (Nat.le_refl _))
    obtain ⟨p1, c1', e1, g1, g2, g3⟩ := hu7
    obtain ⟨rfl, rfl⟩ : A7 = p1 ∧ c7 = c1' := by injection e1 with a b c; exact ⟨a, c⟩
    have HR9 := Lib.hid (Rd.below (g3.rd (Nat.le_refl _)) hba (Nat.le_refl _))
    have HQ := Held.new wr #[.int .i64 tp', .int .i64 tz, .slice A7 n7 c7, .int .i64 te'] 44
    have x2' := HQ.cell 2
    have E7 := Lib.hid hn7
    have HNX := Lib.hid hnx
    have hgs := hco.out.grown.size
    have hSb : So ≤ (wr.alloc (.cells #[.int .i64 tp', .int .i64 tz, .slice A7 n7 c7, .int .i64 te'] 44)).heap.size := by have := hba.size; omega
    have hl9 : zs'.length + tu.length ≤ 17592186044416 := by omega
    have HL9 := Lib.hid hl9
    have HCO := Lib.hid hco.out
    have HBA := Lib.hid hba
    clear hi hba hn7 e1 g1 g2 g3 HQ ht hnx hmn h2r h78 hzs' hm1 hzl hl9 hco hk10 
    go_wp2_with (at_builtin; refine wpList_appIo rfl _ _ rfl So (.slice A10 k10 c10) zs' rfl HI9.out A7 n7 c7 tu rfl E7.out _ HR9.out HL9.out hSb ?_)
    intro v9 w9 HI10 HG10 HV10
    have HC9 : Hid (Coll So w8 w9 V v9 (zs0 ++ outsT (ms.take (m + 1)))) := by rw [HNX.out]; exact HCO.out.step HBA.out HI10.out HG10.out (by have := HV10.out; simpa using this)
    clear HI9 HR9 HI10 HG10 HV10 HCO HBA
    go_wp2_with fail
    go_roundw
    case rel => exact ⟨m + 1, by omega, by go_num, HC9⟩
    case measure => simp [intOf]; omega
/-- two Encoders, x and y; va, vb: what they wrote -/
def TwoE (I : IsApi) (S1 R : Nat) (w : World) (px : Nat) (qx : List Int) (ax : Int) (hx : List Int) (sx : Int) (py : Nat) (qy : List Int) (ay : Int) (hy : List Int) (sy : Int) (va vb : Value) (za zb : List Int) : Prop :=
  ∃ Gx Fx Gy Fy : Nat → Prop, I.E Gx Fx w px qx ax hx sx ∧ I.E Gy Fy w py qy ay hy sy ∧ IR w R va za ∧ IR w R vb zb ∧ (NotIn Fx va ∧ NotIn Fx vb ∧ NotIn Fy va ∧ NotIn Fy vb) ∧ (∀ g, va.ownBlock = some g → vb.ownBlock ≠ some g) ∧
    (∀ b, Fx b → ¬ Gy b) ∧ (∀ b, Fy b → ¬ Gx b) ∧ (∀ b, Fx b → S1 ≤ b) ∧ (∀ b, Fy b → S1 ≤ b)
section
variable {I : IsApi} {S1 R B : Nat} {w w8 w9 : World} {px py : Nat} {qx hx qy hy q' ah' : List Int} {ax sx ay sy a' s' : Int} {va vb v' v8 : Value} {za zb zs' : List Int} {Gx Gy G' Fx Fy F' : Nat → Prop} {fr : Prop}
theorem ir_kept {base : Nat} {v : Value} {zs : List Int} {row : Option Nat} (h : IR w base v zs) (hg : w.grownBy w8 row) (hne : ∀ g, row = some g → v.ownBlock ≠ some g) : IR w8 base v zs :=
  World.ownsRow.kept h hg (by
    rcases hv : v.ownBlock with _ | b
    · exact .inl rfl
    · exact .inr (fun e => hne b e.symm hv))
theorem TwoE.stepx (hgf : ∀ b, Gx b → Fx b) (hEy : I.E Gy Fy w py qy ay hy sy) (hA : IR w R va za) (hB : IR w R vb zb) (hn : NotIn Fx va ∧ NotIn Fx vb ∧ NotIn Fy va ∧ NotIn Fy vb) (hne : ∀ g, va.ownBlock = some g → vb.ownBlock ≠ some g)
    (ffx : ∀ b, Fx b → ¬ Gy b) (ffy : ∀ b, Fy b → ¬ Gx b) (fsx : ∀ b, Fx b → S1 ≤ b) (fsy : ∀ b, Fy b → S1 ≤ b) (hS : S1 ≤ w.heap.size)
    (hE : I.E G' F' w8 px q' a' ah' s') (hT : Told Gx G' Fx F' w w8 v8 B fr) (hc : Coll R w8 w9 va.ownBlock v' zs') :
    TwoE I S1 R w9 px q' a' ah' s' py qy ay hy sy v' vb zs' zb := by
  obtain ⟨n1, n2, n3, n4⟩ := hn
  have hF := hT.news
  have hm := hT.mid
  have hva : ∀ b, va.ownBlock = some b → b < w.heap.size := fun b e => (hA.lt e).2
  have hvb : ∀ b, vb.ownBlock = some b → b < w.heap.size := fun b e => (hB.lt e).2
  have hEy8 := eMid hEy hm ffy
  have hfy := (I.efoot hEy8).2
  have hfx := (I.efoot hE).2
  have m1 := n1.put hF hva
  have m2 := n2.put hF hvb
  refine ⟨G', F', Gy, Fy, eGrown hE hc.grown m1, eGrown hEy8 hc.grown n3, hc.row, ir_kept (hB.toldN hT hgf n2) hc.grown hne, ⟨hc.notIn m1 fun b hb => hfx b hb, m2, hc.notIn n3 fun b hb => hfy b hb, n4⟩, ?_, apart_toldF hT ffx (fun b hb => (I.efoot hEy).2 b ((I.efoot hEy).1 b hb)), apart_told hT ffy (I.efoot hEy).2, ?_, fsy⟩
  · intro g e e2
    rcases hc.at_ with h | ⟨b, h, hb⟩
    · exact hne g (h.symm.trans e) e2
    · rw [h] at e; injection e with e
      have := hvb g e2
      have := hm.size
      omega
  · intro b hb
    rcases hF b hb with h | h
    · exact fsx b h
    · omega
theorem TwoE.stepy (hgf : ∀ b, Gy b → Fy b) (hEx : I.E Gx Fx w px qx ax hx sx) (hA : IR w R va za) (hB : IR w R vb zb) (hn : NotIn Fx va ∧ NotIn Fx vb ∧ NotIn Fy va ∧ NotIn Fy vb) (hne : ∀ g, va.ownBlock = some g → vb.ownBlock ≠ some g)
    (ffx : ∀ b, Fx b → ¬ Gy b) (ffy : ∀ b, Fy b → ¬ Gx b) (fsx : ∀ b, Fx b → S1 ≤ b) (fsy : ∀ b, Fy b → S1 ≤ b) (hS : S1 ≤ w.heap.size)
    (hE : I.E G' F' w8 py q' a' ah' s') (hT : Told Gy G' Fy F' w w8 v8 B fr) (hc : Coll R w8 w9 vb.ownBlock v' zs') :
    TwoE I S1 R w9 px qx ax hx sx py q' a' ah' s' va v' za zs' := by
  obtain ⟨n1, n2, n3, n4⟩ := hn
  have hF := hT.news
  have hm := hT.mid
  have hva : ∀ b, va.ownBlock = some b → b < w.heap.size := fun b e => (hA.lt e).2
  have hvb : ∀ b, vb.ownBlock = some b → b < w.heap.size := fun b e => (hB.lt e).2
  have hEx8 := eMid hEx hm ffx
  have hfx := (I.efoot hEx8).2
  have hfy := (I.efoot hE).2
  have m3 := n3.put hF hva
  have m4 := n4.put hF hvb
  refine ⟨Gx, Fx, G', F', eGrown hEx8 hc.grown n2, eGrown hE hc.grown m4, ir_kept (hA.toldN hT hgf n3) hc.grown (fun g e e2 => hne g e2 e), hc.row, ⟨n1, hc.notIn n2 fun b hb => hfx b hb, m3, hc.notIn m4 fun b hb => hfy b hb⟩, ?_, apart_told hT ffx (I.efoot hEx).2, apart_toldF hT ffy (fun b hb => (I.efoot hEx).2 b ((I.efoot hEx).1 b hb)), fsx, ?_⟩
  · intro g e e2
    rcases hc.at_ with h | ⟨b, h, hb⟩
    · exact hne g e (h.symm.trans e2)
    · rw [h] at e2; injection e2 with e2
      have := hva g e
      have := hm.size
      omega
  · intro b hb
    rcases hF b hb with h | h
    · exact fsy b h
    · omega
end
end Go.Proofs.YtdkcadckbjncjaaDoor
