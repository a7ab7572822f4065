/- MatchSoon: the walk. -/
import Derived.Test.YtmjcnopkckkaoaaMatE
import Derived.Test.YtmjcnopkckkaoaaMatchS
import Derived.Test.YtmjcnopkckkaoaaRuleK
import Derived.Test.YtmjcnopkckkaoaaTrieP
namespace Go.Proofs.Ytmjcnopkckkaoaa
set_option linter.unusedVariables false
open Go.RowKit
theorem slice_mid (b o M c K R : Nat) (h1 : K + 1 ≤ M) (h2 : M ≤ c) (h3 : R ≤ K + 1) (hc : c ≤ 2 ^ 63 - 1) : ∃ ad cp, (∀ W : World, (Instr.sliceAt 24 (.slice (some ⟨b, o, none⟩) M c) (some (.int .i64 ((K : Int) + 1 - R))) (some (.int .i64 ((K : Int) + 1))) none).run Try.prog W = .ok (.slice ad R cp) W) ∧ R ≤ cp ∧ cp ≤ c ∧ (0 < R → ad = some ⟨b, o + (K + 1 - R), none⟩) := by
  have e1 : (K : Int) + 1 - R = ((K + 1 - R : Nat) : Int) := by omega
  have e2 : (K : Int) + 1 = ((K + 1 : Nat) : Int) := by omega
  obtain ⟨D, hD⟩ : ∃ D, K + 1 - R = D := ⟨_, rfl⟩
  obtain ⟨E, hE⟩ : ∃ E, K + 1 = E := ⟨_, rfl⟩
  rw [e1, e2, hD, hE]
  have hR : E - D = R := by omega
  have g1 : (0 : Int) ≤ D := by omega
  have g2 : (D : Int) ≤ E := by omega
  have g3 : (E : Int) ≤ c := by omega
  by_cases h : c = D
  · refine ⟨some ⟨b, o, none⟩, c - D, fun W => ?_, by omega, by omega, fun h => by omega⟩
    rw [← hR]
    clear hR hD hE e1 e2
    subst h
    go_simp
  · refine ⟨some ⟨b, o + D, none⟩, c - D, fun W => ?_, by omega, by omega, fun h => rfl⟩
    rw [← hR]
    clear hR hD hE e1 e2
    go_simp
set_option maxHeartbeats 6400000 in
theorem matchSoon_any (n : Nat) (A : Option Addr) (c : Nat) (rows : List RowL) (A' : Option Addr) (c' : Nat) (zs : List Int) (w : World) (hr : RwAt w w.heap.size A n c rows) (hz : Rd w w.heap.size A' (zs.map (Value.int .u8))) (hzr : ∀ z ∈ zs, 0 ≤ z ∧ z ≤ 255) (hzc : zs.length ≤ c') (hzm : c' ≤ maxLen) :
    Calls Try.prog 7 #[.slice A n c, .slice A' zs.length c'] w fun e w' => e = .returned (.bool true) ∧ Below w.heap.size w w' := by
  obtain ⟨rs, hrs⟩ : ∃ rs, rightR (rulesR rows) = rs := ⟨_, rfl⟩
  have hck := (right_rules rows).1
  have h40 := (right_rules rows).2
  rw [hrs] at hck h40
  obtain ⟨N, hN⟩ : ∃ N, N = rs.length := ⟨_, rfl⟩
  obtain ⟨Z, hZ⟩ : ∃ Z, Z = zs.length := ⟨_, rfl⟩
  obtain ⟨us, hus⟩ : ∃ us, somM zs = us := ⟨_, rfl⟩
  obtain ⟨M, hM⟩ : ∃ M, us.length = M := ⟨_, rfl⟩
  have hM60 : M ≤ 60 := by rw [← hM, ← hus]; exact somM_len zs
  have hg := good_of hck
  rw [← hZ] at hzc ⊢
  rw [← hN] at h40
  unfold maxLen at hzm
  have HR := Lib.hid hr
  have HRS := Lib.hid hrs
  have HCK := Lib.hid hck
  have HGD := Lib.hid hg
  have HN := Lib.hid hN
  have HZ := Lib.hid hz
  have HZR := Lib.hid hzr
  have HZL := Lib.hid hZ
  have HUS := Lib.hid hus
  have HM := Lib.hid hM
  clear hr hrs hck hN hz hzr hZ hus hM hg
  go_enter Try.func7, Try.ntmps7
  go_wp2_with fail
  refine (rawake6_any _).mono ?_
  rintro e w1 ⟨rfl, hb1⟩
  have hs1 := hb1.size
  go_wp2_with fail
  refine (right_any n A c rows w1.heap.size _ (HR.out.below hb1 hs1) (Nat.le_refl _) rs HRS.out).mono ?_
  rintro e w2 ⟨v2, rfl, ho2, hb2⟩
  have hs2 := hb2.size
  obtain ⟨A2, c2, rfl, hat2⟩ := ho2.form
  rw [← HN.out] at hat2 ⊢
  have HAT2 := Lib.hid hat2
  clear ho2 hat2
  go_wp2_with fail
  refine (of_ok N A2 c2 rs w2.heap.size _ HAT2.out (Nat.le_refl _) HCK.out).mono ?_
  rintro e w3 ⟨T, rfl, ho, hb3⟩
  have hs3 := hb3.size
  have HO := Lib.hid ho
  have HAT3 := Lib.hid (HAT2.out.below hb3 hs3)
  have hbE3 : Below w.heap.size w w3 := hb1.trans ((hb2.trans (hb3.mono hs2)).mono hs1)
  have hsE := hbE3.size
  clear ho hb1 hb2 hb3
  go_wp2_with fail
  refine (mof_any w3 T).mono ?_
  rintro e w4 ⟨p, rfl, hp, hm4, hb4⟩
  have hs4 := hb4.size
  have hp4 := hm4.lt
  have HM4 := Lib.hid hm4
  have HB4 := Lib.hid hb4
  have hbE4 := hbE3.trans (hb4.mono hsE)
  have hsE4 := hbE4.size
  clear hb4 hm4
  go_wp2_with fail
  refine (some_any Z A' c' zs w.heap.size w4 HZL.out (HZ.out.below hbE4 (Nat.le_refl _)) HZR.out hsE4 (by omega) hzc us M HUS.out HM.out).mono ?_
  rintro e w5 ⟨A5, c5, rfl, hu5, hb5⟩
  have hs5 := hb5.size
  have hu5' : Us (fun b => b ≠ p) w5 (.slice A5 M c5) us := hu5.step (Nat.le_refl _) fun b _ hx => ⟨by have : w4.heap.size ≤ b := hx; omega, rfl⟩
  have HU5 := Lib.hid hu5'
  obtain ⟨q1, q2, q3, q4⟩ := hu5.rd
  have HM5 := Lib.hid (HM4.out.below hb5 hp4)
  have HB5 := Lib.hid (HB4.out.trans (hb5.mono hs4))
  have hbE5 := hbE4.trans (hb5.mono hsE4)
  have hsE5 := hbE5.size
  have hs35 : w3.heap.size ≤ w5.heap.size := by omega
  have hp5 : p < w5.heap.size := by omega
  have HO5 := Lib.hid (HO.out.below HB5.out (Nat.le_refl _))
  clear hu5 hu5' q1 q4 hb5 HM4 HB4 HO
  unfold maxLen at q3
  go_wp2
  go_loopw [37] (fun i wr => ∃ (K : Nat) (q : List Int) (st : Int), K ≤ M ∧ i = .int .i64 K ∧ Hid (MS rs us K q st) ∧ Hid (MAt wr p T q ((K : Int) - q.length) st) ∧ Hid (w5.grownBy wr (some p))) (fun i _ => M - (intOf i).toNat)
  case atStart => exact ⟨0, [], 0, by omega, rfl, MS.start _ _, HM5.out, grownR _ _⟩
  case round =>
    obtain ⟨K, q, st, hK, rfl, HS, HMR, HGR⟩ := hrel
    have HUR := Lib.hid (HU5.out.past HGR.out (fun b hb => hb))
    have hsr := HGR.out.size
    by_cases hKn : K = M
    · have hK' : ¬ K < M := by omega
      have hl := HS.out.len
      have hbF := below_grownP hbE5 HGR.out (by omega) hsE5
      clear hKn
      go_wp2_with fail
      refine (mheld_any wr p T _ _ _ HMR.out q.length rfl).mono ?_
      rintro e w' ⟨rfl, rfl⟩
      obtain ⟨L, hL⟩ : ∃ L, q.length = L := ⟨_, rfl⟩
      rw [hL] at hl ⊢
      have hd : decide (L ≤ M) = true := by simp; omega
      go_wp2
      go_ret
      exact ⟨rfl, hbF⟩
    have hK' : K < M := by omega
    have hK1 : K < us.length := by rw [HM.out]; exact hK'
    obtain ⟨q1', q2', q3', q4'⟩ := HUR.out.rd
    obtain ⟨b, o, rfl, hbl, hcell⟩ := rd_ints (q4'.rd (Nat.le_refl wr.heap.size)) (by omega)
    have k1 := hcell K hK1
    obtain ⟨u, hu⟩ : ∃ u, us.getD K 0 = u := ⟨_, rfl⟩
    rw [hu] at k1
    have HUE := Lib.hid hu
    obtain ⟨⟨ts, rest, k⟩, hd⟩ : ∃ x, drain rs ((K : Int) - q.length) (q ++ [u]) = x := ⟨_, rfl⟩
    have hst := HS.out.step (ts := ts) (rest := rest) (k := k) (at_ := (K : Int) - q.length) HGD.out hK1 (by rw [hu]; exact hd)
    have hlen := HS.out.len
    have hstp := HS.out.steps
    have hq7 := opens_lt HGD.out HS.out.open_
    have HD := Lib.hid hd
    have HS2 := Lib.hid hst.1
    have hts8 := hst.2.1
    have hr7 := hst.2.2
    have hlen2 := hst.1.len
    have e4 : (0 : Int) ≤ K := by omega
    have e5 : (K : Int) < M := by omega
    have HBR := Lib.hid (below_of HGR.out hp hs35)
    clear hcell hu hd hst q1' q4'
    go_wp2_with fail
    refine (mput_any wr p T q _ st u HMR.out hq7 w3.heap.size rs (HO5.out.below HBR.out (Nat.le_refl _)) hp (by omega) (by omega) (by omega) (by omega) ts rest k HD.out).mono ?_
    rintro e w6 ⟨v6, rfl, _, hm6, hg6⟩
    rw [show (K : Int) - q.length + q.length + 1 - rest.length = ((K + 1 : Nat) : Int) - rest.length from by omega] at hm6
    have HM6 := Lib.hid hm6
    have HG6 := Lib.hid (grown_seq HGR.out hg6)
    have HU6 := Lib.hid (HUR.out.past hg6 (fun b hb => hb))
    have hs6 := hg6.size
    clear hm6 hg6
    go_wp2_with fail
    refine (mheld_any w6 p T _ _ _ HM6.out rest.length rfl).mono ?_
    rintro e w' ⟨rfl, rfl⟩
    have hlast := HS2.out.last
    have hl2 : (us.take (K + 1)).drop (K + 1 - rest.length) = rest := by
      rcases hlast with h | h
      · exact h
      · omega
    have hop := HS2.out.open_
    obtain ⟨R, hR⟩ : ∃ R, rest.length = R := ⟨_, rfl⟩
    rw [hR] at hl2 hlen2 hr7 ⊢
    have hgt : ¬ (K + 1 < R) := by omega
    obtain ⟨k1, l1, o1, hlo, _⟩ := HGD.out.long rest
    have hro : 0 < R → o1 = true := by
      intro h
      rcases hop with e | e
      · rw [e] at hR; simp at hR; omega
      · unfold opens at e; rw [hlo] at e; exact e
    have hrd : Rd w6 w6.heap.size (some ⟨b, o + (K + 1 - R), none⟩) (rest.map (Value.int .i64)) := by
      obtain ⟨q1', q2', q3', q4'⟩ := HU6.out.rd
      obtain ⟨b', o', he, hbl', hcell⟩ := rd_ints (q4'.rd (Nat.le_refl w6.heap.size)) (by omega)
      injection he with he
      injection he with he1 he2
      subst he1 he2
      refine .inr ⟨b, o + (K + 1 - R), rfl, hbl', fun j hj => ?_⟩
      rw [List.length_map, hR] at hj
      have hc := hcell (K + 1 - R + j) (by rw [HM.out]; omega)
      rw [Nat.add_assoc]
      refine hc.trans ?_
      rw [List.getElem?_map, ← hl2, List.getElem?_drop, List.getElem?_take, if_pos (by omega), List.getD_eq_getElem?_getD, List.getElem?_eq_getElem (by rw [HM.out]; omega)]
      rfl
    have HLO := Lib.hid hlo
    have HRL := Lib.hid hR
    have HRO := Lib.hid hro
    have HRD := Lib.hid hrd
    have HB6 := Lib.hid (below_of HG6.out hp hs35)
    clear hlast hl2 hop hlo hro hrd hR
    obtain ⟨ad, cp, hsl, hcp1, hcp2, had⟩ := slice_mid b o M c5 K R (by omega) q2 hlen2 q3
    have hRD : Rd w6 w6.heap.size ad (rest.map (Value.int .i64)) := by
      by_cases h : 0 < R
      · rw [had h]; exact HRD.out
      · left
        rw [List.map_eq_nil_iff]
        exact List.eq_nil_of_length_eq_zero (by rw [HRL.out]; omega)
    have HRD2 := Lib.hid hRD
    clear hRD had
    go_wp2_with fail
    refine (long_ok w6 w3.heap.size T rs (HO5.out.below HB6.out (Nat.le_refl _)) (by omega) R ad cp rest w6.heap.size HRL.out.symm HRD2.out (Nat.le_refl _) hcp1 (by unfold maxLen; omega) k1 l1 o1 HLO.out).mono ?_
    rintro en w7 ⟨rfl, hb7⟩
    have hs7 := hb7.size
    have HM7 := Lib.hid (HM6.out.below hb7 (by omega))
    have HG7 := Lib.hid (grown_seq HG6.out (grown_below (p := some p) hb7))
    clear hb7 hsl
    by_cases hR0 : 0 < R
    · obtain rfl := HRO.out hR0
      go_wp2
      go_roundw
      case rel => exact ⟨K + 1, rest, st + k, by omega, by go_num, HS2, HM7, HG7⟩
      case measure => simp [intOf]; omega
    · go_wp2
      go_roundw
      case rel => exact ⟨K + 1, rest, st + k, by omega, by go_num, HS2, HM7, HG7⟩
      case measure => simp [intOf]; omega
end Go.Proofs.Ytmjcnopkckkaoaa
