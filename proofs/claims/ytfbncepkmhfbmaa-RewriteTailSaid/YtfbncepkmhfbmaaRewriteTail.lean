/- RewriteTail: the walk. -/
import Derived.Test.YtfbncepkmhfbmaaRewE
import Derived.Test.YtfbncepkmhfbmaaTrieP
import Derived.Test.YtfbncepkmhfbmaaTokSame
import Derived.Test.YtfbncepkmhfbmaaTokSet
namespace Go.Proofs.Ytfbncepkmhfbmaa
set_option linter.unusedVariables false
open Go.RowKit
set_option maxHeartbeats 6400000 in
theorem rewriteTail_any (q : Int) (hq : 0 ≤ q ∧ q ≤ 255) (n : Nat) (A : Option Addr) (c : Nat) (rows : List RowL) (A' : Option Addr) (c' : Nat) (zs : List Int) (w : World) (hr : RwAt w w.heap.size A n c rows) (hz : Rd w w.heap.size A' (zs.map (Value.int .u8))) (hzr : ∀ z ∈ zs, 0 ≤ z ∧ z ≤ 255) (hzc : zs.length ≤ c') (hzm : c' ≤ maxLen) :
    Calls Try.prog 6 #[.slice A n c, .slice A' zs.length c', .int .u8 q] w fun e w' => e = .returned (.bool true) ∧ Below w.heap.size w w' := by
  obtain ⟨rs, hrs⟩ : ∃ rs, rightR (rulesR rows) = rs := ⟨_, rfl⟩
  have hck := (right_rules rows).1
  have h40 := (right_rules rows).2
  rw [hrs] at hck h40
  obtain ⟨N, hN⟩ : ∃ N, N = rs.length := ⟨_, rfl⟩
  obtain ⟨Z, hZ⟩ : ∃ Z, Z = zs.length := ⟨_, rfl⟩
  obtain ⟨us, hus⟩ : ∃ us, somM zs = us := ⟨_, rfl⟩
  obtain ⟨M, hM⟩ : ∃ M, us.length = M := ⟨_, rfl⟩
  have hM60 : M ≤ 60 := by rw [← hM, ← hus]; exact somM_len zs
  obtain ⟨ts, hts⟩ : ∃ ts, rewA rs 0 us = ts := ⟨_, rfl⟩
  obtain ⟨L, hL⟩ : ∃ L, ts.length = L := ⟨_, rfl⟩
  have hg := good_of hck
  have hL60 : L ≤ 60 := by have := hg.rew_len us 0; rw [hts, hL] at this; omega
  have HTG := Lib.hid hg.rew_tail
  have htl := hg.rew_tail us 0
  have hsh := hg.rew_shift
  have hrl := hg.rew_len
  rw [hts] at htl
  have hM0 : L = 0 → M = 0 := fun h => by
    rcases List.eq_nil_or_concat us with e | ⟨l, x, e⟩
    · rw [← hM, e]; rfl
    · have := rewA_ne (rs := rs) (at_ := 0) (us := us) (by rw [e]; simp)
      rw [hts] at this
      exact absurd (List.eq_nil_of_length_eq_zero (hL.trans h)) this
  rw [← hZ] at hzc ⊢
  rw [← hN] at h40
  unfold maxLen at hzm
  have HR := Lib.hid hr
  have HRS := Lib.hid hrs
  have HCK := Lib.hid hck
  have HN := Lib.hid hN
  have HZ := Lib.hid hz
  have HZR := Lib.hid hzr
  have HZL := Lib.hid hZ
  have HUS := Lib.hid hus
  have HM := Lib.hid hM
  have HTS := Lib.hid hts
  have HL := Lib.hid hL
  have HTL := Lib.hid htl
  have HSH := Lib.hid hsh
  have HRL := Lib.hid hrl
  have HM0 := Lib.hid hM0
  clear hr hrs hck hN hz hzr hZ hus hM hts hL htl hsh hrl hM0 hg
  go_enter Try.func6, Try.ntmps6
  go_wp2_with fail
  refine (rawake5_any _).mono ?_
  rintro e w1 ⟨rfl, hb1⟩
  have hs1 := hb1.size
  go_wp2_with fail
  refine (right_any n A c rows w1.heap.size _ (HR.out.below hb1 hs1) (Nat.le_refl _) rs HRS.out).mono ?_
  rintro e w2 ⟨v2, rfl, ho2, hb2⟩
  have hs2 := hb2.size
  obtain ⟨A2, c2, rfl, hat2⟩ := ho2.form
  rw [← HN.out] at hat2 ⊢
  have HAT2 := Lib.hid hat2
  clear ho2 hat2
  go_wp2_with fail
  refine (of_ok N A2 c2 rs w2.heap.size _ HAT2.out (Nat.le_refl _) HCK.out).mono ?_
  rintro e w3 ⟨T, rfl, ho, hb3⟩
  have hs3 := hb3.size
  have HO := Lib.hid ho
  have hbE3 : Below w.heap.size w w3 := hb1.trans ((hb2.trans (hb3.mono hs2)).mono hs1)
  have hsE := hbE3.size
  clear ho hb1 hb2 hb3
  go_wp2_with fail
  refine (some_any Z A' c' zs w.heap.size w3 HZL.out (HZ.out.below hbE3 (Nat.le_refl _)) HZR.out hsE (by omega) hzc us M HUS.out HM.out).mono ?_
  rintro e w4 ⟨A5, c5, rfl, hu4, hb4⟩
  have hs4 := hb4.size
  obtain ⟨q1, q2, q3, q4⟩ := hu4.rd
  have HU4 := Lib.hid (q4.rd (Nat.le_refl w4.heap.size))
  clear hu4 q1 q4
  go_wp2_with fail
  refine (rew_any w4 w3.heap.size T rs (HO.out.below hb4 (Nat.le_refl _)) hs4 M A5 c5 us w4.heap.size HM.out.symm HU4.out (Nat.le_refl _) q2 q3 (by omega) ts HTS.out).mono ?_
  rintro e w5 ⟨v5, rfl, ho5, hb5⟩
  obtain ⟨A6, c6, rfl, hat⟩ := ho5.form
  rw [HL.out] at hat ⊢
  have hbE5 := hbE3.trans ((hb4.trans (hb5.mono hs4)).mono hsE)
  have hs5 := hbE5.size
  have hc6 := hat.fits
  have hc61 := hat.small
  have HAT := Lib.hid hat
  unfold maxLen at hc61
  have hb35 := hb4.trans (hb5.mono hs4)
  have hs35 := hb35.size
  have HU5 := Lib.hid (HU4.out.below hb5 (Nat.le_refl _))
  have hs45 : w4.heap.size ≤ w5.heap.size := hb5.size
  clear hat ho5 hb4 hb5
  by_cases hL0 : L = 0
  · have hMz := HM0.out hL0
    have e0 : ((L : Int) == 0) = true := by rw [hL0]; rfl
    have e1 : ((M : Int) == 0) = true := by rw [hMz]; rfl
    clear hL0 hMz
    go_wp2
    go_ret
    exact ⟨rfl, hbE5⟩
  have e0 : ((L : Int) == 0) = false := by rw [beq_eq_false_iff_ne]; omega
  obtain ⟨K, hK⟩ : ∃ K : Nat, q % (L : Int) = K := ⟨(q % (L : Int)).toNat, by have := Int.emod_nonneg q (show (L : Int) ≠ 0 by omega); omega⟩
  have hKL : K < L := by have := Int.emod_lt_of_pos q (show (0 : Int) < L by omega); omega
  have hK1 : K < ts.length := by rw [HL.out]; exact hKL
  obtain ⟨t1, t2, t3⟩ := HTL.out K _ (List.getElem?_eq_getElem hK1)
  obtain ⟨p, hp⟩ : ∃ p : Nat, ts[K].pos = p := ⟨ts[K].pos.toNat, by omega⟩
  obtain ⟨b, o, rfl, hbB, A1, n1, c1, g1, g2, g3, g4, _, _, _, _⟩ := HAT.out.at hK1
  rw [hp] at g1 t2 t3
  rw [show ((p : Int) - 0).toNat = p from by omega] at t3
  rw [Int.zero_add, HM.out] at t2
  obtain ⟨vs, hvs⟩ : ∃ vs, vs = us.drop p := ⟨_, rfl⟩
  rw [← hvs] at t3
  obtain ⟨tv, htv⟩ : ∃ tv, rewA rs 0 vs = tv := ⟨_, rfl⟩
  have hsv := HSH.out p vs 0
  rw [htv, Int.zero_add, ← t3] at hsv
  have hvl : M - p = vs.length := by rw [hvs, List.length_drop, HM.out]
  have hvl2 : tv.length = L - K := by
    have := congrArg List.length hsv
    rw [List.length_map, List.length_drop, HL.out] at this
    exact this
  have k0 : (0 : Int) ≤ K := by omega
  have k1 : (K : Int) < L := by omega
  have k2 : (0 : Int) ≤ p := by omega
  have k3 : (p : Int) ≤ M := by omega
  have k4 : 1 ≤ L := by omega
  have hcp : ¬ c5 = p := by omega
  have hrd := Rd.drop (k := p) (cap := c5) HU5.out (n := M) (by simp; exact HM.out.symm) (by omega) q2
  rw [← List.map_drop, ← hvs, if_neg hcp] at hrd
  have HRD := Lib.hid hrd
  have HSV := Lib.hid hsv
  have HTV := Lib.hid htv
  have HVL := Lib.hid hvl
  have HVL2 := Lib.hid hvl2
  clear g2 g3 g4 t1 t3 hp hvs htv hsv hvl hvl2 hrd hL0
  unfold maxLen at q3
  go_wp2_with fail
  refine (rew_any w5 w3.heap.size T rs (HO.out.below hb35 (Nat.le_refl _)) hs35 (M - p) _ (c5 - p) vs w4.heap.size HVL.out HRD.out hs45 (by omega) (by unfold maxLen; omega) (by omega) tv HTV.out).mono ?_
  rintro e w6 ⟨v6, rfl, ho6, hb6⟩
  obtain ⟨g, c9, rfl⟩ := ho6.some (by rw [HVL2.out]; omega)
  obtain ⟨R, hR⟩ : ∃ R, R = L - K := ⟨_, rfl⟩
  have HR' : Hid (tv.length = R) := HVL2.out.trans hR.symm
  rw [HR'.out] at ho6 ⊢
  have HO6 := Lib.hid ho6
  have hbs6 := hb6.size
  have g1' := (hb6.cell (p := ⟨b, o + K * 4, none⟩) (by show b < _; omega)).trans g1
  have HG1 := Lib.hid g1
  clear ho6 g1
  go_wp2
  go_loopw [55] (fun i wr => ∃ (J : Nat), J ≤ R ∧ i = .int .i64 J ∧ Hid (OwnTk w5.heap.size wr (.slice (some ⟨g, 0, none⟩) R c9) (mixK p J tv)) ∧ Below w5.heap.size w5 wr) (fun i _ => R - (intOf i).toNat)
  case atStart => exact ⟨0, by omega, rfl, by rw [mixK_zero]; exact HO6, hb6⟩
  case round =>
    obtain ⟨J, hJ, rfl, ho, hb⟩ := hrel
    have hs := hb.size
    by_cases hJR : J = R
    · have hJ' : ¬ J < R := by omega
      have hfin := ho.out
      rw [mixK_all (by rw [HR'.out]; omega), HSV.out] at hfin
      have hRl : R = (ts.drop K).length := by rw [List.length_drop, HL.out, hR]
      obtain ⟨A9, c10, e9, hat9⟩ := hfin.form
      rw [← hRl] at e9 hat9
      injection e9 with e1 e2 e3
      subst e1 e3
      have hatd := (HAT.out.below hb (Nat.le_refl _)).drop K (by omega)
      have hck : ¬ c6 = K := by omega
      rw [if_neg hck, ← hR, show (some (⟨b, o, none⟩ : Addr)).map (·.add (K * 4)) = some ⟨b, o + K * 4, none⟩ from by simp only [Option.map_some]; rw [Go.WideShapes.add_plain]] at hatd
      have HA9 := Lib.hid hat9
      have HAD := Lib.hid hatd
      have hbE := hbE5.trans (hb.mono hs5)
      have k5 : (K : Int) ≤ L := by omega
      clear hat9 hatd hfin hRl hJR
      go_wp2_with fail
      rw [← hR]
      refine (same_below R _ _ _ _ (ts.drop K) wr.heap.size w5.heap.size wr HA9.out HAD.out).mono ?_
      rintro e w8 ⟨rfl, hb8⟩
      have hbF := hbE.trans (hb8.mono hbE.size)
      go_wp2
      go_ret
      exact ⟨rfl, hbF⟩
    have hJ' : J < R := by omega
    have hJ1 : J < tv.length := by rw [HR'.out]; exact hJ'
    obtain ⟨x1, xf⟩ := ho.out.posAt (mixK_at (d := p) hJ1)
    have hz := HTG.out vs 0 J tv[J] (by rw [HTV.out]; exact List.getElem?_eq_getElem hJ1)
    have hz1 := hz.1
    have hz2 := hz.2.1
    rw [← HVL.out] at hz2
    obtain ⟨P, hP⟩ : ∃ P, P = tv[J].pos := ⟨_, rfl⟩
    rw [← hP] at hz1 hz2
    have hw64 : wrap64 (P + p) = P + p := by unfold wrap64; omega
    rw [← hP] at x1
    have hset := ho.out.setPos (mixK_at (d := p) hJ1) (P + p)
    rw [show (mixK p J tv).set J ⟨P + p, tv[J].size, tv[J].out, tv[J].err⟩ = mixK p (J + 1) tv from by rw [← mixK_step hJ1, hP]; rfl] at hset
    have HSET := Lib.hid hset.1
    have hbg := hset.2
    have x2 := (hb.cell (p := ⟨b, o + K * 4, none⟩) (by show b < _; omega)).trans HG1.out
    have e4 : (0 : Int) ≤ J := by omega
    have e5 : (J : Int) < R := by omega
    have hbr : Below w5.heap.size w5 (wr.setCell ⟨g, J * 4, none⟩ (.int .i64 (P + p))) := hb.setCell (by show w5.heap.size ≤ g; omega) _
    have HBR := Lib.hid hbr
    have hbg2 : b ≠ g := by omega
    clear hP hset hJR hbr hz
    go_wp2
    go_region
    go_wp2
    go_roundw
    case rel => exact ⟨J + 1, by omega, by go_num, HSET.out.drew, HBR.out.drew⟩
    case measure => simp [intOf]; omega
end Go.Proofs.Ytfbncepkmhfbmaa
