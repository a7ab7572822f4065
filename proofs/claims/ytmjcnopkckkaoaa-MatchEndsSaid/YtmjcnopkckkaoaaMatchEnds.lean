/- MatchEnds: the walk. -/
import Derived.Test.YtmjcnopkckkaoaaMatL
import Derived.Test.YtmjcnopkckkaoaaTokSet
import Derived.Test.YtmjcnopkckkaoaaTokSame
namespace Go.Proofs.Ytmjcnopkckkaoaa
set_option linter.unusedVariables false
open Go.RowKit
theorem head_slice (A : Option Addr) (L c n : Nat) (h : n ≤ L) (hc : L ≤ c) (hm : c ≤ 2 ^ 63 - 1) : ∀ W : World, (Instr.sliceAt 36 (.slice A L c) none (some (.int .i64 n)) none).run Try.prog W = .ok (.slice A n c) W := fun W => by
  have e2 : (0 : Int) ≤ n := by omega
  have e4 : (n : Int) ≤ c := by omega
  cases A <;> go_simp
theorem tail_slice (A : Option Addr) (L c n : Nat) (h : n ≤ L) (hc : L ≤ c) (hm : c ≤ 2 ^ 63 - 1) : ∃ ad, (∀ W : World, (Instr.sliceAt 36 (.slice A L c) (some (.int .i64 n)) none none).run Try.prog W = .ok (.slice ad (L - n) (c - n)) W) ∧ ad = (if c = n then A else A.map (·.add (n * 4))) := by
  have e2 : (0 : Int) ≤ n := by omega
  have e3 : (n : Int) ≤ L := by omega
  have e4 : (L : Int) ≤ c := by omega
  refine ⟨_, fun W => ?_, rfl⟩
  by_cases h : c = n
  · cases A <;> go_simp
  · cases A <;> go_simp
set_option maxHeartbeats 6400000 in
theorem matchEnds_any (n : Nat) (A : Option Addr) (c : Nat) (rows : List RowL) (A' : Option Addr) (c' : Nat) (zs : List Int) (A7 : Option Addr) (c7 : Nat) (ys : List Int) (w : World) (hr : RwAt w w.heap.size A n c rows) (hz : Rd w w.heap.size A' (zs.map (Value.int .u8))) (hzr : ∀ z ∈ zs, 0 ≤ z ∧ z ≤ 255) (hzc : zs.length ≤ c') (hzm : c' ≤ maxLen) (hy : Rd w w.heap.size A7 (ys.map (Value.int .u8))) (hyr : ∀ z ∈ ys, 0 ≤ z ∧ z ≤ 255) (hyc : ys.length ≤ c7) (hym : c7 ≤ maxLen) :
    Calls Try.prog 6 #[.slice A n c, .slice A' zs.length c', .slice A7 ys.length c7] w fun e w' => e = .returned (.bool true) ∧ Below w.heap.size w w' := by
  obtain ⟨rs, hrs⟩ : ∃ rs, rightR (rulesR rows) = rs := ⟨_, rfl⟩
  have hck := (right_rules rows).1
  have h40 := (right_rules rows).2
  rw [hrs] at hck h40
  obtain ⟨N, hN⟩ : ∃ N, N = rs.length := ⟨_, rfl⟩
  obtain ⟨Z, hZ⟩ : ∃ Z, Z = zs.length := ⟨_, rfl⟩
  obtain ⟨us, hus⟩ : ∃ us, somM zs = us := ⟨_, rfl⟩
  obtain ⟨M, hM⟩ : ∃ M, us.length = M := ⟨_, rfl⟩
  have hM60 : M ≤ 60 := by rw [← hM, ← hus]; exact somM_len zs
  have hg := good_of hck
  rw [← hZ] at hzc ⊢
  rw [← hN] at h40
  unfold maxLen at hzm
  have HR := Lib.hid hr
  have HRS := Lib.hid hrs
  have HCK := Lib.hid hck
  have HGD := Lib.hid hg
  have HN := Lib.hid hN
  have HZ := Lib.hid hz
  have HZR := Lib.hid hzr
  have HZL := Lib.hid hZ
  have HUS := Lib.hid hus
  have HM := Lib.hid hM
  clear hr hrs hck hN hz hzr hZ hus hM hg
  obtain ⟨Y, hY⟩ : ∃ Y, Y = ys.length := ⟨_, rfl⟩
  obtain ⟨vs, hvs⟩ : ∃ vs, somM ys = vs := ⟨_, rfl⟩
  obtain ⟨M2, hM2⟩ : ∃ M2, vs.length = M2 := ⟨_, rfl⟩
  have hM260 : M2 ≤ 60 := by rw [← hM2, ← hvs]; exact somM_len ys
  obtain ⟨i0, hi, hz0, HZ1, hz2⟩ := info_parts infotok
  rw [← hY] at hyc ⊢
  unfold maxLen at hym
  have HY := Lib.hid hy
  have HYR := Lib.hid hyr
  have HYL := Lib.hid hY
  have HVS := Lib.hid hvs
  have HM2' := Lib.hid hM2
  clear hy hyr hY hvs hM2
  go_enter Try.func6, Try.ntmps6
  go_wp2_with fail
  refine (rawake6_any _).mono ?_
  rintro e w1 ⟨rfl, hb1⟩
  have hs1 := hb1.size
  go_wp2_with fail
  refine (right_any n A c rows w1.heap.size _ (HR.out.below hb1 hs1) (Nat.le_refl _) rs HRS.out).mono ?_
  rintro e w2 ⟨v2, rfl, ho2, hb2⟩
  have hs2 := hb2.size
  obtain ⟨A2, c2, rfl, hat2⟩ := ho2.form
  rw [← HN.out] at hat2 ⊢
  have HAT2 := Lib.hid hat2
  clear ho2 hat2
  go_wp2_with fail
  refine (of_ok N A2 c2 rs w2.heap.size _ HAT2.out (Nat.le_refl _) HCK.out).mono ?_
  rintro e w3 ⟨T, rfl, ho, hb3⟩
  have hs3 := hb3.size
  have HO := Lib.hid ho
  have HAT3 := Lib.hid (HAT2.out.below hb3 hs3)
  have hbE3 : Below w.heap.size w w3 := hb1.trans ((hb2.trans (hb3.mono hs2)).mono hs1)
  have hsE := hbE3.size
  clear ho hb1 hb2 hb3
  go_wp2_with fail
  refine (some_any Z A' c' zs w.heap.size w3 HZL.out (HZ.out.below hbE3 (Nat.le_refl _)) HZR.out hsE (by omega) hzc us M HUS.out HM.out).mono ?_
  rintro e w4 ⟨A5, c5, rfl, hu4, hb4⟩
  have hs4 := hb4.size
  have HU4 := Lib.hid hu4
  have hbE4 := hbE3.trans (hb4.mono hsE)
  have hsE4 := hbE4.size
  have HB34 := Lib.hid hb4
  clear hu4 hb4
  go_wp2_with fail
  refine (some_any Y A7 c7 ys w.heap.size w4 HYL.out (HY.out.below hbE4 (Nat.le_refl _)) HYR.out hsE4 (by omega) hyc vs M2 HVS.out HM2'.out).mono ?_
  rintro e w5 ⟨A8, c8, rfl, hu5, hb5⟩
  have hs5 := hb5.size
  have HU5 := Lib.hid hu5
  have HU4b := Lib.hid (HU4.out.step (Y := fun b => w3.heap.size ≤ b) hb5.size fun b hb hx => ⟨hx, hb5.block b hb⟩)
  have hbE5 := hbE4.trans (hb5.mono hsE4)
  have hsE5 := hbE5.size
  have HB35 := Lib.hid (HB34.out.trans (hb5.mono hs4))
  clear hu5 hb5 HU4 HB34
  go_wp2_with fail
  refine (mof_any w5 T).mono ?_
  rintro e wa ⟨p, rfl, hp5, hma, hba⟩
  have hsa := hba.size
  have hpa := hma.lt
  have HMA := Lib.hid hma
  have HB3a := Lib.hid (HB35.out.trans (hba.mono (by omega)))
  have HO3 := Lib.hid (HO.out.below HB3a.out (Nat.le_refl _))
  have HUA := Lib.hid (show Us (fun b => b ≠ p) wa (.slice A5 M c5) us from HU4b.out.step hba.size fun b hb hx => ⟨by omega, hba.block b hb⟩)
  have HVA := Lib.hid (show Us (fun b => b ≠ p) wa (.slice A8 M2 c8) vs from HU5.out.step hba.size fun b hb hx => ⟨by omega, hba.block b hb⟩)
  have hbEa := hbE5.trans (hba.mono hsE5)
  have hsEa := hbEa.size
  have hp : w3.heap.size ≤ p := by omega
  have hs3a : w3.heap.size ≤ wa.heap.size := by omega
  obtain ⟨S, hS⟩ : ∃ S, S = wa.heap.size := ⟨_, rfl⟩
  have hSa : wa.heap.size ≤ S := Nat.le_of_eq hS.symm
  have hSa' : S ≤ wa.heap.size := Nat.le_of_eq hS
  have hpS : p < S := by omega
  obtain ⟨xx1, xx2, xx3, xx4⟩ := HUA.out.rd
  obtain ⟨xy1, xy2, xy3, xy4⟩ := HVA.out.rd
  unfold maxLen at xx3 xy3
  obtain ⟨a0, ha0⟩ : ∃ a0 : Int, a0 = 0 := ⟨_, rfl⟩
  obtain ⟨sb, hsb⟩ : ∃ sb : Int, sb = 0 := ⟨_, rfl⟩
  obtain ⟨tx, htx⟩ : ∃ tx, rewA rs a0 us = tx := ⟨_, rfl⟩
  have hma0 : MAt wa p T [] (a0 + (0 : Nat) - ([] : List Int).length) (sb + 0) := by rw [ha0, hsb]; exact HMA.out
  have HMA0 := Lib.hid hma0
  have HA0 := Lib.hid ha0
  have hsb1 : 0 ≤ sb := by omega
  have hsb2 : sb ≤ 0 := by omega
  have ha01 : 0 ≤ a0 := by omega
  have ha02 : a0 ≤ 0 := by omega
  have HTX := Lib.hid htx
  have HTX0 := Lib.hid (show [] ++ rewA rs (a0 + (0 : Nat) - ([] : List Int).length) ([] ++ us.drop 0) = tx by simpa using htx)
  clear hba hma xx1 xx4 xy1 xy4 hS ha0 hsb hma0 htx HU4b HU5 HB35 HO HMA
  go_wp2
  go_loopw [12, 42] (fun v i wr => ∃ (K : Nat) (q : List Int) (st : Int) (acc : List Tk), K ≤ M ∧ i = .int .i64 K ∧ Hid (MS rs us K q st) ∧ Hid (MAt wr p T q (a0 + K - q.length) (sb + st)) ∧ Hid (OwnTkB S wr v acc) ∧ acc.length + q.length ≤ 0 + K ∧ Hid (acc ++ rewA rs (a0 + K - q.length) (q ++ us.drop K) = tx) ∧ Hid (wa.grownBy wr (some p))) (fun _ i _ => M - (intOf i).toNat)
  case atStart => exact ⟨0, [], 0, [], by omega, rfl, MS.start _ _, HMA0.out, OwnTkB.nil _ _, by simp, HTX0, grownR _ _⟩
  case round =>
    obtain ⟨K, q, st, acc, hK, rfl, HS, HMR, HOR, hcnt, HEQ, HGR⟩ := hrel
    have HUR := Lib.hid (HUA.out.past HGR.out (fun b hb => hb))
    have hsr := HGR.out.size
    have hlen := HS.out.len
    have hstp := HS.out.steps
    have hq7 := opens_lt HGD.out HS.out.open_
    obtain ⟨Av, cv, rfl, hatv⟩ := HOR.out.form
    have hav2 := hatv.fits
    have hav3 := hatv.small
    unfold maxLen at hav3
    have HBR := Lib.hid (below_of HGR.out hp hs3a)
    clear hatv
    by_cases hKn : K = M
    · have hK' : ¬ K < M := by omega
      have hlk := HGD.out.looksE_le q 7 hq7
      have heq := all_end (by rw [HM.out, hKn]; exact Nat.le_refl _) HEQ.out
      obtain ⟨t2, ht2⟩ : ∃ t2, rewA rs (a0 + K - q.length) q = t2 := ⟨_, rfl⟩
      obtain ⟨Le, hLe⟩ : ∃ Le, looksE rs q = Le := ⟨_, rfl⟩
      have htl := HGD.out.rew_len q (a0 + K - q.length)
      rw [ht2] at heq htl
      rw [hLe] at hlk
      obtain ⟨m2, hm2⟩ : ∃ m2, t2.length = m2 := ⟨_, rfl⟩
      rw [hm2] at htl
      have HT2 := Lib.hid ht2
      have HLE := Lib.hid hLe
      have HEQ2 := Lib.hid heq
      have HM2 := Lib.hid hm2
      have HKM := Lib.hid hKn
      clear hKn ht2 hLe heq hm2
      go_wp2_with fail
      refine (mend_any wr p T q _ _ HMR.out w3.heap.size rs (HO3.out.below HBR.out (Nat.le_refl _)) hp (by omega) (by omega) (by omega) (by omega) t2 HT2.out).mono ?_
      rintro en w6 ⟨v6, rfl, ho6, hm6, hg6⟩
      rw [HLE.out, show a0 + (K : Int) - q.length + q.length = a0 + K from by omega] at hm6
      obtain ⟨xs, hown, hx⟩ := HOR.out
      obtain ⟨ys, hown6, hy⟩ := ho6
      obtain ⟨A6, c6, rfl, hc6, hm6c⟩ := own_form hown6
      rw [HM2.out] at hown6 hc6 ⊢
      have hkeep := own_kept hown hg6 hpS
      have hs6 := hg6.size
      go_wp2_with (at_builtin; refine wpList_appB _ rfl _ _ 36 rfl S 49 i0 _ 4 48 Try.underlying36 hi hz0 HZ1 hz2 rfl (by decide) _ _ _ rfl hkeep w6.heap.size A6 m2 c6 ys rfl ?c1 (Rd.own hown6) ?c2 ?c3 ?c4 ?c5 ?_)
      case c1 => exact hown6.1
      case c2 => exact hy.ones
      case c3 => simp only [maxLen]; omega
      case c4 => omega
      case c5 => omega
      intro v7 w7 hown7 hg7 hv7
      have htold := told HM2.out hpS (by omega) hSa HGR.out hown hx (by rw [HM2.out]; exact hown6) hy hm6 hg6 hown7 hg7 hv7
      obtain ⟨ho7, hm7, hg7'⟩ := htold
      rw [HEQ2.out] at ho7
      have HO7 := Lib.hid ho7
      have HM7 := Lib.hid hm7
      have HG7 := Lib.hid hg7'
      clear hown7 hg7 hv7 ho7 hm7 hg7' hown6 hy hm6 hg6 hown hx hkeep
      obtain ⟨Ao, co, rfl, hato⟩ := HO7.out.form
      obtain ⟨Lx, hLx⟩ : ∃ Lx, tx.length = Lx := ⟨_, rfl⟩
      have hLxM : Lx ≤ M := by have h1 := HGD.out.rew_len us a0; rw [HTX.out, hLx, HM.out] at h1; exact h1
      obtain ⟨a1, ha1⟩ : ∃ a1 : Int, a1 = a0 + K := ⟨_, rfl⟩
      obtain ⟨sb1, hsb1'⟩ : ∃ sb1 : Int, sb1 = sb + st + Le := ⟨_, rfl⟩
      have ha11 : a1 = M := by rw [ha1, HKM.out, HA0.out]; omega
      obtain ⟨ty, hty⟩ : ∃ ty, rewA rs a1 vs = ty := ⟨_, rfl⟩
      obtain ⟨txy, htxy⟩ : ∃ txy, tx ++ ty = txy := ⟨_, rfl⟩
      have hm70 : MAt w7 p T [] (a1 + (0 : Nat) - ([] : List Int).length) (sb1 + 0) := by
        rw [ha1, hsb1', show a0 + (K : Int) + ((0 : Nat) : Int) - (([] : List Int).length : Nat) = a0 + K from by simp, Int.add_zero]; exact HM7.out
      have hty0 : tx ++ rewA rs (a1 + (0 : Nat) - ([] : List Int).length) ([] ++ vs.drop 0) = txy := by
        rw [← htxy, ← hty]; simp
      have HM70 := Lib.hid hm70
      have HTY0 := Lib.hid hty0
      have HTY := Lib.hid hty
      have HTXY := Lib.hid htxy
      have HA1 := Lib.hid ha11
      have HLX := Lib.hid hLx
      have HO70 := Lib.hid HO7.out
      have hs11 : 0 ≤ sb1 := by omega
      have hs12 : sb1 ≤ 1100 := by omega
      have ha12 : 0 ≤ a1 := by omega
      have ha13 : a1 ≤ 60 := by omega
      rw [hLx]
      rw [hLx] at HO70
      obtain ⟨wo, rfl⟩ : ∃ wo : World, wo = wr := ⟨_, rfl⟩
      obtain ⟨wb, rfl⟩ : ∃ wb : World, wb = w7 := ⟨_, rfl⟩
      clear ha1 hsb1' ha11 hty htxy hm70 hty0 hato HM7 HEQ2 HEQ HUR HS HMR HOR HGR HM2 HT2 HLE HKM hLx HO7 HBR HTX0 HMA0
      clear hcnt hlen hstp hq7 hav2 hav3 hsr hlk htl hc6 hm6c hs6 hK'
      go_wp2
      go_loopw [12, 60] (fun v i wr => ∃ (K : Nat) (q : List Int) (st : Int) (acc : List Tk), K ≤ M2 ∧ i = .int .i64 K ∧ Hid (MS rs vs K q st) ∧ Hid (MAt wr p T q (a1 + K - q.length) (sb1 + st)) ∧ Hid (OwnTkB S wr v acc) ∧ acc.length + q.length ≤ Lx + K ∧ Hid (acc ++ rewA rs (a1 + K - q.length) (q ++ vs.drop K) = txy) ∧ Hid (wa.grownBy wr (some p))) (fun _ i _ => M2 - (intOf i).toNat)
      case atStart => exact ⟨0, [], 0, tx, by omega, rfl, MS.start _ _, HM70.out, HO70.out, by rw [HLX.out]; simp, HTY0, HG7⟩
      case round =>
        obtain ⟨K, q, st, acc, hK, rfl, HS, HMR, HOR, hcnt, HEQ, HGR⟩ := hrel
        have HUR := Lib.hid (HVA.out.past HGR.out (fun b hb => hb))
        have hsr := HGR.out.size
        have hlen := HS.out.len
        have hstp := HS.out.steps
        have hq7 := opens_lt HGD.out HS.out.open_
        obtain ⟨Av, cv, rfl, hatv⟩ := HOR.out.form
        have hav2 := hatv.fits
        have hav3 := hatv.small
        unfold maxLen at hav3
        have HBR := Lib.hid (below_of HGR.out hp hs3a)
        clear hatv
        by_cases hKn : K = M2
        · have hK' : ¬ K < M2 := by omega
          have hlk := HGD.out.looksE_le q 7 hq7
          have heq := all_end (by rw [HM2'.out, hKn]; exact Nat.le_refl _) HEQ.out
          obtain ⟨t2, ht2⟩ : ∃ t2, rewA rs (a1 + K - q.length) q = t2 := ⟨_, rfl⟩
          obtain ⟨Le, hLe⟩ : ∃ Le, looksE rs q = Le := ⟨_, rfl⟩
          have htl := HGD.out.rew_len q (a1 + K - q.length)
          rw [ht2] at heq htl
          rw [hLe] at hlk
          obtain ⟨m2, hm2⟩ : ∃ m2, t2.length = m2 := ⟨_, rfl⟩
          rw [hm2] at htl
          have HT2 := Lib.hid ht2
          have HLE := Lib.hid hLe
          have HEQ2 := Lib.hid heq
          have HM2 := Lib.hid hm2
          have HKM := Lib.hid hKn
          clear hKn ht2 hLe heq hm2
          go_wp2_with fail
          refine (mend_any wr p T q _ _ HMR.out w3.heap.size rs (HO3.out.below HBR.out (Nat.le_refl _)) hp (by omega) (by omega) (by omega) (by omega) t2 HT2.out).mono ?_
          rintro en w6 ⟨v6, rfl, ho6, hm6, hg6⟩
          rw [HLE.out, show a1 + (K : Int) - q.length + q.length = a1 + K from by omega] at hm6
          obtain ⟨xs, hown, hx⟩ := HOR.out
          obtain ⟨ys, hown6, hy⟩ := ho6
          obtain ⟨A6, c6, rfl, hc6, hm6c⟩ := own_form hown6
          rw [HM2.out] at hown6 hc6 ⊢
          have hkeep := own_kept hown hg6 hpS
          have hs6 := hg6.size
          go_wp2_with (at_builtin; refine wpList_appB _ rfl _ _ 36 rfl S 49 i0 _ 4 48 Try.underlying36 hi hz0 HZ1 hz2 rfl (by decide) _ _ _ rfl hkeep w6.heap.size A6 m2 c6 ys rfl ?c1 (Rd.own hown6) ?c2 ?c3 ?c4 ?c5 ?_)
          case c1 => exact hown6.1
          case c2 => exact hy.ones
          case c3 => simp only [maxLen]; omega
          case c4 => omega
          case c5 => omega
          intro v7 w7 hown7 hg7 hv7
          have htold := told HM2.out hpS (by omega) hSa HGR.out hown hx (by rw [HM2.out]; exact hown6) hy hm6 hg6 hown7 hg7 hv7
          obtain ⟨ho7, hm7, hg7'⟩ := htold
          rw [HEQ2.out] at ho7
          have HO7 := Lib.hid ho7
          have HM7 := Lib.hid hm7
          have HG7 := Lib.hid hg7'
          clear hown7 hg7 hv7 ho7 hm7 hg7' hown6 hy hm6 hg6 hown hx hkeep
          obtain ⟨Ao2, co2, rfl, hato⟩ := HO7.out.form
          obtain ⟨Ly, hLy⟩ : ∃ Ly, txy.length = Ly := ⟨_, rfl⟩
          rw [hLy] at hato ⊢
          have hcoy := hato.fits
          have hcoy2 := hato.small
          unfold maxLen at hcoy2
          have HAT := Lib.hid hato
          have HLY := Lib.hid hLy
          have HU7 := Lib.hid (HVA.out.past HG7.out (fun b hb => hb))
          have HU8 := Lib.hid (HUA.out.past HG7.out (fun b hb => hb))
          have HB7 := Lib.hid (below_of HG7.out hp hs3a)
          have hs7 := HG7.out.size
          have hbE7 := below_grownP hbEa HG7.out (by omega) hsEa
          have hsE7 := hbE7.size
          obtain ⟨tw, htw⟩ : ∃ tw, rewA rs 0 vs = tw := ⟨_, rfl⟩
          have hsh := HGD.out.rew_shift a1 vs 0
          rw [htw, Int.zero_add, HTY.out] at hsh
          obtain ⟨R, hR⟩ : ∃ R, tw.length = R := ⟨_, rfl⟩
          have hR60 : R ≤ M2 := by have h1 := HGD.out.rew_len vs 0; rw [htw, hR, HM2'.out] at h1; exact h1
          have hLR : Ly = Lx + R := by rw [← hLy, ← HTXY.out, List.length_append, HLX.out, ← hsh, List.length_map, hR]
          have HLR := Lib.hid hLR
          have HTW := Lib.hid htw
          have HSH := Lib.hid hsh
          have HRR := Lib.hid hR
          have HTG := Lib.hid HGD.out.rew_tail
          obtain ⟨r1, r2, r3, r4⟩ := HU7.out.rd
          obtain ⟨w8, rfl⟩ : ∃ w8 : World, w8 = w7 := ⟨_, rfl⟩
          obtain ⟨wo2, rfl⟩ : ∃ wo2 : World, wo2 = wr := ⟨_, rfl⟩
          clear hLR hLy hato htw hsh hR r1 HO7 HM7 HEQ2 HEQ HUR HS HMR HOR HGR HM2 HT2 HLE HKM HBR HG7
          have HVR := Lib.hid (r4.rd (Nat.le_refl w8.heap.size))
          go_wp2_with fail
          refine (rew_any w8 w3.heap.size T rs (HO3.out.below HB7.out (Nat.le_refl _)) (by omega) M2 A8 c8 vs w8.heap.size HM2'.out.symm HVR.out (Nat.le_refl _) xy2 (by unfold maxLen; omega) (by omega) tw HTW.out).mono ?_
          rintro e w9 ⟨v9, rfl, ho9, hb9⟩
          obtain ⟨A9, c9, rfl, hat9⟩ := ho9.form
          rw [HRR.out] at hat9 ⊢
          have hc9 := hat9.fits
          have hc91 := hat9.small
          unfold maxLen at hc91
          have ho9' : OwnTk w8.heap.size w9 (.slice A9 R c9) tw := by have := ho9; rw [HRR.out] at this; exact this
          have HO9 := Lib.hid ho9'
          have hs9 := hb9.size
          clear hat9 ho9 ho9'
          go_wp2
          go_loopw [79] (fun i wr => ∃ (J : Nat), J ≤ R ∧ i = .int .i64 J ∧ Hid (OwnTk w8.heap.size wr (.slice A9 R c9) (mixK M J tw)) ∧ Below w8.heap.size w8 wr) (fun i _ => R - (intOf i).toNat)
          case atStart => exact ⟨0, by omega, rfl, by rw [mixK_zero]; exact HO9, hb9⟩
          case round =>
            obtain ⟨J, hJ, rfl, ho, hb⟩ := hrel
            have hs := hb.size
            by_cases hJR : J = R
            · have hJ' : ¬ J < R := by omega
              have hfin := ho.out
              rw [mixK_all (by rw [HRR.out]; omega), ← HA1.out, HSH.out] at hfin
              have hRl : R = ty.length := by rw [← HSH.out, List.length_map, HRR.out]
              obtain ⟨A10, c10, e9, hat10⟩ := hfin.form
              rw [← hRl] at e9 hat10
              injection e9 with e1 e2 e3
              subst e1 e3
              obtain ⟨wz, rfl⟩ : ∃ wz : World, wz = wr := ⟨_, rfl⟩
              have hLR := HLR.out
              have hcut := (HAT.out.below hb (Nat.le_refl _)).cut Lx (by omega)
              have hdrp := (HAT.out.below hb (Nat.le_refl _)).drop Lx (by omega)
              rw [← HTXY.out, ← HLX.out, List.take_left, HLX.out] at hcut
              rw [← HTXY.out, ← HLX.out, List.drop_left, HLX.out, show Ly - Lx = R from by omega] at hdrp
              obtain ⟨ad, hsl2, had⟩ := tail_slice Ao2 Ly co2 Lx (by omega) hcoy hcoy2
              rw [← had] at hdrp
              have hsl1 := head_slice Ao2 Ly co2 Lx (by omega) hcoy hcoy2
              rw [show Ly - Lx = R from by omega] at hsl2
              have hU := HU8.out.step (Y := fun b => b < w8.heap.size) (Nat.le_refl _) fun b hb' _ => ⟨hb', rfl⟩
              obtain ⟨z1, z2, z3, z4⟩ := hU.rd
              have HXU := Lib.hid (z4.rdB.below hb (Nat.le_refl _))
              have HCUT := Lib.hid hcut
              have HDRP := Lib.hid hdrp
              have HWT := Lib.hid hat10
              have HB3z := Lib.hid (HB7.out.trans (hb.mono (by omega)))
              have hbEz := hbE7.trans (hb.mono hsE7)
              have hsz := hbEz.size
              have hs3z : w3.heap.size ≤ wz.heap.size := by omega
              have htxl : Lx = tx.length := HLX.out.symm
              have HTXL := Lib.hid htxl
              have HTXA := Lib.hid (show rewA rs 0 us = tx by rw [← HA0.out]; exact HTX.out)
              clear hfin e2 hat10 hcut hdrp had hU z1 z4 hJR htxl hRl hLR
              go_wp2_with fail
              refine wp_region_mixe (G := fun _ _ => True) [(0, false), (1, false), (2, false), (3, false), (4, false), (5, true), (6, true), (7, false), (8, false), (9, false), (10, false), (11, false), (12, true), (13, false), (14, false)]
                (fun _ => trivial) (fun _ _ _ _ _ => trivial) (by kernel_rfl) rfl (by kernel_rfl) (by kernel_rfl) ?_
              iterate 5 (refine mixe_one rfl rfl ?_; go_big_quiet_step ((intro _; rfl)); refine wpQuiet_nil ?_)
              refine mixe_call rfl ?_
              go_wp2_with fail
              refine (rew_any wz.drew w3.heap.size T rs (HO3.out.below HB3z.out.drew (Nat.le_refl _)) hs3z M A5 c5 us w8.heap.size HM.out.symm (HXU.out.below (Below.refl _ _).drew (Nat.le_refl _)) hs xx2 (by unfold maxLen; omega) (by omega) tx HTXA.out).mono ?_
              rintro e wy ⟨v10, rfl, ho10, hb10⟩
              obtain ⟨A11, c11, rfl, hat11⟩ := ho10.form
              rw [← HTXL.out] at hat11 ⊢
              have HAT11 := Lib.hid hat11
              have hbzy : Below wz.heap.size wz wy := (Below.refl _ _).drew.trans hb10
              have hsy := hbzy.size
              clear ho10 hat11 hb10
              go_wp2_with fail
              refine ⟨trivial, ?_⟩
              refine mixe_call rfl ?_
              go_wp2_with fail
              refine (same_below Lx Ao2 A11 co2 c11 tx w8.heap.size wy.heap.size wy (HCUT.out.below (hbzy.mono hs) (Nat.le_refl _)) HAT11.out).mono ?_
              rintro e wx ⟨rfl, hbx⟩
              have hbzx := hbzy.trans (hbx.mono hsy)
              have hsx := hbzx.size
              clear hbx
              go_wp2_with fail
              refine ⟨trivial, ?_⟩
              iterate 5 (refine mixe_one rfl rfl ?_; go_big_quiet_step ((intro _; rfl)); refine wpQuiet_nil ?_)
              refine mixe_call rfl ?_
              go_wp2_with fail
              refine (same_below R ad A9 _ c9 ty w8.heap.size wz.heap.size wx (HDRP.out.below (hbzx.mono hs) (Nat.le_refl _)) (HWT.out.below hbzx (Nat.le_refl _))).mono ?_
              rintro e wv ⟨rfl, hbv⟩
              have hbF := hbEz.trans ((hbzx.trans (hbv.mono hsx)).mono hsz)
              clear hbv
              go_wp2_with fail
              refine ⟨trivial, ?_⟩
              iterate 2 (refine mixe_one rfl rfl ?_; go_big_quiet_step ((intro _; rfl)); refine wpQuiet_nil ?_)
              refine NoPanic.normal ?_
              go_wp2
              go_ret
              exact ⟨rfl, hbF⟩
            have hJ' : J < R := by omega
            have hJ1 : J < tw.length := by rw [HRR.out]; exact hJ'
            obtain ⟨g, c11, e9⟩ := ho.out.some (by rw [mixK_len, HRR.out]; omega)
            injection e9 with e1 e2 e3
            subst e1 e3
            obtain ⟨x1, xf⟩ := ho.out.posAt (mixK_at (d := M) hJ1)
            have hz := HTG.out vs 0 J tw[J] (by rw [HTW.out]; exact List.getElem?_eq_getElem hJ1)
            have hz1 := hz.1
            have hz2' := hz.2.1
            rw [HM2'.out] at hz2'
            obtain ⟨P, hP⟩ : ∃ P, P = tw[J].pos := ⟨_, rfl⟩
            rw [← hP] at hz1 hz2'
            rw [← hP] at x1
            have hset := ho.out.setPos (mixK_at (d := M) hJ1) (P + M)
            rw [show (mixK M J tw).set J ⟨P + M, tw[J].size, tw[J].out, tw[J].err⟩ = mixK M (J + 1) tw from by rw [← mixK_step hJ1, hP]; rfl] at hset
            have HSET := Lib.hid hset.1
            have hbg := hset.2
            have e4 : (0 : Int) ≤ J := by omega
            have e5 : (J : Int) < R := by omega
            have hbr : Below w8.heap.size w8 (wr.setCell ⟨g, J * 4, none⟩ (.int .i64 (P + M))) := hb.setCell (by show w8.heap.size ≤ g; omega) _
            have HBR := Lib.hid hbr
            clear hP hset hJR hbr hz e2
            go_wp2
            go_roundw
            case rel => exact ⟨J + 1, by omega, by go_num, HSET, HBR.out⟩
            case measure => simp [intOf]; omega

        have hK' : K < M2 := by omega
        have hK1 : K < vs.length := by rw [HM2'.out]; exact hK'
        obtain ⟨q1', q2', q3', q4'⟩ := HUR.out.rd
        obtain ⟨bu, ou, rfl, hbl, hcell⟩ := rd_ints (q4'.rd (Nat.le_refl wr.heap.size)) (by omega)
        have k1 := hcell K hK1
        obtain ⟨u, hu⟩ : ∃ u, vs.getD K 0 = u := ⟨_, rfl⟩
        rw [hu] at k1
        obtain ⟨⟨t2, rest, k⟩, hd⟩ : ∃ x, drain rs (a1 + K - q.length) (q ++ [u]) = x := ⟨_, rfl⟩
        have hst := HS.out.step (ts := t2) (rest := rest) (k := k) (at_ := a1 + K - q.length) HGD.out hK1 (by rw [hu]; exact hd)
        have hal := all_step (t2 := t2) (rest := rest) (k := k) HGD.out hK1 (by rw [hu]; exact hd) HEQ.out
        obtain ⟨m2, hm2⟩ : ∃ m2, t2.length = m2 := ⟨_, rfl⟩
        have hts8 := hst.2.1
        have hal2 := hal.2
        rw [hm2] at hts8 hal2
        have hal1 := hal.1
        rw [show a1 + (K : Int) - q.length + q.length + 1 - rest.length = a1 + ((K + 1 : Nat) : Int) - rest.length from by omega] at hal1
        have HD := Lib.hid hd
        have HS2 := Lib.hid hst.1
        have HEQ2 := Lib.hid hal1
        have HM2 := Lib.hid hm2
        have hr7 := hst.2.2
        have e4 : (0 : Int) ≤ K := by omega
        have e5 : (K : Int) < M2 := by omega
        clear hcell hu hd hst hal hal1 hm2 q1' q4'
        go_wp2_with fail
        refine (mput_any wr p T q _ _ u HMR.out hq7 w3.heap.size rs (HO3.out.below HBR.out (Nat.le_refl _)) hp (by omega) (by omega) (by omega) (by omega) t2 rest k HD.out).mono ?_
        rintro e w6 ⟨v6, rfl, ho6, hm6, hg6⟩
        rw [show a1 + (K : Int) - q.length + q.length + 1 - rest.length = a1 + ((K + 1 : Nat) : Int) - rest.length from by omega, Int.add_assoc] at hm6
        obtain ⟨xs, hown, hx⟩ := HOR.out
        obtain ⟨ys, hown6, hy⟩ := ho6
        obtain ⟨A6, c6, rfl, hc6, hm6c⟩ := own_form hown6
        rw [HM2.out] at hown6 hc6 ⊢
        have hkeep := own_kept hown hg6 hpS
        have hs6 := hg6.size
        go_wp2_with (at_builtin; refine wpList_appB _ rfl _ _ 36 rfl S 49 i0 _ 4 48 Try.underlying36 hi hz0 HZ1 hz2 rfl (by decide) _ _ _ rfl hkeep w6.heap.size A6 m2 c6 ys rfl ?c1 (Rd.own hown6) ?c2 ?c3 ?c4 ?c5 ?_)
        case c1 => exact hown6.1
        case c2 => exact hy.ones
        case c3 => simp only [maxLen]; omega
        case c4 => omega
        case c5 => omega
        intro v7 w7 hown7 hg7 hv7
        have htold := told HM2.out hpS (by omega) hSa HGR.out hown hx (by rw [HM2.out]; exact hown6) hy hm6 hg6 hown7 hg7 hv7
        obtain ⟨ho7, hm7, hg7'⟩ := htold
        have HO7 := Lib.hid ho7
        have HM7 := Lib.hid hm7
        have HG7 := Lib.hid hg7'
        clear hown7 hg7 hv7 ho7 hm7 hg7' hown6 hy hm6 hg6 hown hx hkeep
        go_wp2
        go_roundw
        case rel => exact ⟨K + 1, rest, st + k, acc ++ t2, by omega, by go_num, HS2, HM7, HO7, by rw [List.length_append, HM2.out]; omega, HEQ2, HG7⟩
        case measure => simp [intOf]; omega
    have hK' : K < M := by omega
    have hK1 : K < us.length := by rw [HM.out]; exact hK'
    obtain ⟨q1', q2', q3', q4'⟩ := HUR.out.rd
    obtain ⟨bu, ou, rfl, hbl, hcell⟩ := rd_ints (q4'.rd (Nat.le_refl wr.heap.size)) (by omega)
    have k1 := hcell K hK1
    obtain ⟨u, hu⟩ : ∃ u, us.getD K 0 = u := ⟨_, rfl⟩
    rw [hu] at k1
    obtain ⟨⟨t2, rest, k⟩, hd⟩ : ∃ x, drain rs (a0 + K - q.length) (q ++ [u]) = x := ⟨_, rfl⟩
    have hst := HS.out.step (ts := t2) (rest := rest) (k := k) (at_ := a0 + K - q.length) HGD.out hK1 (by rw [hu]; exact hd)
    have hal := all_step (t2 := t2) (rest := rest) (k := k) HGD.out hK1 (by rw [hu]; exact hd) HEQ.out
    obtain ⟨m2, hm2⟩ : ∃ m2, t2.length = m2 := ⟨_, rfl⟩
    have hts8 := hst.2.1
    have hal2 := hal.2
    rw [hm2] at hts8 hal2
    have hal1 := hal.1
    rw [show a0 + (K : Int) - q.length + q.length + 1 - rest.length = a0 + ((K + 1 : Nat) : Int) - rest.length from by omega] at hal1
    have HD := Lib.hid hd
    have HS2 := Lib.hid hst.1
    have HEQ2 := Lib.hid hal1
    have HM2 := Lib.hid hm2
    have hr7 := hst.2.2
    have e4 : (0 : Int) ≤ K := by omega
    have e5 : (K : Int) < M := by omega
    clear hcell hu hd hst hal hal1 hm2 q1' q4'
    go_wp2_with fail
    refine (mput_any wr p T q _ _ u HMR.out hq7 w3.heap.size rs (HO3.out.below HBR.out (Nat.le_refl _)) hp (by omega) (by omega) (by omega) (by omega) t2 rest k HD.out).mono ?_
    rintro e w6 ⟨v6, rfl, ho6, hm6, hg6⟩
    rw [show a0 + (K : Int) - q.length + q.length + 1 - rest.length = a0 + ((K + 1 : Nat) : Int) - rest.length from by omega, Int.add_assoc] at hm6
    obtain ⟨xs, hown, hx⟩ := HOR.out
    obtain ⟨ys, hown6, hy⟩ := ho6
    obtain ⟨A6, c6, rfl, hc6, hm6c⟩ := own_form hown6
    rw [HM2.out] at hown6 hc6 ⊢
    have hkeep := own_kept hown hg6 hpS
    have hs6 := hg6.size
    go_wp2_with (at_builtin; refine wpList_appB _ rfl _ _ 36 rfl S 49 i0 _ 4 48 Try.underlying36 hi hz0 HZ1 hz2 rfl (by decide) _ _ _ rfl hkeep w6.heap.size A6 m2 c6 ys rfl ?c1 (Rd.own hown6) ?c2 ?c3 ?c4 ?c5 ?_)
    case c1 => exact hown6.1
    case c2 => exact hy.ones
    case c3 => simp only [maxLen]; omega
    case c4 => omega
    case c5 => omega
    intro v7 w7 hown7 hg7 hv7
    have htold := told HM2.out hpS (by omega) hSa HGR.out hown hx (by rw [HM2.out]; exact hown6) hy hm6 hg6 hown7 hg7 hv7
    obtain ⟨ho7, hm7, hg7'⟩ := htold
    have HO7 := Lib.hid ho7
    have HM7 := Lib.hid hm7
    have HG7 := Lib.hid hg7'
    clear hown7 hg7 hv7 ho7 hm7 hg7' hown6 hy hm6 hg6 hown hx hkeep
    go_wp2
    go_roundw
    case rel => exact ⟨K + 1, rest, st + k, acc ++ t2, by omega, by go_num, HS2, HM7, HO7, by rw [List.length_append, HM2.out]; omega, HEQ2, HG7⟩
    case measure => simp [intOf]; omega
end Go.Proofs.Ytmjcnopkckkaoaa
