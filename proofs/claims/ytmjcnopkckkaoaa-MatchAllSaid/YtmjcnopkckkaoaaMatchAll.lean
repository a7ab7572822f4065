/- MatchAll: the walk. -/
import Derived.Test.YtmjcnopkckkaoaaMatL
import Derived.Test.YtmjcnopkckkaoaaRewB
import Derived.Test.YtmjcnopkckkaoaaTokSame
namespace Go.Proofs.Ytmjcnopkckkaoaa
set_option linter.unusedVariables false
open Go.RowKit
set_option maxHeartbeats 6400000 in
theorem matchAll_any (n : Nat) (A : Option Addr) (c : Nat) (rows : List RowL) (A' : Option Addr) (c' : Nat) (zs : List Int) (A7 : Option Addr) (c7 : Nat) (ws : List Int) (w : World) (hr : RwAt w w.heap.size A n c rows) (hz : Rd w w.heap.size A' (zs.map (Value.int .u8))) (hzr : ∀ z ∈ zs, 0 ≤ z ∧ z ≤ 255) (hzc : zs.length ≤ c') (hzm : c' ≤ maxLen) (hw : Rd w w.heap.size A7 (ws.map (Value.int .i64))) (hwc : ws.length ≤ c7) (hwm : c7 ≤ maxLen) :
    Calls Try.prog 3 #[.slice A n c, .slice A' zs.length c', .slice A7 ws.length c7] w fun e w' => e = .returned (.bool true) ∧ Below w.heap.size w w' := by
  obtain ⟨rs, hrs⟩ : ∃ rs, rightR (rulesR rows) = rs := ⟨_, rfl⟩
  have hck := (right_rules rows).1
  have h40 := (right_rules rows).2
  rw [hrs] at hck h40
  obtain ⟨N, hN⟩ : ∃ N, N = rs.length := ⟨_, rfl⟩
  obtain ⟨Z, hZ⟩ : ∃ Z, Z = zs.length := ⟨_, rfl⟩
  obtain ⟨us, hus⟩ : ∃ us, somM zs = us := ⟨_, rfl⟩
  obtain ⟨M, hM⟩ : ∃ M, us.length = M := ⟨_, rfl⟩
  have hM60 : M ≤ 60 := by rw [← hM, ← hus]; exact somM_len zs
  have hg := good_of hck
  rw [← hZ] at hzc ⊢
  rw [← hN] at h40
  unfold maxLen at hzm
  have HR := Lib.hid hr
  have HRS := Lib.hid hrs
  have HCK := Lib.hid hck
  have HGD := Lib.hid hg
  have HN := Lib.hid hN
  have HZ := Lib.hid hz
  have HZR := Lib.hid hzr
  have HZL := Lib.hid hZ
  have HUS := Lib.hid hus
  have HM := Lib.hid hM
  clear hr hrs hck hN hz hzr hZ hus hM hg
  obtain ⟨W7, hW7⟩ : ∃ W7, W7 = ws.length := ⟨_, rfl⟩
  obtain ⟨Q, hQ, hQn, hQ6⟩ : ∃ Q : Nat, ((if 60 < W7 then 60 else W7) = Q) ∧ Q ≤ W7 ∧ Q ≤ 60 := ⟨_, rfl, by split <;> omega, by split <;> omega⟩
  have hmin : min (W7 : Int) 60 = (Q : Int) := by rw [← hQ]; split <;> omega
  obtain ⟨vs, hvs⟩ : ∃ vs, vs = ws.take Q := ⟨_, rfl⟩
  have hvl : Q = vs.length := by rw [hvs]; simp; omega
  obtain ⟨i0, hi, hz0, HZ1, hz2⟩ := info_parts infotok
  rw [← hW7] at hwc ⊢
  unfold maxLen at hwm
  have HVL := Lib.hid hvl
  have HW := Lib.hid (show Rd w w.heap.size A7 (vs.map (Value.int .i64)) by rw [hvs]; exact rd_tk Q hw)
  have hQ0 : (0 : Int) ≤ (Q : Int) := by omega
  have hQc : Q ≤ c7 := by omega
  clear hvl hvs hw hW7 hQ
  go_enter Try.func3, Try.ntmps3
  go_wp2_with fail
  refine (rawake6_any _).mono ?_
  rintro e w1 ⟨rfl, hb1⟩
  have hs1 := hb1.size
  go_wp2_with fail
  refine (right_any n A c rows w1.heap.size _ (HR.out.below hb1 hs1) (Nat.le_refl _) rs HRS.out).mono ?_
  rintro e w2 ⟨v2, rfl, ho2, hb2⟩
  have hs2 := hb2.size
  obtain ⟨A2, c2, rfl, hat2⟩ := ho2.form
  rw [← HN.out] at hat2 ⊢
  have HAT2 := Lib.hid hat2
  clear ho2 hat2
  go_wp2_with fail
  refine (of_ok N A2 c2 rs w2.heap.size _ HAT2.out (Nat.le_refl _) HCK.out).mono ?_
  rintro e w3 ⟨T, rfl, ho, hb3⟩
  have hs3 := hb3.size
  have HO := Lib.hid ho
  have HAT3 := Lib.hid (HAT2.out.below hb3 hs3)
  have hbE3 : Below w.heap.size w w3 := hb1.trans ((hb2.trans (hb3.mono hs2)).mono hs1)
  have hsE := hbE3.size
  clear ho hb1 hb2 hb3
  go_wp2_with fail
  refine wp_region_mixe (G := fun w w' => Below w.heap.size w w') [(0, false), (2, false), (3, false), (4, false), (5, false), (6, false), (9, false), (1, true), (7, true), (8, false)]
    below_refl below_trans (by kernel_rfl) rfl (by kernel_rfl) (by kernel_rfl) ?_
  iterate 7 (refine mixe_one rfl rfl ?_; go_big_quiet_step ((intro _; rfl)); refine wpQuiet_nil ?_)
  refine mixe_call rfl ?_
  go_wp2_with fail
  refine (some_any Z A' c' zs w.heap.size w3.drew HZL.out (HZ.out.below hbE3.drew (Nat.le_refl _)) HZR.out hsE (by omega) hzc us M HUS.out HM.out).mono ?_
  rintro e w4 ⟨A5, c5, rfl, hu4, hb4'⟩
  have hb4 : Below w3.heap.size w3 w4 := (Below.refl _ _).drew.trans hb4'
  have hs4 := hb4.size
  obtain ⟨q1, q2, q3, q4⟩ := hu4.rd
  have HU4 := Lib.hid (q4.rd (Nat.le_refl w4.heap.size))
  have hbE4 := hbE3.trans (hb4.mono hsE)
  have hsE4 := hbE4.size
  have HB34 := Lib.hid hb4
  clear hu4 hb4 q1 q4
  go_wp2_with fail
  refine ⟨hb4', ?_⟩
  clear hb4'
  refine mixe_call rfl ?_
  go_wp2_with fail
  have hbX : Below w4.heap.size w4 (w4.alloc (.cells #[.slice A5 M c5, .slice A7 Q c7] 24)) := (Below.refl _ _).alloc (Nat.le_refl _) _
  refine ⟨hbX, ?_⟩
  iterate 1 (refine mixe_one rfl rfl ?_; go_big_quiet_step ((intro _; rfl)); refine wpQuiet_nil ?_)
  refine NoPanic.normal ?_
  obtain ⟨wX, hwX⟩ : ∃ wX, wX = w4.alloc (.cells #[.slice A5 M c5, .slice A7 Q c7] 24) := ⟨_, rfl⟩
  obtain ⟨X, hX⟩ : ∃ X, X = w4.heap.size := ⟨_, rfl⟩
  rw [← hwX] at hbX ⊢
  have hcX : wX.heap[X]? = some (.cells #[.slice A5 M c5, .slice A7 Q c7] 24 (0, 0)) := by rw [hwX, hX]; exact heap_alloc_new w4 _
  have hX0 : wX.cell? ⟨X, 0, none⟩ = some (.slice A5 M c5) := by rw [cell_of_row _ _ _ _ _ _ hcX]; rfl
  have hX1 : wX.cell? ⟨X, 1, none⟩ = some (.slice A7 Q c7) := by rw [cell_of_row _ _ _ _ _ _ hcX]; rfl
  have hsX := hbX.size
  have hB3X := HB34.out.trans (hbX.mono hs4)
  have hbEX := hbE4.trans (hbX.mono hsE4)
  have hsEX := hbEX.size
  have hXl : X < wX.heap.size := heap_lt0 hcX
  have hxs : ∀ k : Nat, k < 2 → ∃ Ax Mx cx, ∃ xs : List Int, wX.cell? ⟨X, k, none⟩ = some (.slice Ax Mx cx) ∧ xs.length = Mx ∧ Mx ≤ 60 ∧ Us (fun b => b < wX.heap.size) wX (.slice Ax Mx cx) xs := by
    intro k hk
    have : k = 0 ∨ k = 1 := by omega
    rcases this with rfl | rfl
    · exact ⟨A5, M, c5, us, hX0, HM.out, hM60, us_at HM.out.symm q2 q3 (HU4.out.below hbX hsX)⟩
    · exact ⟨A7, Q, c7, vs, hX1, HVL.out.symm, hQ6, us_at HVL.out hQc (by unfold maxLen; omega) (HW.out.below hbEX hsEX)⟩
  have HXS := Lib.hid hxs
  have HB3X := Lib.hid hB3X
  have hs3X : w3.heap.size ≤ wX.heap.size := hB3X.size
  rw [← hX]
  clear hwX hX hcX hX0 hX1 hxs hB3X hbX HU4 HB34 hmin
  go_wp2
  go_loopw [40] (fun i wr => ∃ J : Nat, J ≤ 2 ∧ i = .int .i64 J ∧ Below wX.heap.size wX wr) (fun i _ => 2 - (intOf i).toNat)
  case atStart => exact ⟨0, by omega, rfl, Below.refl _ _⟩
  case round =>
    obtain ⟨J, hJ, rfl, hbJ⟩ := hrel
    have hsJ := hbJ.size
    have hbEJ := hbEX.trans (hbJ.mono hsEX)
    have hsEJ := hbEJ.size
    by_cases hJ2 : J = 2
    · subst hJ2
      go_wp2
      go_ret
      exact ⟨rfl, hbEJ⟩
    have hJ1 : J < 2 := by omega
    obtain ⟨Ax, Mx, cx, xs0, hcell, hxl, hMx, hux⟩ := HXS.out J hJ1
    have hcJ := (hbJ.cell (p := ⟨X, J, none⟩) hXl).trans hcell
    have HUX := Lib.hid (hux.step (Y := fun b => b < wX.heap.size) hbJ.size fun b hb hx => ⟨hx, hbJ.block b hx⟩)
    have HMX := Lib.hid hxl
    have hJ0 : (0 : Int) ≤ J := by omega
    have hJ3 : (J : Int) < 2 := by omega
    have HB3J := Lib.hid (HB3X.out.trans (hbJ.mono hs3X))
    have HBJ := Lib.hid hbJ
    obtain ⟨wo, rfl⟩ : ∃ wo : World, wo = wr := ⟨_, rfl⟩
    have HO3' := Lib.hid (HO.out.below HB3J.out (Nat.le_refl _))
    have hs3J : w3.heap.size ≤ wo.heap.size := HB3J.out.size
    clear hcell hxl hux hbJ hJ2
    go_wp2_with fail
    refine (mof_any wo T).mono ?_
    rintro e wa ⟨p, rfl, hp5, hma, hba⟩
    have hsa := hba.size
    have hpa := hma.lt
    have HB3a := Lib.hid (HB3J.out.trans (hba.mono hs3J))
    have HO3 := Lib.hid (HO.out.below HB3a.out (Nat.le_refl _))
    have HUA := Lib.hid (show Us (fun b => b ≠ p) wa (.slice Ax Mx cx) xs0 from HUX.out.step hba.size fun b hb hx => ⟨by have : b < wX.heap.size := hx; omega, hba.block b hb⟩)
    have hbXa := Lib.hid (HBJ.out.trans (hba.mono hsJ))
    have hsXa : wX.heap.size ≤ wa.heap.size := by omega
    have hp : w3.heap.size ≤ p := by omega
    have hs3a : w3.heap.size ≤ wa.heap.size := by omega
    obtain ⟨S, hS⟩ : ∃ S, S = wa.heap.size := ⟨_, rfl⟩
    have hSa : wa.heap.size ≤ S := Nat.le_of_eq hS.symm
    have hSa' : S ≤ wa.heap.size := Nat.le_of_eq hS
    have hpS : p < S := by omega
    obtain ⟨xx1, xx2, xx3, xx4⟩ := HUA.out.rd
    unfold maxLen at xx3
    obtain ⟨a0, ha0⟩ : ∃ a0 : Int, a0 = 0 := ⟨_, rfl⟩
    obtain ⟨sb, hsb⟩ : ∃ sb : Int, sb = 0 := ⟨_, rfl⟩
    obtain ⟨tx, htx⟩ : ∃ tx, rewA rs a0 xs0 = tx := ⟨_, rfl⟩
    have hma0 : MAt wa p T [] (a0 + (0 : Nat) - ([] : List Int).length) (sb + 0) := by rw [ha0, hsb]; exact hma
    have HMA0 := Lib.hid hma0
    have HA0 := Lib.hid ha0
    have hsb1 : 0 ≤ sb := by omega
    have hsb2 : sb ≤ 0 := by omega
    have ha01 : 0 ≤ a0 := by omega
    have ha02 : a0 ≤ 0 := by omega
    have HTX := Lib.hid htx
    have HTX0 := Lib.hid (show [] ++ rewA rs (a0 + (0 : Nat) - ([] : List Int).length) ([] ++ xs0.drop 0) = tx by simpa using htx)
    clear hba hma xx1 xx4 hS ha0 hsb hma0 htx HUX
    go_wp2
    go_loopw [13, 48] (fun v i wr => ∃ (K : Nat) (q : List Int) (st : Int) (acc : List Tk), K ≤ Mx ∧ i = .int .i64 K ∧ Hid (MS rs xs0 K q st) ∧ Hid (MAt wr p T q (a0 + K - q.length) (sb + st)) ∧ Hid (OwnTkB S wr v acc) ∧ acc.length + q.length ≤ 0 + K ∧ Hid (acc ++ rewA rs (a0 + K - q.length) (q ++ xs0.drop K) = tx) ∧ Hid (wa.grownBy wr (some p))) (fun _ i _ => Mx - (intOf i).toNat)
    case atStart => exact ⟨0, [], 0, [], by omega, rfl, MS.start _ _, HMA0.out, OwnTkB.nil _ _, by simp, HTX0, grownR _ _⟩
    case round =>
      obtain ⟨K, q, st, acc, hK, rfl, HS, HMR, HOR, hcnt, HEQ, HGR⟩ := hrel
      have HUR := Lib.hid (HUA.out.past HGR.out (fun b hb => hb))
      have hsr := HGR.out.size
      have hlen := HS.out.len
      have hstp := HS.out.steps
      have hq7 := opens_lt HGD.out HS.out.open_
      obtain ⟨Av, cv, rfl, hatv⟩ := HOR.out.form
      have hav2 := hatv.fits
      have hav3 := hatv.small
      unfold maxLen at hav3
      have HBR := Lib.hid (below_of HGR.out hp hs3a)
      clear hatv
      by_cases hKn : K = Mx
      · have hK' : ¬ K < Mx := by omega
        have hlk := HGD.out.looksE_le q 7 hq7
        have heq := all_end (by rw [HMX.out, hKn]; exact Nat.le_refl _) HEQ.out
        obtain ⟨t2, ht2⟩ : ∃ t2, rewA rs (a0 + K - q.length) q = t2 := ⟨_, rfl⟩
        obtain ⟨Le, hLe⟩ : ∃ Le, looksE rs q = Le := ⟨_, rfl⟩
        have htl := HGD.out.rew_len q (a0 + K - q.length)
        rw [ht2] at heq htl
        rw [hLe] at hlk
        obtain ⟨m2, hm2⟩ : ∃ m2, t2.length = m2 := ⟨_, rfl⟩
        rw [hm2] at htl
        have HT2 := Lib.hid ht2
        have HLE := Lib.hid hLe
        have HEQ2 := Lib.hid heq
        have HM2 := Lib.hid hm2
        have HKM := Lib.hid hKn
        clear hKn ht2 hLe heq hm2
        go_wp2_with fail
        refine (mend_any wr p T q _ _ HMR.out w3.heap.size rs (HO3.out.below HBR.out (Nat.le_refl _)) hp (by omega) (by omega) (by omega) (by omega) t2 HT2.out).mono ?_
        rintro en w6 ⟨v6, rfl, ho6, hm6, hg6⟩
        rw [HLE.out, show a0 + (K : Int) - q.length + q.length = a0 + K from by omega] at hm6
        obtain ⟨xs, hown, hx⟩ := HOR.out
        obtain ⟨ys, hown6, hy⟩ := ho6
        obtain ⟨A6, c6, rfl, hc6, hm6c⟩ := own_form hown6
        rw [HM2.out] at hown6 hc6 ⊢
        have hkeep := own_kept hown hg6 hpS
        have hs6 := hg6.size
        go_wp2_with (at_builtin; refine wpList_appB _ rfl _ _ 36 rfl S 49 i0 _ 4 48 Try.underlying36 hi hz0 HZ1 hz2 rfl (by decide) _ _ _ rfl hkeep w6.heap.size A6 m2 c6 ys rfl ?c1 (Rd.own hown6) ?c2 ?c3 ?c4 ?c5 ?_)
        case c1 => exact hown6.1
        case c2 => exact hy.ones
        case c3 => simp only [maxLen]; omega
        case c4 => omega
        case c5 => omega
        intro v7 w7 hown7 hg7 hv7
        have htold := told HM2.out hpS (by omega) hSa HGR.out hown hx (by rw [HM2.out]; exact hown6) hy hm6 hg6 hown7 hg7 hv7
        obtain ⟨ho7, hm7, hg7'⟩ := htold
        rw [HEQ2.out] at ho7
        have HO7 := Lib.hid ho7
        have HM7 := Lib.hid hm7
        have HG7 := Lib.hid hg7'
        clear hown7 hg7 hv7 ho7 hm7 hg7' hown6 hy hm6 hg6 hown hx hkeep
        obtain ⟨Ao, co, rfl, hato⟩ := HO7.out.form
        obtain ⟨Lx, hLx⟩ : ∃ Lx, tx.length = Lx := ⟨_, rfl⟩
        rw [hLx] at hato ⊢
        have HAT7 := Lib.hid hato
        have HLX := Lib.hid hLx
        have HB37 := Lib.hid (HB3a.out.trans (below_of HG7.out hp hs3a))
        have HBX7 := Lib.hid (hbXa.out.trans (below_of HG7.out (by omega) hsXa))
        have hs7 := HG7.out.size
        have HUX7 := Lib.hid (HUA.out.past HG7.out (fun b hb => hb))
        obtain ⟨r1, r2, r3, r4⟩ := HUX7.out.rd
        have HRX := Lib.hid (r4.rd (Nat.le_refl w7.heap.size))
        have HTX1 := Lib.hid (show rewA rs 0 xs0 = tx by rw [← HA0.out]; exact HTX.out)
        clear hLx hato r1 r4
        go_wp2_with fail
        refine (lall_any N A2 c2 rs w3.heap.size w7 (HAT3.out.below HB37.out (Nat.le_refl _)) HGD.out (by omega) Mx Ax cx xs0 w7.heap.size HMX.out.symm HRX.out (Nat.le_refl _) r2 r3 (by omega) tx HTX1.out).mono ?_
        rintro e w8 ⟨v8, rfl, ho8, hb8⟩
        obtain ⟨A8, c8, rfl, hat8⟩ := ho8.form
        rw [HLX.out] at hat8 ⊢
        have hs8 := hb8.size
        have HAT8 := Lib.hid hat8
        have HM8 := Lib.hid (HM7.out.below hb8 HM7.out.lt)
        have HAT78 := Lib.hid (HAT7.out.below hb8 (Nat.le_refl _))
        have HBX8 := Lib.hid (HBX7.out.trans (hb8.mono (by omega)))
        clear ho8 hat8 hb8
        go_wp2_with fail
        refine (same_below Lx Ao A8 co c8 tx w7.heap.size w8.heap.size w8 HAT78.out HAT8.out).mono ?_
        rintro e w9 ⟨rfl, hb9⟩
        have HM9 := Lib.hid (HM8.out.below hb9 HM8.out.lt)
        have HBX9 := Lib.hid (HBX8.out.trans (hb9.mono (by omega)))
        clear hb9
        go_wp2_with fail
        refine (mheld_any w9 p T _ _ _ HM9.out 0 rfl).mono ?_
        rintro e w' ⟨rfl, rfl⟩
        clear hK'
        go_wp2
        go_roundw
        case rel => exact ⟨J + 1, by omega, by go_num, HBX9.out⟩
        case measure => simp [intOf]; omega
      have hK' : K < Mx := by omega
      have hK1 : K < xs0.length := by rw [HMX.out]; exact hK'
      obtain ⟨q1', q2', q3', q4'⟩ := HUR.out.rd
      obtain ⟨bu, ou, rfl, hbl, hcell⟩ := rd_ints (q4'.rd (Nat.le_refl wr.heap.size)) (by omega)
      have k1 := hcell K hK1
      obtain ⟨u, hu⟩ : ∃ u, xs0.getD K 0 = u := ⟨_, rfl⟩
      rw [hu] at k1
      obtain ⟨⟨t2, rest, k⟩, hd⟩ : ∃ x, drain rs (a0 + K - q.length) (q ++ [u]) = x := ⟨_, rfl⟩
      have hst := HS.out.step (ts := t2) (rest := rest) (k := k) (at_ := a0 + K - q.length) HGD.out hK1 (by rw [hu]; exact hd)
      have hal := all_step (t2 := t2) (rest := rest) (k := k) HGD.out hK1 (by rw [hu]; exact hd) HEQ.out
      obtain ⟨m2, hm2⟩ : ∃ m2, t2.length = m2 := ⟨_, rfl⟩
      have hts8 := hst.2.1
      have hal2 := hal.2
      rw [hm2] at hts8 hal2
      have hal1 := hal.1
      rw [show a0 + (K : Int) - q.length + q.length + 1 - rest.length = a0 + ((K + 1 : Nat) : Int) - rest.length from by omega] at hal1
      have HD := Lib.hid hd
      have HS2 := Lib.hid hst.1
      have HEQ2 := Lib.hid hal1
      have HM2 := Lib.hid hm2
      have hr7 := hst.2.2
      have e4 : (0 : Int) ≤ K := by omega
      have e5 : (K : Int) < Mx := by omega
      clear hcell hu hd hst hal hal1 hm2 q1' q4'
      go_wp2_with fail
      refine (mput_any wr p T q _ _ u HMR.out hq7 w3.heap.size rs (HO3.out.below HBR.out (Nat.le_refl _)) hp (by omega) (by omega) (by omega) (by omega) t2 rest k HD.out).mono ?_
      rintro e w6 ⟨v6, rfl, ho6, hm6, hg6⟩
      rw [show a0 + (K : Int) - q.length + q.length + 1 - rest.length = a0 + ((K + 1 : Nat) : Int) - rest.length from by omega, Int.add_assoc] at hm6
      obtain ⟨xs, hown, hx⟩ := HOR.out
      obtain ⟨ys, hown6, hy⟩ := ho6
      obtain ⟨A6, c6, rfl, hc6, hm6c⟩ := own_form hown6
      rw [HM2.out] at hown6 hc6 ⊢
      have hkeep := own_kept hown hg6 hpS
      have hs6 := hg6.size
      go_wp2_with (at_builtin; refine wpList_appB _ rfl _ _ 36 rfl S 49 i0 _ 4 48 Try.underlying36 hi hz0 HZ1 hz2 rfl (by decide) _ _ _ rfl hkeep w6.heap.size A6 m2 c6 ys rfl ?c1 (Rd.own hown6) ?c2 ?c3 ?c4 ?c5 ?_)
      case c1 => exact hown6.1
      case c2 => exact hy.ones
      case c3 => simp only [maxLen]; omega
      case c4 => omega
      case c5 => omega
      intro v7 w7 hown7 hg7 hv7
      have htold := told HM2.out hpS (by omega) hSa HGR.out hown hx (by rw [HM2.out]; exact hown6) hy hm6 hg6 hown7 hg7 hv7
      obtain ⟨ho7, hm7, hg7'⟩ := htold
      have HO7 := Lib.hid ho7
      have HM7 := Lib.hid hm7
      have HG7 := Lib.hid hg7'
      clear hown7 hg7 hv7 ho7 hm7 hg7' hown6 hy hm6 hg6 hown hx hkeep
      go_wp2
      go_roundw
      case rel => exact ⟨K + 1, rest, st + k, acc ++ t2, by omega, by go_num, HS2, HM7, HO7, by rw [List.length_append, HM2.out]; omega, HEQ2, HG7⟩
      case measure => simp [intOf]; omega
end Go.Proofs.Ytmjcnopkckkaoaa
