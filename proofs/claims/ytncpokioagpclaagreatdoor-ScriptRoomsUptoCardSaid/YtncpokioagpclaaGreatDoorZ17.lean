/- Texts of this seat, one behind the other: VnB. -/
import Derived.Test.YtncpokioagpclaaGreatDoorZ16
import Derived.Deep.DeepCutAuto
namespace Go.Proofs.YtncpokioagpclaaGreatDoor
set_option linter.unusedVariables false
set_option linter.unusedSimpArgs false
set_option linter.unnecessarySimpa false
open Go.RowKit Go.Shelf
attribute [local go_sem] run_store_complex

set_option maxHeartbeats 3200000 in
set_option maxRecDepth 100000 in
theorem vnsmall_at (k : Nat) (hk : k < 74) (w : World) (hT : TabN w) :
    Calls Tryz.prog 126 #[.agg (letV k)] w fun e w' => ∃ v, e = .returned v ∧ IR w' w.heap.size v (vnL k) ∧ Below w.heap.size w w' := by
  have hls := letter_small k (by omega)
  have hv : letV k = #[.int .i64 (LB k), .complex .f64 (fl (LM k)) (fl (LT k))] := rfl
  have HJ := Lib.hid (fun W h => join_any (LB k) (fl (LM k)) (fl (LT k)) W h)
  rw [show joinF (LB k) (fl (LM k)) (fl (LT k)) = some k from join_of k (by omega)] at HJ
  simp only [Option.isSome_some, jS] at HJ
  have HBA := Lib.hid (fun W => vnbase_any k hk W)
  have HW := Lib.hid (fun W => vnwhole_any (LS k) W)
  have hL := vnL_is k hk
  have hcr := vnC_range k hk
  have hcM := flInt (LM k) 
  have hcT := flInt (LT k) (by omega)
  have hbas := (show 97 ≤ LB k by
    have := all_range (show (List.range 74).all (fun k => decide (97 ≤ LB k)) = true by decide +kernel) k hk
    simpa using this)
  have hwm := vnW_mark k hk
  have HC := Lib.hid (fun (W : World) (h : SigN W) (hm : LM k ≤ 3) => h.cell (LM k) (LT k) hm (by omega))
  have hce : vnC k = vnSg.getD (LM k * 6 + LT k) 0 := rfl
  rw [← hce] at HC
  obtain ⟨_, hlt, _⟩ := hls
  rw [hv] at HBA ⊢
  obtain ⟨c, hc⟩ : ∃ v, vnC k = v := ⟨_, rfl⟩
  obtain ⟨L, hLe⟩ : ∃ v, vnL k = v := ⟨_, rfl⟩
  obtain ⟨B, hB⟩ : ∃ v, vnB k = v := ⟨_, rfl⟩
  obtain ⟨x, hx⟩ : ∃ v, vnW (LS k) = v := ⟨_, rfl⟩
  obtain ⟨s, hs⟩ : ∃ v, LS k = v := ⟨_, rfl⟩
  obtain ⟨bx, hbx⟩ : ∃ v, LB k = v := ⟨_, rfl⟩
  obtain ⟨rx, hrx⟩ : ∃ v, fl (LM k) = v := ⟨_, rfl⟩
  obtain ⟨ix, hix⟩ : ∃ v, fl (LT k) = v := ⟨_, rfl⟩
  obtain ⟨M, hM⟩ : ∃ v, LM k = v := ⟨_, rfl⟩
  obtain ⟨T, hTn⟩ : ∃ v, LT k = v := ⟨_, rfl⟩
  rw [hs] at HJ HW
  rw [hs] at hx
  rw [hx] at HW
  rw [hs, hx] at hL hwm
  rw [hM] at hwm
  rw [hc, hM, hTn] at HC
  rw [hc] at hcr
  rw [hLe, hc, hB] at hL
  rw [hbx] at hbas
  rw [hbx, hrx, hix] at HJ HBA
  rw [hB] at HBA
  rw [hrx, hM] at hcM
  rw [hix, hTn] at hcT
  rw [hTn] at hlt
  rw [hbx, hrx, hix, hLe]
  have HT := Lib.hid hT
  have HL := Lib.hid hL
  clear hv hce hc hLe hB hx hs hbx hrx hix hM hTn hT hL
  go_enter Tryz.func126, Tryz.ntmps126
  go_wp2_with fail
  have hq0 := Held.new w #[.int .i64 bx, .complex .f64 rx ix] 141
  have hb0 : Below w.heap.size w (w.alloc (.cells #[.int .i64 bx, .complex .f64 rx ix] 141)) := (Below.refl _ w).alloc (Nat.le_refl _) _
  refine (HJ.out _ (HT.out.below hb0).rows).mono ?_
  rintro e w1 ⟨rfl, hb1⟩
  have hq1 := hq0.below hb1 (by simp)
  have hs1 := hb1.size
  have HB1 := Lib.hid (hb0.trans (hb1.mono (by simp)))
  have c0 := hq1.cell 0
  have c1 := hq1.cell 1
  have hp1 := hq1.lt
  have HQ1 := Lib.hid hq1
  obtain ⟨p, hp⟩ : ∃ p, w.heap.size = p := ⟨_, rfl⟩
  have hpl : w.heap.size ≤ p := by omega
  rw [hp] at c0 c1 hp1 HQ1 HB1 ⊢
  clear hb1 hq0 hb0 HJ hq1 hp hs1
  have hb97 : ¬ bx < 97 := by omega
  go_wp2_with fail
  refine (HW.out w1).mono ?_
  rintro e w2 ⟨rfl, hw2⟩
  rw [hw2]
  clear hw2 w2
  by_cases hx0 : x = 0
  · subst hx0
    rw [if_pos rfl] at HL
    have hM3 := hwm rfl
    go_wp2_with fail
    refine (HBA.out w1).mono ?_
    rintro e w3 ⟨rfl, hb3⟩
    have hs3 := hb3.size
    have HB3 := Lib.hid (HB1.out.trans (hb3.mono (by have := HB1.out.size; omega)))
    have hq3 := HQ1.out.below hb3 hp1
    have hp3 := hq3.lt
    have hT3 := HT.out.below (HB3.out.mono hpl)
    have HO3 := Lib.hid (show IR (w3.alloc (.cells #[.int .i64 B] 3)) p (.slice (some ⟨w3.heap.size, 0, none⟩) 1 1) [B] from (IR.new w3 B).low (by omega))
    have hb4 : Below w3.heap.size w3 (w3.alloc (.cells #[.int .i64 B] 3)) := (Below.refl _ w3).alloc (Nat.le_refl _) _
    have hq4 := hq3.below hb4 hp3
    have HB4 := Lib.hid (HB3.out.trans (hb4.mono (by omega)))
    have hcc := HC.out _ (hT3.below hb4).sigs hM3
    go_upto_region 8 with fail
    obtain ⟨g, hg⟩ : ∃ g, w3.heap.size = g := ⟨_, rfl⟩
    obtain ⟨W4, hW4⟩ : ∃ W4, w3.alloc (.cells #[.int .i64 B] 3) = W4 := ⟨_, rfl⟩
    have hgp : p < g := by omega
    have hs4 : g + 1 = W4.heap.size := by rw [← hW4, ← hg]; simp
    rw [hW4] at hq4 hcc HO3 HB4 ⊢
    rw [hg] at HO3 ⊢
    have d1 := hq4.cell 1
    have hHM : ∀ W, (convert 199 3 (.float .f64 rx)).run Tryz.prog W = .ok (.int .i64 (M : Int)) W := fun W => run_convert_float_int W _ _ _ _ _ _ (by kernel_rfl) Tryz.underlying3 (hcM (by omega))
    have hHT : ∀ W, (convert 199 3 (.float .f64 ix)).run Tryz.prog W = .ok (.int .i64 (T : Int)) W := fun W => run_convert_float_int W _ _ _ _ _ _ (by kernel_rfl) Tryz.underlying3 hcT
    clear hb3 hb4 hg hW4 hq3 hT3 hcM hcT HQ1 c0 c1
    have m0 : (0 : Int) ≤ M := by omega
    have m1 : (M : Int) < 4 := by omega
    have t0 : (0 : Int) ≤ T := by omega
    have t1 : (T : Int) < 6 := by omega
    go_quiet (fail)
    have HB5 := Lib.hid (show Below p w (W4.drewN nq) from HB4.out.trans ⟨rfl, rfl, rfl, Nat.le_refl _, fun _ _ => rfl⟩)
    have HO5 := Lib.hid (HO3.out.drewN nq)
    have hs5 : g + 1 = (W4.drewN nq).heap.size := hs4
    obtain ⟨W5, hW5⟩ : ∃ W5, W4.drewN nq = W5 := ⟨_, rfl⟩
    rw [hW5] at HB5 HO5 hs5 ⊢
    clear hW5 HO3 HB4 d1 hcc hq4 hHM hHT HB3
    by_cases hc0 : c = 0
    · rw [if_pos hc0] at HL
      have q0 : (c != 0) = false := by rw [hc0]; rfl
      clear hc0
      go_wp2
      go_ret
      exact ⟨_, rfl, by rw [HL.out]; exact HO5.out.low hpl, HB5.out.mono hpl⟩
    · rw [if_neg hc0] at HL
      have q0 : (c != 0) = true := by simpa using hc0
      have hw8 : IntKind.i64.wrap c = c := by rw [IntKind.wrap_i64]; omega
      clear hc0
      go_wp2_with (at_builtin; refine wpList_appI1 rfl _ _ rfl p (.slice (some ⟨g, 0, none⟩) 1 1) [B] c rfl HO5.out _ rfl rfl (by simp) (by omega) ?_; intro v6 w6 hO6 hG6)
      go_ret
      exact ⟨_, rfl, by rw [HL.out]; exact hO6.out.low hpl, (IR.keepsB HB5.out hG6.out HO5.out (Nat.le_refl _) (by omega)).mono hpl⟩
  · have hx0' : (x == 0) = false := by simpa using hx0
    rw [if_neg hx0] at HL
    go_wp2
    go_ret
    exact ⟨_, rfl, by rw [HL.out]; exact (IR.new w1 x).low (by omega), (HB1.out.alloc (by omega) _).mono hpl⟩
end Go.Proofs.YtncpokioagpclaaGreatDoor
namespace Go.Proofs.YtncpokioagpclaaGreatDoor
set_option linter.unusedVariables false
set_option linter.unusedSimpArgs false
set_option linter.unnecessarySimpa false
open Go.RowKit Go.Shelf
attribute [local go_sem] run_store_complex

/-- the first K ints by 32 less -/
def lowN (zs : List Int) (K : Nat) : List Int := (zs.take K).map (· - 32) ++ zs.drop K
theorem lowN_zero (zs : List Int) : lowN zs 0 = zs := by simp [lowN]
theorem lowN_all (zs : List Int) (K : Nat) (h : zs.length ≤ K) : lowN zs K = zs.map (· - 32) := by
  unfold lowN; rw [List.take_of_length_le h, List.drop_of_length_le h]; simp
theorem lowN_len (zs : List Int) (K : Nat) : (lowN zs K).length = zs.length := by simp [lowN]; omega
theorem lowN_get (zs : List Int) (K : Nat) (h : K < zs.length) : (lowN zs K).getD K 0 = zs.getD K 0 := by
  unfold lowN
  rw [List.getD_eq_getElem?_getD, List.getElem?_append_right (by simp; omega), List.getElem?_drop, List.getD_eq_getElem?_getD]
  congr 2
  simp; omega
theorem lowN_set (zs : List Int) (K : Nat) (h : K < zs.length) : (lowN zs K).set K (zs.getD K 0 - 32) = lowN zs (K + 1) := by
  unfold lowN
  have hl : ((zs.take K).map (· - 32)).length = K := by simp; omega
  rw [List.set_append_right _ _ (by omega), hl, Nat.sub_self, List.take_succ_eq_append_getElem h, List.map_append]
  simp only [List.getD_eq_getElem?_getD, List.getElem?_eq_getElem h, Option.getD_some, List.append_assoc]
  congr 1
  rw [List.drop_eq_getElem_cons h]
  rfl
theorem great_low (k : Nat) (h : 74 ≤ k) (h1 : k < 148) : LB k < 97 ∧ LB k + 32 = LB (k - 74) ∧ LM k = LM (k - 74) ∧ LT k = LT (k - 74) := by
  have := all_range (show (List.range 148).all (fun k => decide (74 ≤ k → LB k < 97 ∧ LB k + 32 = LB (k - 74) ∧ LM k = LM (k - 74) ∧ LT k = LT (k - 74))) = true by decide +kernel) k h1
  exact of_decide_eq_true this h
theorem vnsmall_base (k : Nat) (h : k < 74) : 97 ≤ LB k := by
  have := all_range (show (List.range 74).all (fun k => decide (97 ≤ LB k)) = true by decide +kernel) k h
  simpa using this

set_option maxHeartbeats 1600000 in
theorem vneither_any (k : Nat) (hk : k < 148) (w : World) (hT : TabN w) :
    Calls Tryz.prog 88 #[.agg (letV k)] w fun e w' => ∃ v, e = .returned v ∧ IR w' w.heap.size v (vnL k) ∧ Below w.heap.size w w' := by
  have HT := Lib.hid hT
  clear hT
  have hv : letV k = #[.int .i64 (LB k), .complex .f64 (fl (LM k)) (fl (LT k))] := rfl
  by_cases h74 : k < 74
  · have HS := Lib.hid (fun W h => vnsmall_at k h74 W h)
    have hb := vnsmall_base k h74
    rw [hv] at HS ⊢
    obtain ⟨L, hLe⟩ : ∃ v, vnL k = v := ⟨_, rfl⟩
    obtain ⟨bx, hbx⟩ : ∃ v, LB k = v := ⟨_, rfl⟩
    obtain ⟨rx, hrx⟩ : ∃ v, fl (LM k) = v := ⟨_, rfl⟩
    obtain ⟨ix, hix⟩ : ∃ v, fl (LT k) = v := ⟨_, rfl⟩
    rw [hLe, hbx, hrx, hix] at HS
    rw [hbx] at hb
    rw [hLe, hbx, hrx, hix]
    clear hv hLe hbx hrx hix
    go_enter Tryz.func88, Tryz.ntmps88
    go_wp2_with fail
    have hb0 : Below w.heap.size w (w.alloc (.cells #[.int .i64 bx, .complex .f64 rx ix] 141)) := (Below.refl _ w).alloc (Nat.le_refl _) _
    refine (HS.out _ (HT.out.below hb0)).mono ?_
    rintro e w1 ⟨v, rfl, hO, hb1⟩
    have HO := Lib.hid (hO.low (base' := w.heap.size) (by simp))
    have HB := Lib.hid (hb0.trans (hb1.mono (by simp)))
    clear hO hb1 hb0 HS
    go_wp2_with fail
    go_ret
    exact ⟨_, rfl, HO.out, HB.out⟩
  · obtain ⟨hlow, g1, g2, g3⟩ := great_low k (by omega) hk
    have HS := Lib.hid (fun W h => vnsmall_at (k - 74) (by omega) W h)
    have hv2 : letV (k - 74) = #[.int .i64 (LB (k - 74)), .complex .f64 (fl (LM (k - 74))) (fl (LT (k - 74)))] := rfl
    have hLL := vnL_great (k - 74) (by omega)
    have hln := vnL_len (k - 74) (by omega)
    have hby := vnL_byte (k - 74) (by omega)
    have hls := letter_small k hk
    rw [show k - 74 + 74 = k by omega] at hLL
    rw [hv2, ← g1, ← g2, ← g3] at HS
    rw [hv]
    obtain ⟨L, hLe⟩ : ∃ v, vnL k = v := ⟨_, rfl⟩
    obtain ⟨Z, hZ⟩ : ∃ v, vnL (k - 74) = v := ⟨_, rfl⟩
    obtain ⟨bx, hbx⟩ : ∃ v, LB k = v := ⟨_, rfl⟩
    obtain ⟨rx, hrx⟩ : ∃ v, fl (LM k) = v := ⟨_, rfl⟩
    obtain ⟨ix, hix⟩ : ∃ v, fl (LT k) = v := ⟨_, rfl⟩
    rw [hZ, hbx, hrx, hix] at HS
    rw [hLe, hZ] at hLL
    rw [hZ] at hln hby
    rw [hbx] at hlow hls
    rw [hLe, hbx, hrx, hix]
    have HLL := Lib.hid hLL
    have HBY := Lib.hid hby
    have hw : IntKind.i64.wrap (bx + 32) = bx + 32 := by rw [IntKind.wrap_i64]; omega
    have h97 : ¬ 97 ≤ bx := by omega
    clear hv hLe hbx hrx hix hZ hv2 g1 g2 g3 hLL hby hls
    go_enter Tryz.func88, Tryz.ntmps88
    go_wp2_with fail
    have hb0 : Below w.heap.size w (w.alloc (.cells #[.int .i64 bx, .complex .f64 rx ix] 141)) := (Below.refl _ w).alloc (Nat.le_refl _) _
    refine (HS.out _ (HT.out.below hb0)).mono ?_
    rintro e w1 ⟨v, rfl, hO, hb1⟩
    have hO' := hO.low (base' := w.heap.size) (by simp)
    obtain ⟨g, c, rfl, hgb, hgl⟩ := hO'.formG (by omega)
    have HO := Lib.hid (show IR w1 w.heap.size (.slice (some ⟨g, 0, none⟩) Z.length c) (lowN Z 0) by rw [lowN_zero]; exact hO')
    have HB := Lib.hid (hb0.trans (hb1.mono (by simp)))
    obtain ⟨n, hn⟩ : ∃ n, Z.length = n := ⟨_, rfl⟩
    rw [hn] at HO hln ⊢
    have HN := Lib.hid hn
    clear hO hO' hb1 hb0 HS hgl hn
    go_wp2_with fail
    go_loopw [4, 19] (fun q i wr => ∃ K : Nat, K ≤ n ∧ i = .int .i64 K ∧ Hid (IR wr w.heap.size (.slice (some ⟨g, 0, none⟩) n c) (lowN Z K)) ∧ Hid (Below w.heap.size w wr)) (fun _ i _ => n - (intOf i).toNat)
    case atStart => exact ⟨0, by omega, rfl, HO, HB⟩
    case round =>
      clear HO HB
      obtain ⟨K, hK, rfl, HO, HB⟩ := hrel
      by_cases hKn : K = n
      · have HF := Lib.hid (show lowN Z K = L by rw [HLL.out]; exact lowN_all _ _ (by rw [HN.out]; omega))
        have hKl : ¬ K < n := by omega
        clear hKn
        go_wp2
        go_ret
        exact ⟨_, rfl, by rw [← HF.out]; exact HO.out, HB.out⟩
      have hKl : K < n := by omega
      have hKz : K < Z.length := by rw [HN.out]; exact hKl
      have hx := HO.out.cellAt K (by rw [lowN_len]; exact hKz)
      rw [lowN_get Z K hKz] at hx
      have hst := HO.out.set K (Z.getD K 0 - 32)
      rw [lowN_set Z K hKz] at hst
      have hxr := getD_range HBY.out K hKz
      have hfr := HO.out.frozenAt K
      have HST := Lib.hid hst
      obtain ⟨x, hxe⟩ : ∃ x, Z.getD K 0 = x := ⟨_, rfl⟩
      rw [hxe] at hx hxr HST
      have hw32 : IntKind.i64.wrap (x - 32) = x - 32 := by rw [IntKind.wrap_i64]; omega
      clear hxe hst
      go_wp2_with fail
      go_roundw
      case rel => exact ⟨K + 1, by omega, by go_num, HST, Lib.hid (HB.out.setCell (p := ⟨g, K, none⟩) hgb _)⟩
      case measure => simp [intOf]; omega
end Go.Proofs.YtncpokioagpclaaGreatDoor
