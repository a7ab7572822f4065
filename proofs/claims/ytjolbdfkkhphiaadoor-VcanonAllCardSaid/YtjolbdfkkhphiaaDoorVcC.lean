/- Layer 10: signsOf, Apart. -/
import Derived.Test.YtjolbdfkkhphiaaDoorVcA
namespace Go.Proofs.YtjolbdfkkhphiaaDoor
set_option linter.unusedVariables false
set_option linter.unusedSimpArgs false
set_option linter.unnecessarySimpa false
open Go.RowKit Go.Shelf
attribute [local go_sem] run_store_complex

theorem ord_eq10 (a b : Nat) : (FloatKind.f64.format.order a b == some .eq) = feq a b := rfl
theorem sig_ix : ∀ (K : Nat) (h : K < 8) (W : World), (Instr.index 70 (.agg sigC) (.int .i64 (K : Int))).run Tryd.prog W = .ok (.int .i64 (mkS K)) W
  | 0, _, _ => rfl
  | 1, _, _ => rfl
  | 2, _, _ => rfl
  | 3, _, _ => rfl
  | 4, _, _ => rfl
  | 5, _, _ => rfl
  | 6, _, _ => rfl
  | 7, _, _ => rfl
/-- which signs letter k has -/
def apP (k j : Nat) : Bool := (mM j == LM k && mT j == 0) || (mM j == 0 && mT j == LT k)
def apN (k K : Nat) : List Int := ((List.range K).filter (apP k)).map mkS
theorem apN_succ (k K : Nat) : apN k (K + 1) = if apP k K = true then apN k K ++ [mkS K] else apN k K := by
  unfold apN
  rw [List.range_succ, List.filter_append, List.map_append]
  cases h : apP k K <;> simp [h]
theorem apN_len (k K : Nat) : (apN k K).length ≤ K := by
  unfold apN
  rw [List.length_map]
  exact Nat.le_trans (List.length_filter_le _ _) (by simp)
theorem apN_all (k : Nat) : apN k 8 = apS k := rfl

set_option maxHeartbeats 3200000 in
theorem signsOf_any (k : Nat) (hk : k < 148) (w : World) (hT : TabV w) :
    Calls Tryd.prog 31 #[.agg (letV k)] w fun e w' => ∃ v, e = .returned v ∧ IR w' w.heap.size v (apS k) ∧ Below w.heap.size w w' := by
  have HT := Lib.hid hT
  clear hT
  have hls := letter_small k hk
  have hv : letV k = #[.int .i64 (LB k), .complex .f64 (fl (LM k)) (fl (LT k))] := rfl
  have HAP := Lib.hid (fun K => apN_succ k K)
  have HAL := Lib.hid (apN_all k)
  have HLN := Lib.hid (apN_len k)
  have HP := Lib.hid (fun (K : Nat) (h : K < 8) => show apP k K = ((feq (fl (mM K)) (fl (LM k)) && feq (fl (mT K)) 0) || (feq (fl (mM K)) 0 && feq (fl (mT K)) (fl (LT k)))) by
    have h2 := mk_fl K h
    unfold apP
    rw [feq_fl _ _ (by omega) (by omega), feq_fl _ _ (by omega) (by omega), feq_zero _ (by omega), feq_zero _ (by omega)])
  rw [hv]
  obtain ⟨bx, hbx⟩ : ∃ v, LB k = v := ⟨_, rfl⟩
  obtain ⟨rx, hrx⟩ : ∃ v, fl (LM k) = v := ⟨_, rfl⟩
  obtain ⟨ix, hix⟩ : ∃ v, fl (LT k) = v := ⟨_, rfl⟩
  rw [hrx, hix] at HP
  rw [hbx, hrx, hix]
  clear hv hbx hrx hix hls
  go_enter Tryd.func31, Tryd.ntmps31
  go_wp2_with fail
  have q1 := Held.new w #[.int .i64 bx, .complex .f64 rx ix] 35
  have hb1 : Below w.heap.size w (w.alloc (.cells #[.int .i64 bx, .complex .f64 rx ix] 35)) := (Below.refl _ w).alloc (Nat.le_refl _) _
  obtain ⟨W1, hW1⟩ : ∃ W1, w.alloc (.cells #[.int .i64 bx, .complex .f64 rx ix] 35) = W1 := ⟨_, rfl⟩
  rw [hW1] at q1 hb1 ⊢
  have HT1 := Lib.hid (HT.out.below hb1)
  have c1 := q1.cell 1
  have hp1 := q1.lt
  have HB1 := Lib.hid hb1
  have hs1 := hb1.size
  clear hW1 hb1
  go_quiet (fail)
  have hb2 : Below w.heap.size w (W1.drewN nq) := below_drewN9 HB1.out nq
  have hT2 : TabV (W1.drewN nq) := HT.out.below hb2
  obtain ⟨W2, hW2⟩ : ∃ W2, W1.drewN nq = W2 := ⟨_, rfl⟩
  rw [hW2] at hb2 hT2 ⊢
  clear hW2 HB1 HT1 c1 q1 hp1 hs1
  clear W1
  have HB2 := Lib.hid hb2
  obtain ⟨tt, fr, hblk⟩ := hT2.sigs.block
  obtain ⟨RC, hRC⟩ : ∃ RC, sigC = RC := ⟨_, rfl⟩
  have HIX := Lib.hid (fun K h W => sig_ix K h W)
  have HSZ := Lib.hid (show (Tryd.prog.info? 70).map (·.size) = some sigC.size by kernel_rfl)
  rw [hRC] at hblk HIX HSZ
  clear hRC hb2 hT2
  go_wp2_with (refine wpList_load_row rfl 70 _ rfl 1 rfl tt RC fr _ hblk Tryd.underlying70 rfl HSZ.out ?_)
  clear hblk
  go_loopw [5, 19] (fun v i wr => ∃ K : Nat, K ≤ 8 ∧ i = .int .i64 K ∧ Hid (IR wr w.heap.size v (apN k K)) ∧ Hid (Below w.heap.size w wr)) (fun _ i _ => 8 - (intOf i).toNat)
  case atStart => exact ⟨0, by omega, rfl, Lib.hid (IR.nil _ _), HB2⟩
  case round =>
    obtain ⟨K, hK, rfl, HO, HB⟩ := hrel
    clear HB2
    by_cases h8 : K = 8
    · subst h8
      rw [HAL.out] at HO
      go_wp2
      go_ret
      exact ⟨_, rfl, HO.out, HB.out⟩
    have hK8 : K < 8 := by omega
    have hKi : (K : Int) < 8 := by omega
    have hix := fun W => HIX.out K hK8 W
    have hsg := sgI_of K hK8
    have hpp := HP.out K hK8
    have hap := HAP.out K
    have hln := HLN.out K
    have hbs := HB.out.size
    obtain ⟨u, hu⟩ : ∃ u, apN k K = u := ⟨_, rfl⟩
    have HSG := Lib.hid (fun W => sign_some (mkS K) K W hsg)
    obtain ⟨x, hx⟩ : ∃ x, mkS K = x := ⟨_, rfl⟩
    obtain ⟨pm, hpm⟩ : ∃ x, fl (mM K) = x := ⟨_, rfl⟩
    obtain ⟨pt, hpt⟩ : ∃ x, fl (mT K) = x := ⟨_, rfl⟩
    rw [hu] at hap HO hln
    rw [hx] at hap hix HSG
    rw [hpm, hpt] at HSG hpp
    have HIN := Lib.hid (show ∀ t, apN k (K + 1) = t ↔ (if apP k K = true then u ++ [x] else u) = t by intro t; rw [hap])
    clear hu hx hpm hpt hsg hap
    obtain ⟨B, hBd⟩ : ∃ B, apP k K = B := ⟨_, rfl⟩
    rw [hBd] at hpp HIN
    have HPP := Lib.hid hpp
    clear hpp hBd
    go_wp2_with fail
    refine (HSG.out wr).mono ?_
    rintro e w1 ⟨rfl, hw⟩
    rw [hw]
    clear hw w1 hix
    go_upto_region 7 with fail
    go_cut [34] (fun s wx => s = .bool B ∧ wx = wr)
    case first =>
      have hB := HPP.out
      have a1 := ord_eq10 pm rx
      have a2 := ord_eq10 pt 0
      have a3 := ord_eq10 pm 0
      have a4 := ord_eq10 pt ix
      cases h1 : feq pm rx <;> cases h2 : feq pt 0 <;> cases h3 : feq pm 0 <;> cases h4 : feq pt ix
      all_goals
        rw [h1] at a1 hB
        rw [h2] at a2 hB
        rw [h3] at a3 hB
        rw [h4] at a4 hB
        simp only [Bool.and_true, Bool.and_false, Bool.or_true, Bool.or_false, Bool.true_and, Bool.false_and, Bool.true_or, Bool.false_or, Bool.or_self, Bool.and_self] at a1 a2 a3 a4 hB
        subst hB
        clear h1 h2 h3 h4
        go_wp2
        go_meet
        exact ⟨rfl, rfl⟩
    case rest =>
      obtain ⟨rfl, hwc⟩ := hcut
      subst hwc
      cases B with
      | true =>
        go_wp2_with (refine wpList_appI1 rfl _ _ rfl w.heap.size u5 u x rfl HO.out _ rfl rfl (by omega) hbs ?_; intro v4 w4 hO4 hG4)
        go_roundw
        case rel => exact ⟨K + 1, by omega, by go_num, by rw [(HIN.out _).2 rfl]; exact hO4, Lib.hid (IR.keepsB HB.out hG4.out HO.out (Nat.le_refl _) hbs)⟩
        case measure => simp [intOf]; omega
      | false =>
        go_wp2
        go_roundw
        case rel => exact ⟨K + 1, by omega, by go_num, by rw [(HIN.out _).2 rfl]; exact HO, HB⟩
        case measure => simp [intOf]; omega
end Go.Proofs.YtjolbdfkkhphiaaDoor
