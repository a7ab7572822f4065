/- Layer 13: the law's own rules. -/
import Derived.Test.YtgjmclbcmfkhdaaDoorVnL
import Derived.Test.YtgjmclbcmfkhdaaDoorVnD
import Derived.Test.YtgjmclbcmfkhdaaDoorVietLs
namespace Go.Proofs.YtgjmclbcmfkhdaaDoor
set_option linter.unusedVariables false
set_option linter.unusedSimpArgs false
set_option linter.unnecessarySimpa false
open Go.RowKit Go.Shelf
attribute [local go_sem] run_store_complex

theorem lsplit_none13 (s : Int) (w : World) (hs : splitF s = none) :
    Calls Tryd.prog 35 #[.int .i64 s] w fun e w' => e = .returned (.tuple #[.agg #[.int .i64 0, .complex .f64 0 0], .bool false]) ∧ Below w.heap.size w w' := by
  have := lsplit_any s w
  rw [hs] at this
  exact this
theorem lsplit_some13 (s : Int) (k : Nat) (w : World) (hs : splitF s = some k) :
    Calls Tryd.prog 35 #[.int .i64 s] w fun e w' => e = .returned (.tuple #[.agg #[.int .i64 (LB k), .complex .f64 (fl (LM k)) (fl (LT k))], .bool true]) ∧ Below w.heap.size w w' := by
  have := lsplit_any s w
  rw [hs] at this
  exact this
theorem letter_at13 (k : Nat) (h : k < 148) (w : World) :
    Calls Tryd.prog 10 #[.int .i64 (k : Int)] w fun e w' => e = .returned (.tuple #[.agg #[.int .i64 (LB k), .complex .f64 (fl (LM k)) (fl (LT k))], .int .i64 (LS k), .bool true]) ∧ Below w.heap.size w w' := by
  have := letter_any (k : Int) w
  rw [letR_at k h] at this
  exact this

set_option maxRecDepth 100000 in
set_option maxHeartbeats 6400000 in
theorem vnlrules_any (w : World) :
    Calls Tryd.prog 17 #[] w fun e w' => ∃ v, e = .returned v ∧ OwnRs w.heap.size w' v vnR ∧ Below w.heap.size w w' := by
  go_enter Tryd.func17, Tryd.ntmps17
  go_wp2_with fail
  go_loopw [1, 2] (fun v i wr => ∃ K : Nat, K ≤ 148 ∧ i = .int .i64 K ∧ Hid (OwnRs w.heap.size wr v (vnR.take K)) ∧ Hid (Below w.heap.size w wr)) (fun _ i _ => 148 - (intOf i).toNat)
  case atStart => exact ⟨0, by omega, rfl, OwnRs.nil _ _, Lib.hid (Below.refl _ _)⟩
  case round =>
    obtain ⟨K, hK, rfl, ho, hb⟩ := hrel
    by_cases hKn : K = 148
    · subst hKn
      obtain ⟨wo, rfl⟩ : ∃ wo : World, wo = wr := ⟨_, rfl⟩
      rw [← vnA_zero] at ho
      rw [show ((148 : Nat) : Int) = 148 from rfl]
      go_wp2_with fail
      go_loopw [1, 8] (fun v i wr => ∃ C : Nat, C ≤ 128 ∧ i = .int .i64 C ∧ Hid (OwnRs w.heap.size wr v (vnR.take (vnA C))) ∧ Hid (Below w.heap.size w wr)) (fun _ i _ => 128 - (intOf i).toNat)
      case atStart => exact ⟨0, by omega, rfl, ho, hb⟩
      case round =>
        clear ho hb
        obtain ⟨C, hC, rfl, ho, hb⟩ := hrel
        by_cases hCn : C = 128
        · subst hCn
          rw [vnA_all, List.take_of_length_le (by rw [vnR_len]; exact Nat.le_refl _)] at ho
          go_wp2
          go_ret
          exact ⟨_, rfl, ho.out, hb.out⟩
        have hC' : C < 128 := by omega
        have k3 : (0 : Int) ≤ C := by omega
        have k4 : (C : Int) < 128 := by omega
        have hwr := hb.out.size
        have hal := vnR_takeLen (vnA C) (vnA_le C hC)
        have hale := vnA_le C hC
        have hyes := vnR_more C hC'
        have hno := vnA_no C
        obtain ⟨acc, hacc⟩ : ∃ acc, vnR.take (vnA C) = acc := ⟨_, rfl⟩
        rw [hacc] at hal hyes ho
        obtain ⟨A3, c3, rfl, -⟩ := ho.out.form
        have HAL := Lib.hid (show acc.length ≤ 1048576 by omega)
        clear hal hale hCn
        cases hsp : splitF (C : Int) with
        | none =>
          have HS := Lib.hid (hyes (by rw [hsp]; rfl))
          have D1 := Lib.hid (lsplit_none13 (C : Int) wr hsp)
          clear hyes hno hsp hacc
          go_wp2_with fail
          refine D1.out.mono ?_
          rintro e w4 ⟨rfl, hb4⟩
          have hs4 := hb4.size
          have hb5 : Below w4.heap.size w4 (w4.alloc (.cells #[.int .i64 0, .complex .f64 0 0] 26)) := (Below.refl _ w4).alloc (Nat.le_refl _) _
          have HO5 := Lib.hid ((ho.out.below hb4 (Nat.le_refl _)).below hb5 (Nat.le_refl _))
          have HB5 := Lib.hid ((hb.out.trans (hb4.mono hwr)).trans (hb5.mono (by omega)))
          have hs5 : w.heap.size ≤ (w4.alloc (.cells #[.int .i64 0, .complex .f64 0 0] 26)).heap.size := HB5.out.size
          clear hb4 hb5 ho hb D1
          go_wp2_with (at_builtin; refine wpList_appRlN rfl _ _ rfl w.heap.size (.slice A3 acc.length c3) acc (C : Int) (C : Int) rfl HO5.out (w4.heap.size + 1) (by simp) rfl HAL.out hs5 ?_)
          intro v7 w7 HN HBB HTT
          have HB7 := Lib.hid (HBB.out w.heap.size w (Nat.le_refl _) HB5.out)
          have HN2 : Hid (OwnRs w.heap.size w7 v7 (vnR.take (vnA (C + 1)))) := by rw [HS.out]; exact HN
          clear HN HBB HTT
          go_wp2_with fail
          go_roundw
          case rel => exact ⟨C + 1, by omega, by go_num, HN2, HB7⟩
          case measure => simp [intOf]; omega
        | some k =>
          have HS := Lib.hid (hno (by rw [hsp]; rfl))
          have D1 := Lib.hid (lsplit_some13 (C : Int) k wr hsp)
          have HA := Lib.hid hacc
          obtain ⟨bx, hbx⟩ : ∃ v, LB k = v := ⟨_, rfl⟩
          obtain ⟨rx, hrx⟩ : ∃ v, fl (LM k) = v := ⟨_, rfl⟩
          obtain ⟨ix, hix⟩ : ∃ v, fl (LT k) = v := ⟨_, rfl⟩
          rw [hbx, hrx, hix] at D1
          clear hyes hno hsp hacc hbx hrx hix
          go_wp2_with fail
          refine D1.out.mono ?_
          rintro e w4 ⟨rfl, hb4⟩
          have hs4 := hb4.size
          have hb5 : Below w4.heap.size w4 (w4.alloc (.cells #[.int .i64 bx, .complex .f64 rx ix] 26)) := (Below.refl _ w4).alloc (Nat.le_refl _) _
          have HN2 : Hid (OwnRs w.heap.size (w4.alloc (.cells #[.int .i64 bx, .complex .f64 rx ix] 26)) (.slice A3 acc.length c3) (vnR.take (vnA (C + 1)))) := by rw [HS.out, HA.out]; exact (ho.out.below hb4 (Nat.le_refl _)).below hb5 (Nat.le_refl _)
          have HB5 := Lib.hid ((hb.out.trans (hb4.mono hwr)).trans (hb5.mono (by omega)))
          clear hb4 hb5 ho hb D1
          go_wp2
          go_roundw
          case rel => exact ⟨C + 1, by omega, by go_num, HN2, HB5⟩
          case measure => simp [intOf]; omega
    have hK' : K < 148 := by omega
    have k3 : (0 : Int) ≤ K := by omega
    have k4 : (K : Int) < 148 := by omega
    have hwr := hb.out.size
    have hal := vnR_takeLen K (by omega)
    have HS := Lib.hid (vnR_take K hK')
    have D1 := Lib.hid (letter_at13 K hK' wr)
    obtain ⟨R, hR, hRK⟩ : ∃ R : Nat, R < 74 ∧ (K = R ∨ K = R + 74) := by
      by_cases h : K < 74
      · exact ⟨K, h, .inl rfl⟩
      · exact ⟨K - 74, by omega, .inr (by omega)⟩
    have hmod : (K : Int).tmod 74 = (R : Int) := by rw [Int.tmod_eq_emod_of_nonneg (by omega)]; omega
    have hmod2 : (K : Int) % 74 = (R : Int) := by omega
    have L1 := Lib.hid (fun W => lsmall_any R hR W)
    have hLK : vnL K = if K < 74 then vnL R else (vnL R).map (· - 32) := by
      rcases hRK with h | h
      · rw [if_pos (by omega), h]
      · rw [if_neg (by omega), h]; exact vnL_great R hR
    have hln := vnL_len R (by omega)
    have hby := vnL_byte R (by omega)
    obtain ⟨acc, hacc⟩ : ∃ acc, vnR.take K = acc := ⟨_, rfl⟩
    obtain ⟨L, hLe⟩ : ∃ v, vnL K = v := ⟨_, rfl⟩
    obtain ⟨Z, hZ⟩ : ∃ v, vnL R = v := ⟨_, rfl⟩
    obtain ⟨s, hs⟩ : ∃ v, LS K = v := ⟨_, rfl⟩
    obtain ⟨bx, hbx⟩ : ∃ v, LB K = v := ⟨_, rfl⟩
    obtain ⟨rx, hrx⟩ : ∃ v, fl (LM K) = v := ⟨_, rfl⟩
    obtain ⟨ix, hix⟩ : ∃ v, fl (LT K) = v := ⟨_, rfl⟩
    rw [hbx, hrx, hix, hs] at D1
    rw [hacc, hLe, hs] at HS
    rw [hacc] at hal ho
    rw [hLe, hZ] at hLK
    rw [hZ] at L1 hln hby
    obtain ⟨A3, c3, rfl, -⟩ := ho.out.form
    have HAL := Lib.hid (show acc.length ≤ 1048576 by omega)
    have HLK := Lib.hid hLK
    have HBY := Lib.hid hby
    clear hacc hLe hZ hs hbx hrx hix hal hKn hLK hby hRK
    go_wp2_with fail
    refine D1.out.mono ?_
    rintro e w3 ⟨rfl, hb3⟩
    have hs3 := hb3.size
    have hb4 : Below wr.heap.size wr (w3.alloc (.cells #[.int .i64 bx, .complex .f64 rx ix] 26)) := hb3.alloc hs3 _
    have HO4 := Lib.hid (ho.out.below hb4 (Nat.le_refl _))
    have HB4 := Lib.hid (hb.out.trans (hb4.mono hwr))
    clear hb3 hb4 ho hb D1
    go_wp2_with fail
    obtain ⟨W4, hW4⟩ : ∃ W4, w3.alloc (.cells #[.int .i64 bx, .complex .f64 rx ix] 26) = W4 := ⟨_, rfl⟩
    rw [hW4] at HO4 HB4 ⊢
    clear hW4 hs3
    refine (L1.out W4).mono ?_
    rintro e w5 ⟨v5, rfl, hI, hb5⟩
    obtain ⟨g, c5, rfl, hgb, hgl⟩ := hI.formG (by omega)
    obtain ⟨B0, hB0⟩ : ∃ B0, W4.heap.size = B0 := ⟨_, rfl⟩
    have hs4 := HB4.out.size
    have hs5 := hb5.size
    have hown : ∀ b, B0 ≤ b → (Value.slice A3 acc.length c3).ownBlock ≠ some b := fun b hb e => by
      obtain ⟨xs, h1, _⟩ := HO4.out
      have := own_lt h1 e; omega
    have HW4 := Lib.hid hB0
    obtain ⟨m, hm⟩ : ∃ m, Z.length = m := ⟨_, rfl⟩
    rw [hB0] at hI hb5 hgb hs4 hs5
    have HM := Lib.hid hm
    rw [hm] at hln hI ⊢
    clear hB0 hm L1
    by_cases h74 : K < 74
    · have h74i : ¬ (74 : Int) ≤ K := by omega
      have HZ := Lib.hid (show Z = L by have := HLK.out; rw [if_pos h74] at this; exact this.symm)
      have HI := Lib.hid (show IR w5 B0 (.slice (some ⟨g, 0, none⟩) m c5) L by rw [← HZ.out]; exact hI)
      have HO5 := Lib.hid (HO4.out.below (hb5.mono (by rw [HW4.out]; exact Nat.le_refl _)) (Nat.le_refl _))
      have HB5 := Lib.hid (HB4.out.trans (hb5.mono hs4))
      clear h74 hI hb5 HO4 HB4 hmod hmod2
      have hb6 : Below w5.heap.size w5 (w5.alloc (.cells #[.int .i64 s] 3)) := (Below.refl _ w5).alloc (Nat.le_refl _) _
      have HU1 := Lib.hid (show Us (fun b => (Value.slice A3 acc.length c3).ownBlock ≠ some b) (w5.alloc (.cells #[.int .i64 s] 3)) (.slice (some ⟨g, 0, none⟩) m c5) L from HI.out.us.step hb6.size fun b hb hx => ⟨hown b (by have : B0 ≤ b := hx; omega), hb6.block b hb⟩)
      have HU2 := Lib.hid (show Us (fun b => (Value.slice A3 acc.length c3).ownBlock ≠ some b) (w5.alloc (.cells #[.int .i64 s] 3)) (.slice (some ⟨w5.heap.size, 0, none⟩) 1 1) [s] from (us_new w5 _ rfl s).step (Nat.le_refl _) fun b hb hx => ⟨hown b (by have : b = w5.heap.size := hx; omega), rfl⟩)
      have HO6 := Lib.hid (HO5.out.below hb6 (Nat.le_refl _))
      have HB6 := Lib.hid (HB5.out.trans (hb6.mono (by omega)))
      have hs6 : w.heap.size ≤ (w5.alloc (.cells #[.int .i64 s] 3)).heap.size := HB6.out.size
      clear hb6
      go_wp2_with (at_builtin; refine wpList_appRG rfl _ _ rfl w.heap.size (.slice A3 acc.length c3) acc (.slice (some ⟨g, 0, none⟩) m c5) (.slice (some ⟨w5.heap.size, 0, none⟩) 1 1) (L, [s]) rfl HO6.out HU1.out HU2.out (w5.heap.size + 1) (by simp) rfl HAL.out hs6 ?_)
      intro v7 w7 HN HBB HTT
      have HB7 := Lib.hid (HBB.out w.heap.size w (Nat.le_refl _) HB6.out)
      have HN2 : Hid (OwnRs w.heap.size w7 v7 (vnR.take (K + 1))) := by rw [HS.out]; exact HN
      clear HN HBB HTT
      go_wp2_with fail
      go_roundw
      case rel => exact ⟨K + 1, by omega, by go_num, HN2, HB7⟩
      case measure => simp [intOf]; omega
    · have h74i : (74 : Int) ≤ K := by omega
      have HZ := Lib.hid (show Z.map (· - 32) = L by have := HLK.out; rw [if_neg h74] at this; exact this.symm)
      have HI0 := Lib.hid (show IR w5 B0 (.slice (some ⟨g, 0, none⟩) m c5) (lowN Z 0) by rw [lowN_zero]; exact hI)
      have HB50 := Lib.hid hb5
      clear h74 hI hb5 hmod hmod2 hs5 hgl
      go_wp2_with fail
      go_loopw [7, 28] (fun q i wi => ∃ J : Nat, J ≤ m ∧ i = .int .i64 J ∧ Hid (IR wi B0 (.slice (some ⟨g, 0, none⟩) m c5) (lowN Z J)) ∧ Hid (Below B0 W4 wi)) (fun _ i _ => m - (intOf i).toNat)
      case atStart => exact ⟨0, by omega, rfl, HI0, HB50⟩
      case round =>
        clear HI0 HB50
        clear w5
        obtain ⟨J, hJ, rfl, HIJ, HBJ⟩ := hrel
        obtain ⟨w5, hw5⟩ : ∃ w5 : World, w5 = wr := ⟨_, rfl⟩
        rw [← hw5] at HIJ HBJ ⊢
        clear hw5
        have hs5 := HBJ.out.size
        rw [HW4.out] at hs5
        by_cases hJm : J = m
        · have HI := Lib.hid (show IR w5 B0 (.slice (some ⟨g, 0, none⟩) m c5) L by rw [← HZ.out, ← lowN_all Z J (by rw [HM.out]; omega)]; exact HIJ.out)
          have hJl : ¬ J < m := by omega
          have HO5 := Lib.hid (HO4.out.below HBJ.out (by rw [HW4.out]; exact Nat.le_refl _))
          have HB5 := Lib.hid (HB4.out.trans (HBJ.out.mono hs4))
          clear hJm HIJ HBJ HO4 HB4
          have hb6 : Below w5.heap.size w5 (w5.alloc (.cells #[.int .i64 s] 3)) := (Below.refl _ w5).alloc (Nat.le_refl _) _
          have HU1 := Lib.hid (show Us (fun b => (Value.slice A3 acc.length c3).ownBlock ≠ some b) (w5.alloc (.cells #[.int .i64 s] 3)) (.slice (some ⟨g, 0, none⟩) m c5) L from HI.out.us.step hb6.size fun b hb hx => ⟨hown b (by have : B0 ≤ b := hx; omega), hb6.block b hb⟩)
          have HU2 := Lib.hid (show Us (fun b => (Value.slice A3 acc.length c3).ownBlock ≠ some b) (w5.alloc (.cells #[.int .i64 s] 3)) (.slice (some ⟨w5.heap.size, 0, none⟩) 1 1) [s] from (us_new w5 _ rfl s).step (Nat.le_refl _) fun b hb hx => ⟨hown b (by have : b = w5.heap.size := hx; omega), rfl⟩)
          have HO6 := Lib.hid (HO5.out.below hb6 (Nat.le_refl _))
          have HB6 := Lib.hid (HB5.out.trans (hb6.mono (by omega)))
          have hs6 : w.heap.size ≤ (w5.alloc (.cells #[.int .i64 s] 3)).heap.size := HB6.out.size
          clear hb6
          go_wp2_with (at_builtin; refine wpList_appRG rfl _ _ rfl w.heap.size (.slice A3 acc.length c3) acc (.slice (some ⟨g, 0, none⟩) m c5) (.slice (some ⟨w5.heap.size, 0, none⟩) 1 1) (L, [s]) rfl HO6.out HU1.out HU2.out (w5.heap.size + 1) (by simp) rfl HAL.out hs6 ?_)
          intro v7 w7 HN HBB HTT
          have HB7 := Lib.hid (HBB.out w.heap.size w (Nat.le_refl _) HB6.out)
          have HN2 : Hid (OwnRs w.heap.size w7 v7 (vnR.take (K + 1))) := by rw [HS.out]; exact HN
          clear HN HBB HTT
          go_wp2_with fail
          go_roundw
          case rel => exact ⟨K + 1, by omega, by go_num, HN2, HB7⟩
          case measure => simp [intOf]; omega
        have hJl : J < m := by omega
        have hJz : J < Z.length := by rw [HM.out]; exact hJl
        have hx := HIJ.out.cellAt J (by rw [lowN_len]; exact hJz)
        rw [lowN_get Z J hJz] at hx
        have hst := HIJ.out.set J (Z.getD J 0 - 32)
        rw [lowN_set Z J hJz] at hst
        have hxr := getD_range HBY.out J hJz
        have hfr := HIJ.out.frozenAt J
        have HST := Lib.hid hst
        obtain ⟨x, hxe⟩ : ∃ x, Z.getD J 0 = x := ⟨_, rfl⟩
        rw [hxe] at hx hxr HST
        have hw32 : IntKind.i64.wrap (x - 32) = x - 32 := by rw [IntKind.wrap_i64]; omega
        clear hxe hst
        go_wp2_with fail
        go_roundw
        case rel => exact ⟨J + 1, by omega, by go_num, HST, Lib.hid (HBJ.out.setCell (p := ⟨g, J, none⟩) hgb _)⟩
        case measure => simp [intOf]; omega
end Go.Proofs.YtgjmclbcmfkhdaaDoor
