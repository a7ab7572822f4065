/- Layer 13: the law's own small. -/
import Derived.Test.YtgjmclbcmfkhdaaDoorVnA
import Derived.Test.YtgjmclbcmfkhdaaDoorVietT
import Derived.Deep.DeepCutAuto
namespace Go.Proofs.YtgjmclbcmfkhdaaDoor
set_option linter.unusedVariables false
set_option linter.unusedSimpArgs false
set_option linter.unnecessarySimpa false
open Go.RowKit Go.Shelf
attribute [local go_sem] run_store_complex

/-- the letters that have a byte for all of them -/
def vnWL : List (Int × Int) := [(236, 236), (237, 237), (7881, 230), (297, 243), (7883, 242), (7925, 238), (273, 241)]
def vnWC : Array Value := #[.int .i64 236, .int .i64 236, .int .i64 237, .int .i64 237, .int .i64 7881, .int .i64 230, .int .i64 297, .int .i64 243, .int .i64 7883, .int .i64 242, .int .i64 7925, .int .i64 238, .int .i64 273, .int .i64 241]
theorem vnWC_at (K : Nat) (h : K < 7) : vnWC[K * 2]? = some (.int .i64 (vnWL.getD K (0, 0)).1) ∧ vnWC[K * 2 + 1]? = some (.int .i64 (vnWL.getD K (0, 0)).2) := by
  match K, h with
  | 0, _ => exact ⟨rfl, rfl⟩
  | 1, _ => exact ⟨rfl, rfl⟩
  | 2, _ => exact ⟨rfl, rfl⟩
  | 3, _ => exact ⟨rfl, rfl⟩
  | 4, _ => exact ⟨rfl, rfl⟩
  | 5, _ => exact ⟨rfl, rfl⟩
  | 6, _ => exact ⟨rfl, rfl⟩
theorem vnW_yes (K : Nat) (h : K < 7) : vnW (vnWL.getD K (0, 0)).1 = (vnWL.getD K (0, 0)).2 ∧ (vnWL.getD K (0, 0)).2 ≠ 0 := by
  have := all_range (show (List.range 7).all (fun K => decide (vnW (vnWL.getD K (0, 0)).1 = (vnWL.getD K (0, 0)).2 ∧ (vnWL.getD K (0, 0)).2 ≠ 0)) = true by decide +kernel) K h
  exact of_decide_eq_true this
theorem vnW_none (s : Int) (h : ∀ j, j < 7 → (vnWL.getD j (0, 0)).1 ≠ s) : vnW s = 0 := by
  have h0 := h 0 (by decide)
  have h1 := h 1 (by decide)
  have h2 := h 2 (by decide)
  have h3 := h 3 (by decide)
  have h4 := h 4 (by decide)
  have h5 := h 5 (by decide)
  have h6 := h 6 (by decide)
  simp only [vnWL, List.getD_cons_zero, List.getD_cons_succ] at h0 h1 h2 h3 h4 h5 h6
  unfold vnW
  rw [if_neg (by omega), if_neg (by omega), if_neg (by omega), if_neg (by omega), if_neg (by omega), if_neg (by omega), if_neg (by omega)]
theorem vnB_horn (k : Nat) (h : k < 74) (hm : LM k = 3) : LB k = 111 ∧ vnB k = 244 ∨ LB k = 117 ∧ vnB k = 246 := by
  have := all_range (show (List.range 74).all (fun k => decide (LM k = 3 → (LB k = 111 ∧ vnB k = 244 ∨ LB k = 117 ∧ vnB k = 246))) = true by decide +kernel) k h
  exact of_decide_eq_true this hm
theorem vnB_else (k : Nat) (hm : LM k ≠ 3) : vnB k = LB k := by unfold vnB; rw [if_neg hm]
/-- a row of signs, as the law lays it -/
def vnRowC (M : Nat) : Array Value := (((vnSg.drop (M * 6)).take 6).map (Value.int .i64)).toArray
theorem vnRowC_at (M T : Nat) (hM : M ≤ 3) (hT : T ≤ 5) : (vnRowC M)[T]? = some (.int .i64 (vnSg.getD (M * 6 + T) 0)) := by
  have h1 := all_range (show (List.range 24).all (fun j => decide (vnSg[j]? = some (vnSg.getD j 0))) = true by decide +kernel) (M * 6 + T) (by omega)
  have h1 := of_decide_eq_true h1
  unfold vnRowC
  rw [List.getElem?_toArray, List.getElem?_map, List.getElem?_take_of_lt (by omega), List.getElem?_drop, h1]
  rfl

/-- a literal that was just built is a row of the call's own -/
theorem ir_lit (w : World) (zs : List Int) (cs : Array Value) (hcs : cs.toList = zs.map (Value.int .i64)) (hl : zs.length ≤ 1000) : IR (w.alloc (.cells cs 3)) w.heap.size (.slice (some ⟨w.heap.size, 0, none⟩) zs.length zs.length) zs := by
  have hsz : cs.size = zs.length := by rw [← Array.length_toList, hcs, List.length_map]
  refine ⟨by simp, .inr ⟨w.heap.size, zs.length, cs, rfl, Nat.le_refl _, heap_alloc_new w _, Nat.le_refl _, by simp only [maxLen]; omega, ?_, ?_⟩⟩
  · simp [hsz]
  · rw [hcs, Nat.mul_one, List.take_of_length_le (by simp)]

set_option maxRecDepth 100000 in
set_option maxHeartbeats 6400000 in
theorem lsmall_any (k : Nat) (hk : k < 74) (w : World) :
    Calls Tryd.prog 13 #[.int .i64 (k : Int)] w fun e w' => ∃ v, e = .returned v ∧ IR w' w.heap.size v (vnL k) ∧ Below w.heap.size w w' := by
  have hls := letter_small k (by omega)
  have hLT := letter_any (k : Int) w
  rw [letR_at k (by omega)] at hLT
  have HLT := Lib.hid hLT
  have hv : letV k = #[.int .i64 (LB k), .complex .f64 (fl (LM k)) (fl (LT k))] := rfl
  have hL := vnL_is k hk
  have hcr := vnC_range k hk
  have hcT := flInt (LT k) (by omega)
  have hwm := vnW_mark k hk
  have hbh := vnB_horn k hk
  have hbe := vnB_else k
  have hce : vnC k = vnSg.getD (LM k * 6 + LT k) 0 := rfl
  have h1 : (FloatKind.f64.format.order (fl (LM k)) 4607182418800017408 == some .eq) = (LM k == 1) := by
    rw [ord_eqN, show (4607182418800017408 : Nat) = fl 1 by decide +kernel]; exact feq_fl _ _ (by omega) (by omega)
  have h2 : (FloatKind.f64.format.order (fl (LM k)) 4611686018427387904 == some .eq) = (LM k == 2) := by
    rw [ord_eqN, show (4611686018427387904 : Nat) = fl 2 by decide +kernel]; exact feq_fl _ _ (by omega) (by omega)
  have h3 : (FloatKind.f64.format.order (fl (LM k)) 4613937818241073152 == some .eq) = (LM k == 3) := by
    rw [ord_eqN, show (4613937818241073152 : Nat) = fl 3 by decide +kernel]; exact feq_fl _ _ (by omega) (by omega)
  obtain ⟨_, hlt, _⟩ := hls
  rw [hv] at HLT
  obtain ⟨c, hc⟩ : ∃ v, vnC k = v := ⟨_, rfl⟩
  obtain ⟨L, hLe⟩ : ∃ v, vnL k = v := ⟨_, rfl⟩
  obtain ⟨B, hB⟩ : ∃ v, vnB k = v := ⟨_, rfl⟩
  obtain ⟨s, hs⟩ : ∃ v, LS k = v := ⟨_, rfl⟩
  obtain ⟨bx, hbx⟩ : ∃ v, LB k = v := ⟨_, rfl⟩
  obtain ⟨rx, hrx⟩ : ∃ v, fl (LM k) = v := ⟨_, rfl⟩
  obtain ⟨ix, hix⟩ : ∃ v, fl (LT k) = v := ⟨_, rfl⟩
  obtain ⟨M, hM⟩ : ∃ v, LM k = v := ⟨_, rfl⟩
  obtain ⟨T, hTn⟩ : ∃ v, LT k = v := ⟨_, rfl⟩
  rw [hrx, hM] at h1 h2 h3
  rw [hbx, hrx, hix, hs] at HLT
  rw [hLe, hs, hc, hB] at hL
  rw [hs, hM] at hwm
  rw [hM, hbx, hB] at hbh hbe
  rw [hc, hM, hTn] at hce
  rw [hc] at hcr
  rw [hix, hTn] at hcT
  rw [hTn] at hlt
  rw [hLe]
  have HL := Lib.hid hL
  have HWM := Lib.hid hwm
  have HBH := Lib.hid hbh
  have HBE := Lib.hid hbe
  have HCE := Lib.hid hce
  have H1 := Lib.hid h1
  have H2 := Lib.hid h2
  have H3 := Lib.hid h3
  have HCT := Lib.hid hcT
  clear hv hc hLe hB hs hbx hrx hix hM hTn hL hwm hbh hbe hce h1 h2 h3 hcT hLT
  go_enter Tryd.func13, Tryd.ntmps13
  go_wp2_with fail
  refine HLT.out.mono ?_
  rintro e w1 ⟨rfl, hb1⟩
  have hs1 := hb1.size
  go_wp2_with fail
  have hq0 := Held.new w1 #[.int .i64 bx, .complex .f64 rx ix] 26
  have hb2 : Below w.heap.size w (w1.alloc (.cells #[.int .i64 bx, .complex .f64 rx ix] 26)) := hb1.alloc hs1 _
  have hq1 : Held ((w1.alloc (.cells #[.int .i64 bx, .complex .f64 rx ix] 26)).alloc (.cells vnWC 69)) (w1.heap.size + 1) vnWC 69 := by
    have := Held.new (w1.alloc (.cells #[.int .i64 bx, .complex .f64 rx ix] 26)) vnWC 69
    rw [World.size_alloc] at this
    exact this
  have hq0' := hq0.alloc (.cells vnWC 69)
  have hb3 : Below w.heap.size w ((w1.alloc (.cells #[.int .i64 bx, .complex .f64 rx ix] 26)).alloc (.cells vnWC 69)) := hb2.alloc (by simp; omega) _
  have hs3 : w1.heap.size + 2 ≤ ((w1.alloc (.cells #[.int .i64 bx, .complex .f64 rx ix] 26)).alloc (.cells vnWC 69)).heap.size := by simp
  obtain ⟨W3, hW3⟩ : ∃ W3, ((w1.alloc (.cells #[.int .i64 bx, .complex .f64 rx ix] 26)).alloc (.cells vnWC 69)) = W3 := ⟨_, rfl⟩
  rw [hW3] at hq1 hq0' hb3 hs3
  have hW3' := hW3
  unfold vnWC at hW3'
  rw [hW3']
  obtain ⟨p, hp⟩ : ∃ p, w1.heap.size = p := ⟨_, rfl⟩
  rw [hp] at hq1 hq0' hs3 ⊢
  have hpl : w.heap.size ≤ p := by omega
  have HQ0 := Lib.hid hq0'
  have HQ1 := Lib.hid hq1
  have HB3 := Lib.hid hb3
  clear hW3 hW3' hq0 hq0' hq1 hb2 hb3 hb1 hs1 hp HLT
  clear w1
  go_loopw [26] (fun i wr => ∃ K : Nat, K ≤ 7 ∧ i = .int .i64 K ∧ Hid (∀ j, j < K → (vnWL.getD j (0, 0)).1 ≠ s) ∧ Hid (Held wr p #[.int .i64 bx, .complex .f64 rx ix] 26) ∧ Hid (Held wr (p + 1) vnWC 69) ∧ Hid (Below w.heap.size w wr) ∧ p + 2 ≤ wr.heap.size) (fun i _ => 7 - (intOf i).toNat)
  case atStart => exact ⟨0, by omega, rfl, Lib.hid (fun j h => absurd h (by omega)), HQ0, HQ1, HB3, hs3⟩
  case round =>
    clear HQ0 HQ1 HB3 hs3
    obtain ⟨K, hK, rfl, HNO, HQ0, HQ1, HB, hs⟩ := hrel
    by_cases hK7 : K = 7
    · subst hK7
      have hw0 := vnW_none s HNO.out
      have hM := HWM.out hw0
      have HL2 := Lib.hid (show L = if c = 0 then [B] else [B, c] by have := HL.out; rw [if_pos hw0] at this; exact this)
      have c0 := HQ0.out.cell 0
      have c1 := HQ0.out.cell 1
      clear hw0 HL HWM HNO
      have t0 : (0 : Int) ≤ T := by omega
      have t1 : (T : Int) < 6 := by omega
      have hHT : ∀ W, (convert 22 3 (.float .f64 ix)).run Tryd.prog W = .ok (.int .i64 (T : Int)) W := fun W => run_convert_float_int W _ _ _ _ _ _ (by kernel_rfl) Tryd.underlying3 HCT.out
      have hbs := HB.out.size
      have hpw : p < wr.heap.size := by omega
      rcases (show M = 0 ∨ M = 1 ∨ M = 2 ∨ M = 3 by omega) with hM0 | hM0 | hM0 | hM0
      · subst hM0
        have z1 : (FloatKind.f64.format.order rx 4607182418800017408 == some .eq) = false := by rw [H1.out]; rfl
        have z2 : (FloatKind.f64.format.order rx 4611686018427387904 == some .eq) = false := by rw [H2.out]; rfl
        have z3 : (FloatKind.f64.format.order rx 4613937818241073152 == some .eq) = false := by rw [H3.out]; rfl
        have HBB := Lib.hid (HBE.out (by decide))
        clear HBE HBH H1 H2 H3
        go_upto_region 19 with fail
        have hqr : Held (wr.alloc (.cells #[.int .i64 0, .int .i64 248, .int .i64 249, .int .i64 251, .int .i64 245, .int .i64 239] 3)) (wr.heap.size) (vnRowC 0) 3 := by
          have := Held.new wr (vnRowC 0) 3
          exact this
        have hcl := (hqr.cell T).trans (vnRowC_at 0 T (by decide) (by omega))
        rw [← HCE.out] at hcl
        have hq4 : Held (wr.alloc (.cells #[.int .i64 0, .int .i64 248, .int .i64 249, .int .i64 251, .int .i64 245, .int .i64 239] 3)) p #[.int .i64 bx, .complex .f64 rx ix] 26 := HQ0.out.alloc _
        have HB4 := Lib.hid (show Below w.heap.size w (wr.alloc (.cells #[.int .i64 0, .int .i64 248, .int .i64 249, .int .i64 251, .int .i64 245, .int .i64 239] 3)) from HB.out.alloc hbs _)
        have hs4 : p + 2 ≤ (wr.alloc (.cells #[.int .i64 0, .int .i64 248, .int .i64 249, .int .i64 251, .int .i64 245, .int .i64 239] 3)).heap.size := by simp; omega
        obtain ⟨g, hg⟩ : ∃ g, wr.heap.size = g := ⟨_, rfl⟩
        obtain ⟨W4, hW4⟩ : ∃ W4, (wr.alloc (.cells #[.int .i64 0, .int .i64 248, .int .i64 249, .int .i64 251, .int .i64 245, .int .i64 239] 3)) = W4 := ⟨_, rfl⟩
        rw [hW4] at hcl hq4 HB4 hs4 ⊢
        rw [hg] at hcl ⊢
        have e1 := hq4.cell 1
        have e0 := hq4.cell 0
        clear hg hW4 hqr hq4 c0 c1 HQ0 HQ1 HB HCE
        have hbs4 := HB4.out.size
        by_cases hc0 : c = 0
        · have hgt : ¬ 0 < c := by omega
          have HL3 := Lib.hid (show L = [bx] by have := HL2.out; rw [if_pos hc0, HBB.out] at this; exact this)
          clear hc0 HL2
          go_wp2
          go_ret
          refine ⟨_, rfl, ?_, HB4.out.alloc hbs4 _⟩
          rw [HL3.out]
          exact (IR.new W4 _).low hbs4
        · have hgt : 0 < c := by omega
          have HL3 := Lib.hid (show L = [bx, c] by have := HL2.out; rw [if_neg hc0, HBB.out] at this; exact this)
          clear hc0 HL2
          go_wp2
          go_ret
          refine ⟨_, rfl, ?_, HB4.out.alloc hbs4 _⟩
          rw [HL3.out]
          exact (ir_lit W4 [bx, c] _ rfl (by simp)).low hbs4
      · subst hM0
        have z1 : (FloatKind.f64.format.order rx 4607182418800017408 == some .eq) = true := by rw [H1.out]; rfl
        have z2 : (FloatKind.f64.format.order rx 4611686018427387904 == some .eq) = false := by rw [H2.out]; rfl
        have z3 : (FloatKind.f64.format.order rx 4613937818241073152 == some .eq) = false := by rw [H3.out]; rfl
        have HBB := Lib.hid (HBE.out (by decide))
        clear HBE HBH H1 H2 H3
        go_upto_region 19 with fail
        have hqr : Held ((wr.alloc (.cells #[.int .i64 0, .int .i64 248, .int .i64 249, .int .i64 251, .int .i64 245, .int .i64 239] 3)).alloc (.cells #[.int .i64 234, .int .i64 232, .int .i64 233, .int .i64 250, .int .i64 252, .int .i64 235] 3)) (wr.heap.size + 1) (vnRowC 1) 3 := by
          have := Held.new (wr.alloc (.cells #[.int .i64 0, .int .i64 248, .int .i64 249, .int .i64 251, .int .i64 245, .int .i64 239] 3)) (vnRowC 1) 3
          rw [World.size_alloc] at this; exact this
        have hcl := (hqr.cell T).trans (vnRowC_at 1 T (by decide) (by omega))
        rw [← HCE.out] at hcl
        have hq4 : Held ((wr.alloc (.cells #[.int .i64 0, .int .i64 248, .int .i64 249, .int .i64 251, .int .i64 245, .int .i64 239] 3)).alloc (.cells #[.int .i64 234, .int .i64 232, .int .i64 233, .int .i64 250, .int .i64 252, .int .i64 235] 3)) p #[.int .i64 bx, .complex .f64 rx ix] 26 := (HQ0.out.alloc _).alloc _
        have HB4 := Lib.hid (show Below w.heap.size w ((wr.alloc (.cells #[.int .i64 0, .int .i64 248, .int .i64 249, .int .i64 251, .int .i64 245, .int .i64 239] 3)).alloc (.cells #[.int .i64 234, .int .i64 232, .int .i64 233, .int .i64 250, .int .i64 252, .int .i64 235] 3)) from (HB.out.alloc hbs _).alloc (by simp; omega) _)
        have hs4 : p + 2 ≤ ((wr.alloc (.cells #[.int .i64 0, .int .i64 248, .int .i64 249, .int .i64 251, .int .i64 245, .int .i64 239] 3)).alloc (.cells #[.int .i64 234, .int .i64 232, .int .i64 233, .int .i64 250, .int .i64 252, .int .i64 235] 3)).heap.size := by simp; omega
        obtain ⟨g, hg⟩ : ∃ g, wr.heap.size + 1 = g := ⟨_, rfl⟩
        obtain ⟨W4, hW4⟩ : ∃ W4, ((wr.alloc (.cells #[.int .i64 0, .int .i64 248, .int .i64 249, .int .i64 251, .int .i64 245, .int .i64 239] 3)).alloc (.cells #[.int .i64 234, .int .i64 232, .int .i64 233, .int .i64 250, .int .i64 252, .int .i64 235] 3)) = W4 := ⟨_, rfl⟩
        rw [hW4] at hcl hq4 HB4 hs4 ⊢
        rw [hg] at hcl ⊢
        have e1 := hq4.cell 1
        have e0 := hq4.cell 0
        clear hg hW4 hqr hq4 c0 c1 HQ0 HQ1 HB HCE
        have hbs4 := HB4.out.size
        by_cases hc0 : c = 0
        · have hgt : ¬ 0 < c := by omega
          have HL3 := Lib.hid (show L = [bx] by have := HL2.out; rw [if_pos hc0, HBB.out] at this; exact this)
          clear hc0 HL2
          go_wp2
          go_ret
          refine ⟨_, rfl, ?_, HB4.out.alloc hbs4 _⟩
          rw [HL3.out]
          exact (IR.new W4 _).low hbs4
        · have hgt : 0 < c := by omega
          have HL3 := Lib.hid (show L = [bx, c] by have := HL2.out; rw [if_neg hc0, HBB.out] at this; exact this)
          clear hc0 HL2
          go_wp2
          go_ret
          refine ⟨_, rfl, ?_, HB4.out.alloc hbs4 _⟩
          rw [HL3.out]
          exact (ir_lit W4 [bx, c] _ rfl (by simp)).low hbs4
      · subst hM0
        have z1 : (FloatKind.f64.format.order rx 4607182418800017408 == some .eq) = false := by rw [H1.out]; rfl
        have z2 : (FloatKind.f64.format.order rx 4611686018427387904 == some .eq) = true := by rw [H2.out]; rfl
        have z3 : (FloatKind.f64.format.order rx 4613937818241073152 == some .eq) = false := by rw [H3.out]; rfl
        have HBB := Lib.hid (HBE.out (by decide))
        clear HBE HBH H1 H2 H3
        go_upto_region 19 with fail
        have hqr : Held ((wr.alloc (.cells #[.int .i64 0, .int .i64 248, .int .i64 249, .int .i64 251, .int .i64 245, .int .i64 239] 3)).alloc (.cells #[.int .i64 226, .int .i64 224, .int .i64 225, .int .i64 229, .int .i64 227, .int .i64 228] 3)) (wr.heap.size + 1) (vnRowC 2) 3 := by
          have := Held.new (wr.alloc (.cells #[.int .i64 0, .int .i64 248, .int .i64 249, .int .i64 251, .int .i64 245, .int .i64 239] 3)) (vnRowC 2) 3
          rw [World.size_alloc] at this; exact this
        have hcl := (hqr.cell T).trans (vnRowC_at 2 T (by decide) (by omega))
        rw [← HCE.out] at hcl
        have hq4 : Held ((wr.alloc (.cells #[.int .i64 0, .int .i64 248, .int .i64 249, .int .i64 251, .int .i64 245, .int .i64 239] 3)).alloc (.cells #[.int .i64 226, .int .i64 224, .int .i64 225, .int .i64 229, .int .i64 227, .int .i64 228] 3)) p #[.int .i64 bx, .complex .f64 rx ix] 26 := (HQ0.out.alloc _).alloc _
        have HB4 := Lib.hid (show Below w.heap.size w ((wr.alloc (.cells #[.int .i64 0, .int .i64 248, .int .i64 249, .int .i64 251, .int .i64 245, .int .i64 239] 3)).alloc (.cells #[.int .i64 226, .int .i64 224, .int .i64 225, .int .i64 229, .int .i64 227, .int .i64 228] 3)) from (HB.out.alloc hbs _).alloc (by simp; omega) _)
        have hs4 : p + 2 ≤ ((wr.alloc (.cells #[.int .i64 0, .int .i64 248, .int .i64 249, .int .i64 251, .int .i64 245, .int .i64 239] 3)).alloc (.cells #[.int .i64 226, .int .i64 224, .int .i64 225, .int .i64 229, .int .i64 227, .int .i64 228] 3)).heap.size := by simp; omega
        obtain ⟨g, hg⟩ : ∃ g, wr.heap.size + 1 = g := ⟨_, rfl⟩
        obtain ⟨W4, hW4⟩ : ∃ W4, ((wr.alloc (.cells #[.int .i64 0, .int .i64 248, .int .i64 249, .int .i64 251, .int .i64 245, .int .i64 239] 3)).alloc (.cells #[.int .i64 226, .int .i64 224, .int .i64 225, .int .i64 229, .int .i64 227, .int .i64 228] 3)) = W4 := ⟨_, rfl⟩
        rw [hW4] at hcl hq4 HB4 hs4 ⊢
        rw [hg] at hcl ⊢
        have e1 := hq4.cell 1
        have e0 := hq4.cell 0
        clear hg hW4 hqr hq4 c0 c1 HQ0 HQ1 HB HCE
        have hbs4 := HB4.out.size
        by_cases hc0 : c = 0
        · have hgt : ¬ 0 < c := by omega
          have HL3 := Lib.hid (show L = [bx] by have := HL2.out; rw [if_pos hc0, HBB.out] at this; exact this)
          clear hc0 HL2
          go_wp2
          go_ret
          refine ⟨_, rfl, ?_, HB4.out.alloc hbs4 _⟩
          rw [HL3.out]
          exact (IR.new W4 _).low hbs4
        · have hgt : 0 < c := by omega
          have HL3 := Lib.hid (show L = [bx, c] by have := HL2.out; rw [if_neg hc0, HBB.out] at this; exact this)
          clear hc0 HL2
          go_wp2
          go_ret
          refine ⟨_, rfl, ?_, HB4.out.alloc hbs4 _⟩
          rw [HL3.out]
          exact (ir_lit W4 [bx, c] _ rfl (by simp)).low hbs4
      · subst hM0
        have z1 : (FloatKind.f64.format.order rx 4607182418800017408 == some .eq) = false := by rw [H1.out]; rfl
        have z2 : (FloatKind.f64.format.order rx 4611686018427387904 == some .eq) = false := by rw [H2.out]; rfl
        have z3 : (FloatKind.f64.format.order rx 4613937818241073152 == some .eq) = true := by rw [H3.out]; rfl
        rcases HBH.out rfl with ⟨hb0, hB0⟩ | ⟨hb0, hB0⟩
        · have HBB := Lib.hid hB0
          subst hb0
          clear HBE HBH H1 H2 H3 hB0
          go_upto_region 19 with fail
          have hqr : Held (wr.alloc (.cells #[.int .i64 0, .int .i64 248, .int .i64 249, .int .i64 251, .int .i64 245, .int .i64 239] 3)) (wr.heap.size) (vnRowC 3) 3 := by
            have := Held.new wr (vnRowC 3) 3
            exact this
          have hcl := (hqr.cell T).trans (vnRowC_at 3 T (by decide) (by omega))
          rw [← HCE.out] at hcl
          have hq4 : Held (wr.alloc (.cells #[.int .i64 0, .int .i64 248, .int .i64 249, .int .i64 251, .int .i64 245, .int .i64 239] 3)) p #[.int .i64 111, .complex .f64 rx ix] 26 := HQ0.out.alloc _
          have HB4 := Lib.hid (show Below w.heap.size w (wr.alloc (.cells #[.int .i64 0, .int .i64 248, .int .i64 249, .int .i64 251, .int .i64 245, .int .i64 239] 3)) from HB.out.alloc hbs _)
          have hs4 : p + 2 ≤ (wr.alloc (.cells #[.int .i64 0, .int .i64 248, .int .i64 249, .int .i64 251, .int .i64 245, .int .i64 239] 3)).heap.size := by simp; omega
          obtain ⟨g, hg⟩ : ∃ g, wr.heap.size = g := ⟨_, rfl⟩
          obtain ⟨W4, hW4⟩ : ∃ W4, (wr.alloc (.cells #[.int .i64 0, .int .i64 248, .int .i64 249, .int .i64 251, .int .i64 245, .int .i64 239] 3)) = W4 := ⟨_, rfl⟩
          rw [hW4] at hcl hq4 HB4 hs4 ⊢
          rw [hg] at hcl ⊢
          have e1 := hq4.cell 1
          have e0 := hq4.cell 0
          clear hg hW4 hqr hq4 c0 c1 HQ0 HQ1 HB HCE
          have hbs4 := HB4.out.size
          by_cases hc0 : c = 0
          · have hgt : ¬ 0 < c := by omega
            have HL3 := Lib.hid (show L = [244] by have := HL2.out; rw [if_pos hc0, HBB.out] at this; exact this)
            clear hc0 HL2
            go_wp2
            go_ret
            refine ⟨_, rfl, ?_, HB4.out.alloc hbs4 _⟩
            rw [HL3.out]
            exact (IR.new W4 _).low hbs4
          · have hgt : 0 < c := by omega
            have HL3 := Lib.hid (show L = [244, c] by have := HL2.out; rw [if_neg hc0, HBB.out] at this; exact this)
            clear hc0 HL2
            go_wp2
            go_ret
            refine ⟨_, rfl, ?_, HB4.out.alloc hbs4 _⟩
            rw [HL3.out]
            exact (ir_lit W4 [244, c] _ rfl (by simp)).low hbs4
        · have HBB := Lib.hid hB0
          subst hb0
          clear HBE HBH H1 H2 H3 hB0
          go_upto_region 19 with fail
          have hqr : Held (wr.alloc (.cells #[.int .i64 0, .int .i64 248, .int .i64 249, .int .i64 251, .int .i64 245, .int .i64 239] 3)) (wr.heap.size) (vnRowC 3) 3 := by
            have := Held.new wr (vnRowC 3) 3
            exact this
          have hcl := (hqr.cell T).trans (vnRowC_at 3 T (by decide) (by omega))
          rw [← HCE.out] at hcl
          have hq4 : Held (wr.alloc (.cells #[.int .i64 0, .int .i64 248, .int .i64 249, .int .i64 251, .int .i64 245, .int .i64 239] 3)) p #[.int .i64 117, .complex .f64 rx ix] 26 := HQ0.out.alloc _
          have HB4 := Lib.hid (show Below w.heap.size w (wr.alloc (.cells #[.int .i64 0, .int .i64 248, .int .i64 249, .int .i64 251, .int .i64 245, .int .i64 239] 3)) from HB.out.alloc hbs _)
          have hs4 : p + 2 ≤ (wr.alloc (.cells #[.int .i64 0, .int .i64 248, .int .i64 249, .int .i64 251, .int .i64 245, .int .i64 239] 3)).heap.size := by simp; omega
          obtain ⟨g, hg⟩ : ∃ g, wr.heap.size = g := ⟨_, rfl⟩
          obtain ⟨W4, hW4⟩ : ∃ W4, (wr.alloc (.cells #[.int .i64 0, .int .i64 248, .int .i64 249, .int .i64 251, .int .i64 245, .int .i64 239] 3)) = W4 := ⟨_, rfl⟩
          rw [hW4] at hcl hq4 HB4 hs4 ⊢
          rw [hg] at hcl ⊢
          have e1 := hq4.cell 1
          have e0 := hq4.cell 0
          clear hg hW4 hqr hq4 c0 c1 HQ0 HQ1 HB HCE
          have hbs4 := HB4.out.size
          by_cases hc0 : c = 0
          · have hgt : ¬ 0 < c := by omega
            have HL3 := Lib.hid (show L = [246] by have := HL2.out; rw [if_pos hc0, HBB.out] at this; exact this)
            clear hc0 HL2
            go_wp2
            go_ret
            refine ⟨_, rfl, ?_, HB4.out.alloc hbs4 _⟩
            rw [HL3.out]
            exact (IR.new W4 _).low hbs4
          · have hgt : 0 < c := by omega
            have HL3 := Lib.hid (show L = [246, c] by have := HL2.out; rw [if_neg hc0, HBB.out] at this; exact this)
            clear hc0 HL2
            go_wp2
            go_ret
            refine ⟨_, rfl, ?_, HB4.out.alloc hbs4 _⟩
            rw [HL3.out]
            exact (ir_lit W4 [246, c] _ rfl (by simp)).low hbs4
    have hK7' : K < 7 := by omega
    have k3 : (0 : Int) ≤ K := by omega
    have k4 : (K : Int) < 7 := by omega
    obtain ⟨d0, d1⟩ := vnWC_at K hK7'
    have d0 := (HQ1.out.cell (K * 2)).trans d0
    have d1 := (HQ1.out.cell (K * 2 + 1)).trans d1
    have hy := vnW_yes K hK7'
    have HN := HNO.out
    obtain ⟨x, hx⟩ : ∃ x, (vnWL.getD K (0, 0)).1 = x := ⟨_, rfl⟩
    obtain ⟨y, hye⟩ : ∃ y, (vnWL.getD K (0, 0)).2 = y := ⟨_, rfl⟩
    rw [hx] at d0 hy
    rw [hye] at d1 hy
    have HX := Lib.hid hx
    have HY := Lib.hid hy
    have hbs := HB.out.size
    have HB4 := Lib.hid (HB.out.alloc hbs (.cells #[.int .i64 x, .int .i64 y] 69))
    have HQ04 := Lib.hid (HQ0.out.alloc (.cells #[.int .i64 x, .int .i64 y] 69))
    have HQ14 := Lib.hid (HQ1.out.alloc (.cells #[.int .i64 x, .int .i64 y] 69))
    have hs4 : p + 2 ≤ (wr.alloc (.cells #[.int .i64 x, .int .i64 y] 69)).heap.size := by simp; omega
    clear hx hye hy HB HQ0 HQ1 HN hK7
    by_cases hxs : x = s
    · have hw : vnW s = y ∧ y ≠ 0 := by rw [← hxs]; exact HY.out
      have HL2 := Lib.hid (show L = [y] by have := HL.out; rw [hw.1, if_neg hw.2] at this; exact this)
      have hbq : (x == s) = true := by simpa using hxs
      clear hxs hw HL
      go_wp2
      go_ret
      refine ⟨_, rfl, ?_, HB4.out.alloc (by simp; omega) _⟩
      rw [HL2.out]
      have := IR.new (wr.alloc (.cells #[.int .i64 x, .int .i64 y] 69)) y
      rw [World.size_alloc] at this
      exact this.low (by omega)
    · have hbq : (x == s) = false := by simpa using hxs
      have HNO2 := Lib.hid (show ∀ j, j < K + 1 → (vnWL.getD j (0, 0)).1 ≠ s from fun j hj => by
        by_cases e : j = K
        · rw [e, HX.out]; exact hxs
        · exact HNO.out j (by omega))
      clear hxs HNO
      go_wp2
      go_roundw
      case rel => exact ⟨K + 1, by omega, by go_num, HNO2, HQ04, HQ14, HB4, hs4⟩
      case measure => simp [intOf]; omega
end Go.Proofs.YtgjmclbcmfkhdaaDoor
