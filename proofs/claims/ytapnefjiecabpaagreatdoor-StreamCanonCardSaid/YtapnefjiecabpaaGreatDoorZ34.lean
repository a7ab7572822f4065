/- Texts of this seat, one behind the other: VnB, VcI, VcA, VcB. -/
import Derived.Test.YtapnefjiecabpaaGreatDoorZ14
import Derived.Deep.DeepCutAuto
import Derived.Test.YtapnefjiecabpaaGreatDoorZ33
import Derived.Test.YtapnefjiecabpaaGreatDoorZ10
import Derived.Test.YtapnefjiecabpaaGreatDoorZ7
namespace Go.Proofs.YtapnefjiecabpaaGreatDoor
set_option linter.unusedVariables false
set_option linter.unusedSimpArgs false
set_option linter.unnecessarySimpa false
open Go.RowKit Go.Shelf
attribute [local go_sem] run_store_complex

set_option maxHeartbeats 3200000 in
set_option maxRecDepth 100000 in
theorem vnsmall_at (k : Nat) (hk : k < 74) (w : World) (hT : TabN w) :
    Calls Tryz.prog 125 #[.agg (letV k)] w fun e w' => ∃ v, e = .returned v ∧ IR w' w.heap.size v (vnL k) ∧ Below w.heap.size w w' := by
  have hls := letter_small k (by omega)
  have hv : letV k = #[.int .i64 (LB k), .complex .f64 (fl (LM k)) (fl (LT k))] := rfl
  have HJ := Lib.hid (fun W h => join_any (LB k) (fl (LM k)) (fl (LT k)) W h)
  rw [show joinF (LB k) (fl (LM k)) (fl (LT k)) = some k from join_of k (by omega)] at HJ
  simp only [Option.isSome_some, jS] at HJ
  have HBA := Lib.hid (fun W => vnbase_any k hk W)
  have HW := Lib.hid (fun W => vnwhole_any (LS k) W)
  have hL := vnL_is k hk
  have hcr := vnC_range k hk
  have hcM := flInt (LM k) 
  have hcT := flInt (LT k) (by omega)
  have hbas := (show 97 ≤ LB k by
    have := all_range (show (List.range 74).all (fun k => decide (97 ≤ LB k)) = true by decide +kernel) k hk
    simpa using this)
  have hwm := vnW_mark k hk
  have HC := Lib.hid (fun (W : World) (h : SigN W) (hm : LM k ≤ 3) => h.cell (LM k) (LT k) hm (by omega))
  have hce : vnC k = vnSg.getD (LM k * 6 + LT k) 0 := rfl
  rw [← hce] at HC
  obtain ⟨_, hlt, _⟩ := hls
  rw [hv] at HBA ⊢
  obtain ⟨c, hc⟩ : ∃ v, vnC k = v := ⟨_, rfl⟩
  obtain ⟨L, hLe⟩ : ∃ v, vnL k = v := ⟨_, rfl⟩
  obtain ⟨B, hB⟩ : ∃ v, vnB k = v := ⟨_, rfl⟩
  obtain ⟨x, hx⟩ : ∃ v, vnW (LS k) = v := ⟨_, rfl⟩
  obtain ⟨s, hs⟩ : ∃ v, LS k = v := ⟨_, rfl⟩
  obtain ⟨bx, hbx⟩ : ∃ v, LB k = v := ⟨_, rfl⟩
  obtain ⟨rx, hrx⟩ : ∃ v, fl (LM k) = v := ⟨_, rfl⟩
  obtain ⟨ix, hix⟩ : ∃ v, fl (LT k) = v := ⟨_, rfl⟩
  obtain ⟨M, hM⟩ : ∃ v, LM k = v := ⟨_, rfl⟩
  obtain ⟨T, hTn⟩ : ∃ v, LT k = v := ⟨_, rfl⟩
  rw [hs] at HJ HW
  rw [hs] at hx
  rw [hx] at HW
  rw [hs, hx] at hL hwm
  rw [hM] at hwm
  rw [hc, hM, hTn] at HC
  rw [hc] at hcr
  rw [hLe, hc, hB] at hL
  rw [hbx] at hbas
  rw [hbx, hrx, hix] at HJ HBA
  rw [hB] at HBA
  rw [hrx, hM] at hcM
  rw [hix, hTn] at hcT
  rw [hTn] at hlt
  rw [hbx, hrx, hix, hLe]
  have HT := Lib.hid hT
  have HL := Lib.hid hL
  clear hv hce hc hLe hB hx hs hbx hrx hix hM hTn hT hL
  go_enter Tryz.func125, Tryz.ntmps125
  go_wp2_with fail
  have hq0 := Held.new w #[.int .i64 bx, .complex .f64 rx ix] 143
  have hb0 : Below w.heap.size w (w.alloc (.cells #[.int .i64 bx, .complex .f64 rx ix] 143)) := (Below.refl _ w).alloc (Nat.le_refl _) _
  refine (HJ.out _ (HT.out.below hb0).rows).mono ?_
  rintro e w1 ⟨rfl, hb1⟩
  have hq1 := hq0.below hb1 (by simp)
  have hs1 := hb1.size
  have HB1 := Lib.hid (hb0.trans (hb1.mono (by simp)))
  have c0 := hq1.cell 0
  have c1 := hq1.cell 1
  have hp1 := hq1.lt
  have HQ1 := Lib.hid hq1
  obtain ⟨p, hp⟩ : ∃ p, w.heap.size = p := ⟨_, rfl⟩
  have hpl : w.heap.size ≤ p := by omega
  rw [hp] at c0 c1 hp1 HQ1 HB1 ⊢
  clear hb1 hq0 hb0 HJ hq1 hp hs1
  have hb97 : ¬ bx < 97 := by omega
  go_wp2_with fail
  refine (HW.out w1).mono ?_
  rintro e w2 ⟨rfl, hw2⟩
  rw [hw2]
  clear hw2 w2
  by_cases hx0 : x = 0
  · subst hx0
    rw [if_pos rfl] at HL
    have hM3 := hwm rfl
    go_wp2_with fail
    refine (HBA.out w1).mono ?_
    rintro e w3 ⟨rfl, hb3⟩
    have hs3 := hb3.size
    have HB3 := Lib.hid (HB1.out.trans (hb3.mono (by have := HB1.out.size; omega)))
    have hq3 := HQ1.out.below hb3 hp1
    have hp3 := hq3.lt
    have hT3 := HT.out.below (HB3.out.mono hpl)
    have HO3 := Lib.hid (show IR (w3.alloc (.cells #[.int .i64 B] 3)) p (.slice (some ⟨w3.heap.size, 0, none⟩) 1 1) [B] from (IR.new w3 B).low (by omega))
    have hb4 : Below w3.heap.size w3 (w3.alloc (.cells #[.int .i64 B] 3)) := (Below.refl _ w3).alloc (Nat.le_refl _) _
    have hq4 := hq3.below hb4 hp3
    have HB4 := Lib.hid (HB3.out.trans (hb4.mono (by omega)))
    have hcc := HC.out _ (hT3.below hb4).sigs hM3
    go_upto_region 8 with fail
    obtain ⟨g, hg⟩ : ∃ g, w3.heap.size = g := ⟨_, rfl⟩
    obtain ⟨W4, hW4⟩ : ∃ W4, w3.alloc (.cells #[.int .i64 B] 3) = W4 := ⟨_, rfl⟩
    have hgp : p < g := by omega
    have hs4 : g + 1 = W4.heap.size := by rw [← hW4, ← hg]; simp
    rw [hW4] at hq4 hcc HO3 HB4 ⊢
    rw [hg] at HO3 ⊢
    have d1 := hq4.cell 1
    have hHM : ∀ W, (convert 192 3 (.float .f64 rx)).run Tryz.prog W = .ok (.int .i64 (M : Int)) W := fun W => run_convert_float_int W _ _ _ _ _ _ (by kernel_rfl) Tryz.underlying3 (hcM (by omega))
    have hHT : ∀ W, (convert 192 3 (.float .f64 ix)).run Tryz.prog W = .ok (.int .i64 (T : Int)) W := fun W => run_convert_float_int W _ _ _ _ _ _ (by kernel_rfl) Tryz.underlying3 hcT
    clear hb3 hb4 hg hW4 hq3 hT3 hcM hcT HQ1 c0 c1
    have m0 : (0 : Int) ≤ M := by omega
    have m1 : (M : Int) < 4 := by omega
    have t0 : (0 : Int) ≤ T := by omega
    have t1 : (T : Int) < 6 := by omega
    go_quiet (fail)
    have HB5 := Lib.hid (show Below p w (W4.drewN nq) from HB4.out.trans ⟨rfl, rfl, rfl, Nat.le_refl _, fun _ _ => rfl⟩)
    have HO5 := Lib.hid (HO3.out.drewN nq)
    have hs5 : g + 1 = (W4.drewN nq).heap.size := hs4
    obtain ⟨W5, hW5⟩ : ∃ W5, W4.drewN nq = W5 := ⟨_, rfl⟩
    rw [hW5] at HB5 HO5 hs5 ⊢
    clear hW5 HO3 HB4 d1 hcc hq4 hHM hHT HB3
    by_cases hc0 : c = 0
    · rw [if_pos hc0] at HL
      have q0 : (c != 0) = false := by rw [hc0]; rfl
      clear hc0
      go_wp2
      go_ret
      exact ⟨_, rfl, by rw [HL.out]; exact HO5.out.low hpl, HB5.out.mono hpl⟩
    · rw [if_neg hc0] at HL
      have q0 : (c != 0) = true := by simpa using hc0
      have hw8 : IntKind.i64.wrap c = c := by rw [IntKind.wrap_i64]; omega
      clear hc0
      go_wp2_with (at_builtin; refine wpList_appI1 rfl _ _ rfl p (.slice (some ⟨g, 0, none⟩) 1 1) [B] c rfl HO5.out _ rfl rfl (by simp) (by omega) ?_; intro v6 w6 hO6 hG6)
      go_ret
      exact ⟨_, rfl, by rw [HL.out]; exact hO6.out.low hpl, (IR.keepsB HB5.out hG6.out HO5.out (Nat.le_refl _) (by omega)).mono hpl⟩
  · have hx0' : (x == 0) = false := by simpa using hx0
    rw [if_neg hx0] at HL
    go_wp2
    go_ret
    exact ⟨_, rfl, by rw [HL.out]; exact (IR.new w1 x).low (by omega), (HB1.out.alloc (by omega) _).mono hpl⟩
end Go.Proofs.YtapnefjiecabpaaGreatDoor
namespace Go.Proofs.YtapnefjiecabpaaGreatDoor
set_option linter.unusedVariables false
set_option linter.unusedSimpArgs false
set_option linter.unnecessarySimpa false
open Go.RowKit Go.Shelf
attribute [local go_sem] run_store_complex

/-- the first K ints by 32 less -/
def lowN (zs : List Int) (K : Nat) : List Int := (zs.take K).map (· - 32) ++ zs.drop K
theorem lowN_zero (zs : List Int) : lowN zs 0 = zs := by simp [lowN]
theorem lowN_all (zs : List Int) (K : Nat) (h : zs.length ≤ K) : lowN zs K = zs.map (· - 32) := by
  unfold lowN; rw [List.take_of_length_le h, List.drop_of_length_le h]; simp
theorem lowN_len (zs : List Int) (K : Nat) : (lowN zs K).length = zs.length := by simp [lowN]; omega
theorem lowN_get (zs : List Int) (K : Nat) (h : K < zs.length) : (lowN zs K).getD K 0 = zs.getD K 0 := by
  unfold lowN
  rw [List.getD_eq_getElem?_getD, List.getElem?_append_right (by simp; omega), List.getElem?_drop, List.getD_eq_getElem?_getD]
  congr 2
  simp; omega
theorem lowN_set (zs : List Int) (K : Nat) (h : K < zs.length) : (lowN zs K).set K (zs.getD K 0 - 32) = lowN zs (K + 1) := by
  unfold lowN
  have hl : ((zs.take K).map (· - 32)).length = K := by simp; omega
  rw [List.set_append_right _ _ (by omega), hl, Nat.sub_self, List.take_succ_eq_append_getElem h, List.map_append]
  simp only [List.getD_eq_getElem?_getD, List.getElem?_eq_getElem h, Option.getD_some, List.append_assoc]
  congr 1
  rw [List.drop_eq_getElem_cons h]
  rfl
theorem great_low (k : Nat) (h : 74 ≤ k) (h1 : k < 148) : LB k < 97 ∧ LB k + 32 = LB (k - 74) ∧ LM k = LM (k - 74) ∧ LT k = LT (k - 74) := by
  have := all_range (show (List.range 148).all (fun k => decide (74 ≤ k → LB k < 97 ∧ LB k + 32 = LB (k - 74) ∧ LM k = LM (k - 74) ∧ LT k = LT (k - 74))) = true by decide +kernel) k h1
  exact of_decide_eq_true this h
theorem vnsmall_base (k : Nat) (h : k < 74) : 97 ≤ LB k := by
  have := all_range (show (List.range 74).all (fun k => decide (97 ≤ LB k)) = true by decide +kernel) k h
  simpa using this

set_option maxHeartbeats 1600000 in
theorem vneither_any (k : Nat) (hk : k < 148) (w : World) (hT : TabN w) :
    Calls Tryz.prog 87 #[.agg (letV k)] w fun e w' => ∃ v, e = .returned v ∧ IR w' w.heap.size v (vnL k) ∧ Below w.heap.size w w' := by
  have HT := Lib.hid hT
  clear hT
  have hv : letV k = #[.int .i64 (LB k), .complex .f64 (fl (LM k)) (fl (LT k))] := rfl
  by_cases h74 : k < 74
  · have HS := Lib.hid (fun W h => vnsmall_at k h74 W h)
    have hb := vnsmall_base k h74
    rw [hv] at HS ⊢
    obtain ⟨L, hLe⟩ : ∃ v, vnL k = v := ⟨_, rfl⟩
    obtain ⟨bx, hbx⟩ : ∃ v, LB k = v := ⟨_, rfl⟩
    obtain ⟨rx, hrx⟩ : ∃ v, fl (LM k) = v := ⟨_, rfl⟩
    obtain ⟨ix, hix⟩ : ∃ v, fl (LT k) = v := ⟨_, rfl⟩
    rw [hLe, hbx, hrx, hix] at HS
    rw [hbx] at hb
    rw [hLe, hbx, hrx, hix]
    clear hv hLe hbx hrx hix
    go_enter Tryz.func87, Tryz.ntmps87
    go_wp2_with fail
    have hb0 : Below w.heap.size w (w.alloc (.cells #[.int .i64 bx, .complex .f64 rx ix] 143)) := (Below.refl _ w).alloc (Nat.le_refl _) _
    refine (HS.out _ (HT.out.below hb0)).mono ?_
    rintro e w1 ⟨v, rfl, hO, hb1⟩
    have HO := Lib.hid (hO.low (base' := w.heap.size) (by simp))
    have HB := Lib.hid (hb0.trans (hb1.mono (by simp)))
    clear hO hb1 hb0 HS
    go_wp2_with fail
    go_ret
    exact ⟨_, rfl, HO.out, HB.out⟩
  · obtain ⟨hlow, g1, g2, g3⟩ := great_low k (by omega) hk
    have HS := Lib.hid (fun W h => vnsmall_at (k - 74) (by omega) W h)
    have hv2 : letV (k - 74) = #[.int .i64 (LB (k - 74)), .complex .f64 (fl (LM (k - 74))) (fl (LT (k - 74)))] := rfl
    have hLL := vnL_great (k - 74) (by omega)
    have hln := vnL_len (k - 74) (by omega)
    have hby := vnL_byte (k - 74) (by omega)
    have hls := letter_small k hk
    rw [show k - 74 + 74 = k by omega] at hLL
    rw [hv2, ← g1, ← g2, ← g3] at HS
    rw [hv]
    obtain ⟨L, hLe⟩ : ∃ v, vnL k = v := ⟨_, rfl⟩
    obtain ⟨Z, hZ⟩ : ∃ v, vnL (k - 74) = v := ⟨_, rfl⟩
    obtain ⟨bx, hbx⟩ : ∃ v, LB k = v := ⟨_, rfl⟩
    obtain ⟨rx, hrx⟩ : ∃ v, fl (LM k) = v := ⟨_, rfl⟩
    obtain ⟨ix, hix⟩ : ∃ v, fl (LT k) = v := ⟨_, rfl⟩
    rw [hZ, hbx, hrx, hix] at HS
    rw [hLe, hZ] at hLL
    rw [hZ] at hln hby
    rw [hbx] at hlow hls
    rw [hLe, hbx, hrx, hix]
    have HLL := Lib.hid hLL
    have HBY := Lib.hid hby
    have hw : IntKind.i64.wrap (bx + 32) = bx + 32 := by rw [IntKind.wrap_i64]; omega
    have h97 : ¬ 97 ≤ bx := by omega
    clear hv hLe hbx hrx hix hZ hv2 g1 g2 g3 hLL hby hls
    go_enter Tryz.func87, Tryz.ntmps87
    go_wp2_with fail
    have hb0 : Below w.heap.size w (w.alloc (.cells #[.int .i64 bx, .complex .f64 rx ix] 143)) := (Below.refl _ w).alloc (Nat.le_refl _) _
    refine (HS.out _ (HT.out.below hb0)).mono ?_
    rintro e w1 ⟨v, rfl, hO, hb1⟩
    have hO' := hO.low (base' := w.heap.size) (by simp)
    obtain ⟨g, c, rfl, hgb, hgl⟩ := hO'.formG (by omega)
    have HO := Lib.hid (show IR w1 w.heap.size (.slice (some ⟨g, 0, none⟩) Z.length c) (lowN Z 0) by rw [lowN_zero]; exact hO')
    have HB := Lib.hid (hb0.trans (hb1.mono (by simp)))
    obtain ⟨n, hn⟩ : ∃ n, Z.length = n := ⟨_, rfl⟩
    rw [hn] at HO hln ⊢
    have HN := Lib.hid hn
    clear hO hO' hb1 hb0 HS hgl hn
    go_wp2_with fail
    go_loopw [4, 19] (fun q i wr => ∃ K : Nat, K ≤ n ∧ i = .int .i64 K ∧ Hid (IR wr w.heap.size (.slice (some ⟨g, 0, none⟩) n c) (lowN Z K)) ∧ Hid (Below w.heap.size w wr)) (fun _ i _ => n - (intOf i).toNat)
    case atStart => exact ⟨0, by omega, rfl, HO, HB⟩
    case round =>
      clear HO HB
      obtain ⟨K, hK, rfl, HO, HB⟩ := hrel
      by_cases hKn : K = n
      · have HF := Lib.hid (show lowN Z K = L by rw [HLL.out]; exact lowN_all _ _ (by rw [HN.out]; omega))
        have hKl : ¬ K < n := by omega
        clear hKn
        go_wp2
        go_ret
        exact ⟨_, rfl, by rw [← HF.out]; exact HO.out, HB.out⟩
      have hKl : K < n := by omega
      have hKz : K < Z.length := by rw [HN.out]; exact hKl
      have hx := HO.out.cellAt K (by rw [lowN_len]; exact hKz)
      rw [lowN_get Z K hKz] at hx
      have hst := HO.out.set K (Z.getD K 0 - 32)
      rw [lowN_set Z K hKz] at hst
      have hxr := getD_range HBY.out K hKz
      have hfr := HO.out.frozenAt K
      have HST := Lib.hid hst
      obtain ⟨x, hxe⟩ : ∃ x, Z.getD K 0 = x := ⟨_, rfl⟩
      rw [hxe] at hx hxr HST
      have hw32 : IntKind.i64.wrap (x - 32) = x - 32 := by rw [IntKind.wrap_i64]; omega
      clear hxe hst
      go_wp2_with fail
      go_roundw
      case rel => exact ⟨K + 1, by omega, by go_num, HST, Lib.hid (HB.out.setCell (p := ⟨g, K, none⟩) hgb _)⟩
      case measure => simp [intOf]; omega
end Go.Proofs.YtapnefjiecabpaaGreatDoor
namespace Go.Proofs.YtapnefjiecabpaaGreatDoor
set_option linter.unusedVariables false
set_option linter.unusedSimpArgs false
set_option linter.unnecessarySimpa false
open Go.RowKit Go.Shelf

/-! the program's table of signs -/
theorem RowsV.grownP {w w' : World} {p : Nat} {x : Value} {t : TypeId} (h : RowsV w) (q : Held w p #[x] t) (hg : w.grownBy w' (some p)) : RowsV w' := by
  refine h.of (hg.block _ h.lt fun e => ?_)
  injection e with e
  obtain ⟨t', fr, hb⟩ := h.block
  unfold Held at q
  rw [e, q] at hb
  injection hb with hb
  injection hb with hb
  have := congrArg Array.size hb
  rw [rowsC_size] at this
  cases this

end Go.Proofs.YtapnefjiecabpaaGreatDoor
namespace Go.Proofs.YtapnefjiecabpaaGreatDoor
set_option linter.unusedVariables false
set_option linter.unusedSimpArgs false
set_option linter.unnecessarySimpa false
open Go.RowKit Go.Shelf
attribute [local go_sem] run_store_complex

/-- what Add answers of letter k and sign j -/
def addV (k j : Nat) : Value := match addK k j with
  | some i => .tuple #[.agg (letV i), .bool true]
  | none => .tuple #[.agg (letV k), .bool false]
theorem addIs_one10 {b : Int} {r i x y re im : Nat} {e : Ending} (h : AddIs b r i x y e) (hb : bothF r i x y = false) (hr : floatBits .add .f64 r x = some re) (hi : floatBits .add .f64 i y = some im) :
    e = .returned (if (joinF b re im).isSome = true then .tuple #[.agg #[.int .i64 b, .complex .f64 re im], .bool true] else .tuple #[.agg #[.int .i64 b, .complex .f64 r i], .bool false]) := by
  rcases h with ⟨h1, _⟩ | ⟨_, re', im', h1, h2, h3⟩
  · rw [hb] at h1; cases h1
  · obtain rfl := SumIs.det h1 hr
    obtain rfl := SumIs.det h2 hi
    rcases h3 with ⟨h3, h4⟩ | ⟨h3, h4⟩
    · rw [h4, if_pos h3]
    · rw [h4, if_neg (by rw [h3]; decide)]
theorem addIs_plain (k j : Nat) (hk : k < 148) (hj : j < 8) {e : Ending} (h : AddIs (LB k) (fl (LM k)) (fl (LT k)) (fl (mM j)) (fl (mT j)) e) : e = .returned (addV k j) := by
  have hf := bothF_eq k j hk hj
  have h1 := letter_small k hk
  have h2 := mk_fl j hj
  unfold addV addK
  cases hb : bothK k j with
  | true =>
    rw [hb] at hf
    rcases h with ⟨_, h⟩ | ⟨h1, _⟩
    · rw [h, if_pos rfl]; rfl
    · rw [hf] at h1; cases h1
  | false =>
    rw [hb] at hf
    rw [addIs_one10 h hf (fadd_small _ _ (by omega) (by omega)) (fadd_small _ _ (by omega) (by omega)), join_sum k j hk hj hb]
    simp only [Bool.false_eq_true, if_false]
    cases hs : sumK k j with
    | none => rfl
    | some i =>
      obtain ⟨_, h3, h4, h5⟩ := sumK_lt hs
      simp only [Option.isSome_some, if_true]
      unfold letV
      rw [h3, h4, h5]
theorem add_letter (k j : Nat) (hk : k < 148) (hj : j < 8) (w : World) (hR : RowsV w) :
    Calls Tryz.prog 134 #[.agg (letV k), .complex .f64 (fl (mM j)) (fl (mT j))] w fun e w' => e = .returned (addV k j) ∧ Below w.heap.size w w' :=
  (vadd_any (LB k) (fl (LM k)) (fl (LT k)) (fl (mM j)) (fl (mT j)) w hR).mono fun e w' ⟨h, hb⟩ => ⟨addIs_plain k j hk hj h, hb⟩
theorem join_letter (k : Nat) (hk : k < 148) (w : World) (hR : RowsV w) :
    Calls Tryz.prog 135 #[.agg (letV k)] w fun e w' => e = .returned (.tuple #[.int .i64 (LS k), .bool true]) ∧ Below w.heap.size w w' :=
  (join_any (LB k) (fl (LM k)) (fl (LT k)) w hR).mono fun e w' ⟨h, hb⟩ => ⟨by rw [h]; unfold joinF; rw [join_of k hk]; rfl, hb⟩
theorem split_none (s : Int) (w : World) (hR : RowsV w) (h : splitF s = none) :
    Calls Tryz.prog 88 #[.int .i64 s] w fun e w' => e = .returned (.tuple #[.agg #[.int .i64 0, .complex .f64 0 0], .bool false]) ∧ Below w.heap.size w w' :=
  (split_any s w hR).mono fun e w' ⟨h1, hb⟩ => ⟨by rw [h1, h]; rfl, hb⟩
theorem split_some (s : Int) (k : Nat) (w : World) (hR : RowsV w) (h : splitF s = some k) :
    Calls Tryz.prog 88 #[.int .i64 s] w fun e w' => e = .returned (.tuple #[.agg (letV k), .bool true]) ∧ Below w.heap.size w w' :=
  (split_any s w hR).mono fun e w' ⟨h1, hb⟩ => ⟨by rw [h1, h]; rfl, hb⟩
theorem sign_none (s : Int) (w : World) (h : sgI s = none) : Calls Tryz.prog 133 #[.int .i64 s] w fun e w' => e = .returned (.tuple #[.complex .f64 0 0, .bool false]) ∧ w' = w :=
  (sign_any s w).mono fun e w' ⟨h1, hb⟩ => ⟨by rw [h1, sgK_eq, h], hb⟩
theorem sign_some (s : Int) (j : Nat) (w : World) (h : sgI s = some j) : Calls Tryz.prog 133 #[.int .i64 s] w fun e w' => e = .returned (.tuple #[.complex .f64 (fl (mM j)) (fl (mT j)), .bool true]) ∧ w' = w :=
  (sign_any s w).mono fun e w' ⟨h1, hb⟩ => ⟨by rw [h1, sgK_eq, h], hb⟩

theorem grown_of {w w' : World} {p : Option Nat} (hb : Below w.heap.size w w') : w.grownBy w' p := ⟨hb.os, hb.tape, hb.output, hb.size, fun k hk _ => hb.block k hk⟩

set_option maxHeartbeats 1600000 in
theorem together_any (c s : Int) (w : World) (hR : RowsV w) :
    Calls Tryz.prog 102 #[.int .i64 c, .int .i64 s] w fun e w' => e = .returned (.tuple #[.int .i64 ((tog c s).getD 0), .bool (tog c s).isSome]) ∧ Below w.heap.size w w' := by
  have HR := Lib.hid hR
  clear hR
  cases hj : sgI s with
  | none =>
    have HT := Lib.hid (show tog c s = none by unfold tog; rw [hj])
    go_enter Tryz.func102, Tryz.ntmps102
    go_wp2_with fail
    refine (sign_none s w hj).mono ?_
    rintro e w1 ⟨rfl, hw⟩
    rw [hw]
    clear hw w1
    go_wp2
    go_ret2
    exact ⟨by rw [HT.out]; rfl, Below.refl _ _⟩
  | some j =>
    have hj8 := (sgI_lt hj).1
    cases hk : splitF c with
    | none =>
      have HT := Lib.hid (show tog c s = none by unfold tog; rw [hj, hk])
      go_enter Tryz.func102, Tryz.ntmps102
      go_wp2_with fail
      refine (sign_some s j w hj).mono ?_
      rintro e w1 ⟨rfl, hw⟩
      rw [hw]
      clear hw w1
      go_wp2_with fail
      refine (split_none c w HR.out hk).mono ?_
      rintro e w1 ⟨rfl, hb1⟩
      have hs1 := hb1.size
      go_wp2
      go_ret2
      exact ⟨by rw [HT.out]; rfl, hb1.alloc hs1 _⟩
    | some k =>
      have hk8 := (splitF_LS hk).1
      have htg : tog c s = (addK k j).map LS := by unfold tog; rw [hj, hk]
      have HT := Lib.hid htg
      have HA := Lib.hid (fun w hR => add_letter k j hk8 hj8 w hR)
      have hv : letV k = #[.int .i64 (LB k), .complex .f64 (fl (LM k)) (fl (LT k))] := rfl
      clear htg
      go_enter Tryz.func102, Tryz.ntmps102
      go_wp2_with fail
      refine (sign_some s j w hj).mono ?_
      rintro e w1 ⟨rfl, hw⟩
      rw [hw]
      clear hw w1
      go_wp2_with fail
      refine (split_some c k w HR.out hk).mono ?_
      rintro e w1 ⟨rfl, hb1⟩
      rw [hv]
      obtain ⟨bx, hbx⟩ : ∃ v, LB k = v := ⟨_, rfl⟩
      obtain ⟨rx, hrx⟩ : ∃ v, fl (LM k) = v := ⟨_, rfl⟩
      obtain ⟨ix, hix⟩ : ∃ v, fl (LT k) = v := ⟨_, rfl⟩
      obtain ⟨px, hpx⟩ : ∃ v, fl (mM j) = v := ⟨_, rfl⟩
      obtain ⟨qx, hqx⟩ : ∃ v, fl (mT j) = v := ⟨_, rfl⟩
      rw [hv] at HA
      rw [hbx, hrx, hix, hpx, hqx] at HA
      rw [hbx, hrx, hix] at hv
      rw [hbx, hrx, hix, hpx, hqx]
      have HV := Lib.hid hv
      have hs1 := hb1.size
      have HB1 := Lib.hid hb1
      clear hv hbx hrx hix hpx hqx hb1
      go_wp2_with fail
      have q1 := Held.new w1 #[.int .i64 bx, .complex .f64 rx ix] 143
      have hb2 := HB1.out.alloc hs1 (.cells #[.int .i64 bx, .complex .f64 rx ix] 143)
      obtain ⟨W2, hW2⟩ : ∃ W2, w1.alloc (.cells #[.int .i64 bx, .complex .f64 rx ix] 143) = W2 := ⟨_, rfl⟩
      rw [hW2] at q1 hb2 ⊢
      obtain ⟨p, hp⟩ : ∃ p, w1.heap.size = p := ⟨_, rfl⟩
      rw [hp] at q1 hs1 ⊢
      have HR2 := Lib.hid (HR.out.below hb2)
      have hs2 := hb2.size
      have hp2 := q1.lt
      have HQ1 := Lib.hid q1
      have HB2 := Lib.hid hb2
      clear hW2 hp q1 hb2 HB1
      clear w1
      refine (HA.out W2 HR2.out).mono ?_
      rintro e w3 ⟨rfl, hb3⟩
      have HR3 := Lib.hid (HR2.out.below hb3)
      have HQ3 := Lib.hid (HQ1.out.below hb3 hp2)
      have HB3 := Lib.hid (HB2.out.trans (hb3.mono hs2))
      clear hb3
      have c0 := HQ3.out.cell 0
      have c1 := HQ3.out.cell 1
      have f0 := HQ3.out.frozen 0
      have f1 := HQ3.out.frozen 1
      have hp3 := HQ3.out.lt
      have hs3 := HB3.out.size
      cases ha : addK k j with
      | none =>
        have ha' : addV k j = .tuple #[.agg #[.int .i64 bx, .complex .f64 rx ix], .bool false] := by unfold addV; rw [ha, ← HV.out]
        have HT2 := Lib.hid (show tog c s = none by rw [HT.out, ha]; rfl)
        rw [ha']
        clear ha ha'
        go_wp2
        go_ret2
        exact ⟨by rw [HT2.out]; rfl, (HB3.out.setCell (p := ⟨p, 0, none⟩) (by simp; omega) _).setCell (p := ⟨p, 1, none⟩) (by simp; omega) _⟩
      | some i =>
        have hv : letV i = #[.int .i64 (LB i), .complex .f64 (fl (LM i)) (fl (LT i))] := rfl
        have ha' : addV k j = .tuple #[.agg (letV i), .bool true] := by unfold addV; rw [ha]
        have hi8 : i < 148 := by
          unfold addK at ha
          split at ha
          · cases ha
          · exact (sumK_lt ha).1
        have HT2 := Lib.hid (show tog c s = some (LS i) by rw [HT.out, ha]; rfl)
        have HJ := Lib.hid (fun w hR => join_letter i hi8 w hR)
        rw [ha', hv]
        rw [hv] at HJ
        obtain ⟨by_, hby⟩ : ∃ v, LB i = v := ⟨_, rfl⟩
        obtain ⟨ry, hry⟩ : ∃ v, fl (LM i) = v := ⟨_, rfl⟩
        obtain ⟨iy, hiy⟩ : ∃ v, fl (LT i) = v := ⟨_, rfl⟩
        rw [hby, hry, hiy] at HJ ⊢
        clear ha ha' hv hby hry hiy
        go_wp2_with fail
        have hR4 : RowsV ((w3.setCell ⟨p, 0, none⟩ (.int .i64 by_)).setCell ⟨p, 1, none⟩ (.complex .f64 ry iy)) := HR.out.below ((HB3.out.setCell (p := ⟨p, 0, none⟩) (by simp; omega) _).setCell (p := ⟨p, 1, none⟩) (by simp; omega) _)
        refine (HJ.out _ hR4).mono ?_
        rintro e w5 ⟨rfl, hb5⟩
        have hb6 := (((HB3.out.setCell (p := ⟨p, 0, none⟩) (by simp; omega) (.int .i64 by_)).setCell (p := ⟨p, 1, none⟩) (by simp; omega) (.complex .f64 ry iy))).trans (hb5.mono (by simp; omega))
        have HB6 := Lib.hid hb6
        clear hb5 hb6 hR4
        go_wp2
        go_ret2
        exact ⟨by rw [HT2.out]; rfl, HB6.out⟩

set_option maxHeartbeats 800000 in
theorem end_any (p : Nat) (c : Int) (w : World) (hq : Held w p #[.int .i64 c] 135) :
    Calls Tryz.prog 72 #[.pointer (some ⟨p, 0, none⟩)] w fun e w' => ∃ v, e = .returned v ∧ IR w' w.heap.size v (kn c) ∧ Held w' p #[.int .i64 0] 135 ∧ w.grownBy w' (some p) := by
  have k0 := hq.cell 0
  have f0 := hq.frozen 0
  have HQ := Lib.hid hq
  have hp := hq.lt
  clear hq
  by_cases h : c = 0
  · subst h
    go_enter Tryz.func72, Tryz.ntmps72
    go_wp2
    go_ret
    exact ⟨_, rfl, IR.nil _ _, HQ.out, World.grownBy.refl _ _⟩
  · have hc : (c == 0) = false := by simpa using h
    have HC := Lib.hid (kn_ne h)
    clear h
    go_enter Tryz.func72, Tryz.ntmps72
    go_wp2
    go_ret
    refine ⟨_, rfl, ?_, ?_, ?_⟩
    · rw [HC.out]
      have := IR.new (w.setCell ⟨p, 0, none⟩ (.int .i64 0)) c
      simpa using this
    · have := heap_setCell_same w p 0 _ _ (.int .i64 0) HQ.out
      exact Held.alloc (W := w.setCell ⟨p, 0, none⟩ (.int .i64 0)) this _
    · exact (grownBy_setCellK w ⟨p, 0, none⟩ _).trans (World.grownBy_alloc _ _ _)

set_option maxHeartbeats 1600000 in
theorem vput_any (p : Nat) (c s : Int) (w : World) (hq : Held w p #[.int .i64 c] 135) (hR : RowsV w) :
    Calls Tryz.prog 71 #[.pointer (some ⟨p, 0, none⟩), .int .i64 s] w fun e w' => ∃ v, e = .returned v ∧ IR w' w.heap.size v (stepC c s).2 ∧ Held w' p #[.int .i64 (stepC c s).1] 135 ∧ w.grownBy w' (some p) := by
  have k0 := hq.cell 0
  have HQ := Lib.hid hq
  have HR := Lib.hid hR
  have hp := hq.lt
  clear hq hR
  go_enter Tryz.func71, Tryz.ntmps71
  go_wp2_with fail
  refine (together_any c s w HR.out).mono ?_
  rintro e w1 ⟨rfl, hb1⟩
  have HQ1 := Lib.hid (HQ.out.below hb1 hp)
  have HB1 := Lib.hid hb1
  have HR1 := Lib.hid (HR.out.below hb1)
  have hs1 := hb1.size
  have k1 := HQ1.out.cell 0
  have f1 := HQ1.out.frozen 0
  have hp1 := HQ1.out.lt
  clear hb1 k0
  cases ht : tog c s with
  | some u =>
    have HS := Lib.hid (show stepC c s = (u, []) by unfold stepC; rw [ht])
    simp only [Option.getD_some, Option.isSome_some]
    clear ht
    go_wp2
    go_ret
    refine ⟨_, rfl, ?_, ?_, ?_⟩
    · rw [HS.out]; exact IR.nil _ _
    · rw [HS.out]; exact heap_setCell_same w1 p 0 _ _ (.int .i64 u) HQ1.out
    · exact (grown_of HB1.out).trans (grownBy_setCellK w1 ⟨p, 0, none⟩ _)
  | none =>
    simp only [Option.getD_none, Option.isSome_none]
    have HT := Lib.hid ht
    clear ht
    go_wp2_with fail
    refine (end_any p c w1 HQ1.out).mono ?_
    rintro e w2 ⟨v2, rfl, hr2, hq2, hg2⟩
    have HR2 := Lib.hid (HR1.out.grownP HQ1.out hg2)
    have hs2 := hg2.size
    have hp2 := hq2.lt
    have HO2 := Lib.hid (hr2.low hs1)
    have HQ2 := Lib.hid hq2
    have hg02 : w.grownBy w2 (some p) := ⟨hg2.os.trans HB1.out.os, hg2.tape.trans HB1.out.tape, hg2.output.trans HB1.out.output, Nat.le_trans hs1 hg2.size, fun k hk hne => (hg2.block k (by omega) hne).trans (HB1.out.block k hk)⟩
    have HG2 := Lib.hid hg02
    clear hr2 hq2 hg2 hg02 f1 k1
    go_wp2_with fail
    cases hk : splitF s with
    | some k =>
      have hv : letV k = #[.int .i64 (LB k), .complex .f64 (fl (LM k)) (fl (LT k))] := rfl
      have HS := Lib.hid (show stepC c s = (s, kn c) by unfold stepC; rw [HT.out]; simp [isL, hk])
      refine (split_some s k w2 HR2.out hk).mono ?_
      rintro e w3 ⟨rfl, hb3⟩
      rw [hv]
      have hq3 := HQ2.out.below hb3 hp2
      have hs3 := hb3.size
      have hp3 := hq3.lt
      have HO3 := Lib.hid (HO2.out.below hb3 (Nat.le_refl _))
      have HG3 := Lib.hid (show w.grownBy w3 (some p) from ⟨hb3.os.trans HG2.out.os, hb3.tape.trans HG2.out.tape, hb3.output.trans HG2.out.output, by omega, fun k hk hne => (hb3.block k (by omega)).trans (HG2.out.block k hk hne)⟩)
      have HQ3 := Lib.hid hq3
      have f3 := hq3.frozen 0
      have k3 := hq3.cell 0
      clear hb3 hq3 hv hk
      go_wp2
      go_ret
      refine ⟨_, rfl, ?_, ?_, ?_⟩
      · rw [HS.out]
        exact (HO3.out.grownP HQ3.out (by decide) (grownBy_setCellK w3 ⟨p, 0, none⟩ _)).alloc _
      · rw [HS.out]
        have := heap_setCell_same w3 p 0 _ _ (.int .i64 s) HQ3.out
        exact Held.alloc (W := w3.setCell ⟨p, 0, none⟩ (.int .i64 s)) this _
      · exact HG3.out.trans ((grownBy_setCellK w3 ⟨p, 0, none⟩ _).trans (World.grownBy_alloc _ _ _))
    | none =>
      have HS := Lib.hid (show stepC c s = (0, kn c ++ [s]) by unfold stepC; rw [HT.out]; simp [isL, hk])
      have hkl := kn_len c
      refine (split_none s w2 HR2.out hk).mono ?_
      rintro e w3 ⟨rfl, hb3⟩
      have hq3 := HQ2.out.below hb3 hp2
      have hs3 := hb3.size
      have hp3 := hq3.lt
      have HO3 := Lib.hid ((HO2.out.below hb3 (Nat.le_refl _)).alloc (.cells #[.int .i64 0, .complex .f64 0 0] 143))
      have HG3 := Lib.hid (show w.grownBy (w3.alloc (.cells #[.int .i64 0, .complex .f64 0 0] 143)) (some p) from (show w.grownBy w3 (some p) from ⟨hb3.os.trans HG2.out.os, hb3.tape.trans HG2.out.tape, hb3.output.trans HG2.out.output, by omega, fun k hk hne => (hb3.block k (by omega)).trans (HG2.out.block k hk hne)⟩).trans (World.grownBy_alloc _ _ _))
      have HQ3 := Lib.hid (hq3.alloc (.cells #[.int .i64 0, .complex .f64 0 0] 143))
      clear hb3 hq3 hk
      go_wp2_with (at_builtin; refine wpList_appI1 rfl _ _ rfl w.heap.size v2 (kn c) s rfl HO3.out _ rfl (by simp) (by omega) (by simp; omega) ?_; intro v4 w4 hO4 hG4)
      go_ret
      refine ⟨_, rfl, ?_, ?_, ?_⟩
      · rw [HS.out]; exact hO4.out
      · rw [HS.out]; exact HQ3.out.grownI HO3.out (by decide) hG4.out
      · exact ⟨hG4.out.os.trans HG3.out.os, hG4.out.tape.trans HG3.out.tape, hG4.out.output.trans HG3.out.output, Nat.le_trans HG3.out.size hG4.out.size, fun k hk hne => (hG4.out.block k (Nat.lt_of_lt_of_le hk HG3.out.size) (fun e => by have := (HO3.out.lt e.symm).1; omega)).trans (HG3.out.block k hk hne)⟩
end Go.Proofs.YtapnefjiecabpaaGreatDoor
namespace Go.Proofs.YtapnefjiecabpaaGreatDoor
set_option linter.unusedVariables false
set_option linter.unusedSimpArgs false
set_option linter.unnecessarySimpa false
open Go.RowKit Go.Shelf
attribute [local go_sem] run_store_complex

set_option maxHeartbeats 1600000 in
theorem all10_any (n : Nat) (A : Option Addr) (cap : Nat) (zs : List Int) (w : World) (hn : n = zs.length) (hr : RI w A zs) (hl : zs.length ≤ 1000000) (hR : RowsV w) :
    Calls Tryz.prog 42 #[.slice A n cap] w fun e w' => ∃ v, e = .returned v ∧ IR w' w.heap.size v (cGo 0 zs) ∧ Below w.heap.size w w' := by
  subst hn
  have HR := Lib.hid hr
  have HRV := Lib.hid hR
  clear hr hR
  go_enter Tryz.func42, Tryz.ntmps42
  go_wp2_with fail
  have hq0 : Held (w.alloc (.cells #[.int .i64 0] 135)) w.heap.size #[.int .i64 0] 135 := Held.new w _ _
  have hb0 : Below w.heap.size w (w.alloc (.cells #[.int .i64 0] 135)) := (Below.refl _ w).alloc (Nat.le_refl _) _
  obtain ⟨p, hp⟩ : ∃ p, w.heap.size = p := ⟨_, rfl⟩
  have hpl : w.heap.size ≤ p := by omega
  have hpl2 : p ≤ w.heap.size := by omega
  rw [hp] at hq0 hb0 ⊢
  have HRP := Lib.hid (show Rd w p A (zs.map (Value.int .i64)) by rw [← hp]; exact HR.out)
  clear hp
  go_loopw [4, 9] (fun v k wr => ∃ K : Nat, K ≤ zs.length ∧ k = .int .i64 K ∧ Hid (IR wr p v (cOut 0 (zs.take K))) ∧ Hid (Held wr p #[.int .i64 (cSt 0 (zs.take K))] 135) ∧ Hid (Below p w wr)) (fun _ k _ => zs.length - (intOf k).toNat)
  case atStart => exact ⟨0, by omega, rfl, Lib.hid (IR.nil _ _), Lib.hid hq0, Lib.hid hb0⟩
  case round =>
    obtain ⟨K, hK, rfl, HO, HQ, HB⟩ := hrel
    clear hq0 hb0
    have hpr := HQ.out.lt
    have hol := cOut_len 0 (zs.take K)
    rw [kn_zero, List.length_nil, List.length_take] at hol
    have hol2 : (cOut 0 (zs.take K)).length ≤ 1000000 := by omega
    have hoc := cOut_snoc 0 (zs.take K)
    have hoe := cGo_eq 0 (zs.take K)
    obtain ⟨c, hc⟩ : ∃ c, cSt 0 (zs.take K) = c := ⟨_, rfl⟩
    obtain ⟨out, hout⟩ : ∃ c, cOut 0 (zs.take K) = c := ⟨_, rfl⟩
    rw [hc, hout] at hoc hoe
    rw [hc] at HQ
    rw [hout] at HO hol2
    clear hc hout hol
    have hkl := kn_len c
    have HRW := Lib.hid (HRV.out.below (HB.out.mono hpl))
    by_cases hKl : K = zs.length
    · have hfin : zs.take K = zs := by rw [hKl]; exact List.take_length
      rw [hfin] at hoe
      have HE := Lib.hid hoe
      have hKl' : ¬ K < zs.length := by omega
      clear hfin hKl hoe hoc
      go_wp2_with fail
      refine (end_any p c wr HQ.out).mono ?_
      rintro e w2 ⟨v2, rfl, hr2, hq2, hg2⟩
      obtain ⟨A2, c2, rfl, _, _⟩ := hr2.form
      have HR2 := Lib.hid hr2
      have HO2 := Lib.hid (HO.out.grownP HQ.out (by decide) hg2)
      have HB2 := Lib.hid (below_grow HB.out (by omega) hg2 (Nat.le_refl _))
      have hs2 := hg2.size
      clear hr2 hq2 hg2
      go_wp2_with (refine wpList_appI rfl _ _ rfl p _ out rfl HO2.out A2 _ c2 (kn c) rfl rfl _ HR2.out.rd (by omega) (by omega) ?_; intro v3 w3 hO3 hG3)
      go_ret
      exact ⟨_, rfl, by rw [HE.out]; exact hO3.out.low hpl, (IR.keepsB HB2.out hG3.out HO2.out (Nat.le_refl _) (by omega)).mono hpl⟩
    have hKl' : K < zs.length := by omega
    obtain ⟨b, off, rfl, hbl, hcell⟩ := rd_ints (HRP.out.below HB.out (Nat.le_refl _)) (by omega)
    have hx := hcell K hKl'
    obtain ⟨x, hxe⟩ : ∃ x, x = zs.getD K 0 := ⟨_, rfl⟩
    rw [← hxe] at hx
    have htk : zs.take (K + 1) = zs.take K ++ [x] := by rw [List.take_succ_eq_append_getElem hKl', hxe]; simp [List.getD_eq_getElem?_getD, hKl']
    have HTK := Lib.hid (show cOut 0 (zs.take (K + 1)) = out ++ (stepC c x).2 ∧ cSt 0 (zs.take (K + 1)) = (stepC c x).1 by rw [htk]; exact hoc x)
    have hsl := stepC_len2 c x
    clear hcell hxe htk hoc hoe
    go_wp2_with fail
    refine (vput_any p c x wr HQ.out HRW.out).mono ?_
    rintro e w1 ⟨v1, rfl, hr1, hq1, hg1⟩
    obtain ⟨A2, c2, rfl, _, _⟩ := hr1.form
    have HR2 := Lib.hid hr1
    have HO2 := Lib.hid (HO.out.grownP HQ.out (by decide) hg1)
    have HB2 := Lib.hid (below_grow HB.out (by omega) hg1 (Nat.le_refl _))
    have HQ2 := Lib.hid hq1
    have hs2 := hg1.size
    clear hr1 hq1 hg1 HO HQ HB
    go_wp2_with (refine wpList_appI rfl _ _ rfl p _ out rfl HO2.out A2 _ c2 (stepC c x).2 rfl rfl _ HR2.out.rd (by omega) (by omega) ?_; intro v3 w3 hO3 hG3)
    exact ⟨⟨K + 1, by omega, by go_num, by rw [HTK.out.1]; exact hO3, by rw [HTK.out.2]; exact Lib.hid (HQ2.out.grownI HO2.out (by decide) hG3.out), Lib.hid (IR.keepsB HB2.out hG3.out HO2.out (Nat.le_refl _) (by omega))⟩, by simp [intOf]; omega⟩
end Go.Proofs.YtapnefjiecabpaaGreatDoor
