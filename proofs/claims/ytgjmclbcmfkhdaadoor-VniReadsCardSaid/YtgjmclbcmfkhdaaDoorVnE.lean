/- Layer 13: the law's examples. -/
import Derived.Test.YtgjmclbcmfkhdaaDoorVnD
import Derived.Test.YtgjmclbcmfkhdaaDoorUnitsA
namespace Go.Proofs.YtgjmclbcmfkhdaaDoor
set_option linter.unusedVariables false
set_option linter.unusedSimpArgs false
set_option linter.unnecessarySimpa false
open Go.RowKit Go.Shelf
attribute [local go_sem] run_store_complex
/-- Split, Small: a letter's bytes -/
theorem vnletV (k : Nat) : letV k = #[.int .i64 (LB k), .complex .f64 (fl (LM k)) (fl (LT k))] := rfl
set_option maxRecDepth 100000 in
set_option maxHeartbeats 3200000 in
theorem awake13_any (w : World) (hT : TabN w) : Calls Tryd.prog 9 #[] w fun e w' => e = .returned (.bool true) ∧ Below w.heap.size w w' := by
  have S1 := Lib.hid (fun W h => split_some13 0x1ebf 26 W h (by decide +kernel))
  have S2 := Lib.hid (fun W h => split_some13 0x1ef1 65 W h (by decide +kernel))
  have M1 := Lib.hid (fun W h => vnsmall_at 26 (by decide) W h)
  have M2 := Lib.hid (fun W h => vnsmall_at 65 (by decide) W h)
  rw [vnletV, show vnL 26 = [101, 225] by decide +kernel] at M1
  rw [vnletV, show vnL 65 = [246, 239] by decide +kernel] at M2
  obtain ⟨b1, hb1⟩ : ∃ v, LB 26 = v := ⟨_, rfl⟩
  obtain ⟨r1, hr1⟩ : ∃ v, fl (LM 26) = v := ⟨_, rfl⟩
  obtain ⟨i1, hi1⟩ : ∃ v, fl (LT 26) = v := ⟨_, rfl⟩
  obtain ⟨b2, hb2⟩ : ∃ v, LB 65 = v := ⟨_, rfl⟩
  obtain ⟨r2, hr2⟩ : ∃ v, fl (LM 65) = v := ⟨_, rfl⟩
  obtain ⟨i2, hi2⟩ : ∃ v, fl (LT 65) = v := ⟨_, rfl⟩
  rw [hb1, hr1, hi1] at S1 M1
  rw [hb2, hr2, hi2] at S2 M2
  have R1 := Lib.hid (fun W h => vnrules_any W h)
  have HT := Lib.hid hT
  clear hT hb1 hr1 hi1 hb2 hr2 hi2
  go_enter Tryd.func9, Tryd.ntmps9
  go_wp2_with fail
  refine (S1.out w HT.out.rows).mono ?_
  rintro e w1 ⟨rfl, hb1⟩
  have hs1 := hb1.size
  go_wp2_with fail
  have hb2 : Below w.heap.size w (w1.alloc (.cells #[.int .i64 b1, .complex .f64 r1 i1] 26)) := hb1.alloc hs1 _
  refine (M1.out _ (HT.out.below hb2)).mono ?_
  rintro e w2 ⟨v, rfl, hO, hb3⟩
  have HB2 := Lib.hid (hb2.trans (hb3.mono (by simp; omega)))
  obtain ⟨g, c, rfl, hgb, hgl⟩ := hO.formG (by decide)
  have HO := Lib.hid (show IR w2 w.heap.size (.slice (some ⟨g, 0, none⟩) [(101 : Int), 225].length c) [101, 225] from hO.low (by simp; omega))
  clear hO hb3 hb2 hb1 hs1 hgb hgl
  go_wp2_with fail
  have hs2 := HB2.out.size
  refine (S2.out w2 (HT.out.below HB2.out).rows).mono ?_
  rintro e w3 ⟨rfl, hb4⟩
  have hb5 : Below w2.heap.size w2 (w3.alloc (.cells #[.int .i64 b2, .complex .f64 r2 i2] 26)) := hb4.alloc hb4.size _
  have HO5 := Lib.hid (HO.out.below hb5 (Nat.le_refl _))
  have HB5 := Lib.hid (HB2.out.trans (hb5.mono hs2))
  have HT5 := Lib.hid (HT.out.below HB5.out)
  have x0 := HO5.out.cellAt 0 (by decide)
  have x1 := HO5.out.cellAt 1 (by decide)
  simp only [List.getD_cons_zero, List.getD_cons_succ] at x0 x1
  clear hb4 hb5 HO HB2
  go_wp2_with fail
  refine (M2.out _ HT5.out).mono ?_
  rintro e w6 ⟨v6, rfl, hO6, hb6⟩
  have hs5 := HB5.out.size
  obtain ⟨A6, c6, rfl, -, -⟩ := hO6.form
  have HB6 := Lib.hid (HB5.out.trans (hb6.mono hs5))
  have hb7 : Below w6.heap.size w6 (w6.alloc (.cells #[.int .i64 246, .int .i64 239] 3)) := (Below.refl _ w6).alloc (Nat.le_refl _) _
  have HB7 := Lib.hid (HB6.out.trans (hb7.mono HB6.out.size))
  have U1 := Lib.hid (units_any 2 2 A6 (some ⟨w6.heap.size, 0, none⟩) c6 2 [246, 239] [246, 239] (w6.alloc (.cells #[.int .i64 246, .int .i64 239] 3)) rfl rfl rfl (hO6.rd.below hb7) (rd_new_ints w6 .i64 [246, 239] _ _ rfl) (by decide))
  clear hO6 hb6 hb7 x0 x1 HO5 HT5
  go_wp2_with fail
  refine U1.out.mono ?_
  rintro e w8 ⟨rfl, hb8⟩
  have HB8 := Lib.hid (HB7.out.trans (hb8.mono HB7.out.size))
  clear hb8 U1 HB7 HB6
  go_wp2_with fail
  refine (R1.out _ (HT.out.below HB8.out)).mono ?_
  rintro e w9 ⟨v9, rfl, hO9, hb9⟩
  obtain ⟨A9, c9, rfl, -⟩ := hO9.form
  rw [vnR_len]
  have HB9 := Lib.hid (HB8.out.trans (hb9.mono HB8.out.size))
  clear hO9 hb9 HB8
  go_wp2_with fail
  go_ret
  exact ⟨rfl, HB9.out⟩
end Go.Proofs.YtgjmclbcmfkhdaaDoor
