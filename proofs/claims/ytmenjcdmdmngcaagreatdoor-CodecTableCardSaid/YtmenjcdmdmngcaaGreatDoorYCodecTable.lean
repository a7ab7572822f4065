/- Layer 19: a codec's table has its rules; some have none. -/
import Derived.Test.YtmenjcdmdmngcaaGreatDoorZ35
import Derived.Test.YtmenjcdmdmngcaaGreatDoorZ31
import Derived.Test.YtmenjcdmdmngcaaGreatDoorZ6
import Derived.Test.YtmenjcdmdmngcaaGreatDoorZ27
namespace Go.Proofs.YtmenjcdmdmngcaaGreatDoor
set_option linter.unusedVariables false
set_option linter.unusedSimpArgs false
set_option linter.unnecessarySimpa false
open Go.RowKit
set_option maxRecDepth 100000 in
set_option maxHeartbeats 3200000 in
theorem codecTable_any (I : CodApi) (h5 : I.N 5) (z u : Int) (w : World) (hI : I.OK w) (hz0 : 0 ≤ z) (hz1 : z ≤ 255) :
    Calls Tryz.prog 6 #[.int .u8 z, .int .i64 u] w fun e w' => e = .returned (.bool true) ∧ Below w.heap.size w w' := by
  obtain ⟨k, hk, hk8⟩ := byte8 z hz0 hz1
  have k3 : (0 : Int) ≤ (k : Int) := by omega
  have k4 : (k : Int) < 8 := by omega
  have k5 : IntKind.i64.wrap (k : Int) = k := by rw [IntKind.wrap_i64]; omega
  have HI := Lib.hid hI
  clear hI
  go_enter Tryz.func6, Tryz.ntmps6
  go_wp2_with fail
  refine (awake19_any I h5 w HI.out).mono ?_
  rintro e w1 ⟨rfl, hb1⟩
  have HB1 := Lib.hid hb1
  have hs1 := hb1.size
  have hcn := names_cell w1 k hk8
  obtain ⟨W2, hW2⟩ : ∃ W, w1.alloc (.cells nmC 9) = W := ⟨_, rfl⟩
  have hba : Below w1.heap.size w1 W2 := by rw [← hW2]; exact below_allocC _ _
  rw [hW2] at hcn
  have HB2 := Lib.hid (HB1.out.trans (hba.mono HB1.out.size))
  have HI2 := Lib.hid (I.keep HI.out HB2.out)
  clear hba hb1
  go_wp2_with (go_at_call 11; refine (names_any w1).mono ?_; rintro e wq ⟨rfl, rfl⟩)
  try rw [hW2]
  clear hW2
  rcases kinds hk8 with h0 | h7 | ⟨h1, h6⟩
  · have T3 := Lib.hid (I.notab W2 (nmB k) (.inl (by rw [h0])) HI2.out)
    subst h0
    refine T3.out.mono ?_
    rintro e w3 ⟨rfl, hb3⟩
    have HB3 := Lib.hid (HB2.out.trans (hb3.mono HB2.out.size))
    have T4 := Lib.hid (I.notab w3 ⟨#[120]⟩ (.inr (.inr rfl)) (I.keep HI.out HB3.out))
    clear hb3 T3
    go_wp2_with fail
    refine T4.out.mono ?_
    rintro e w4 ⟨rfl, hb4⟩
    have HB4 := Lib.hid (HB3.out.trans (hb4.mono HB3.out.size))
    clear hb4 T4
    go_wp2_with fail
    go_ret
    exact ⟨rfl, HB4.out⟩
  · have T3 := Lib.hid (I.notab W2 (nmB k) (.inr (.inl (by rw [h7]))) HI2.out)
    subst h7
    refine T3.out.mono ?_
    rintro e w3 ⟨rfl, hb3⟩
    have HB3 := Lib.hid (HB2.out.trans (hb3.mono HB2.out.size))
    have T4 := Lib.hid (I.notab w3 ⟨#[120]⟩ (.inr (.inr rfl)) (I.keep HI.out HB3.out))
    clear hb3 T3
    go_wp2_with fail
    refine T4.out.mono ?_
    rintro e w4 ⟨rfl, hb4⟩
    have HB4 := Lib.hid (HB3.out.trans (hb4.mono HB3.out.size))
    clear hb4 T4
    go_wp2_with fail
    go_ret
    exact ⟨rfl, HB4.out⟩
  have d0 : ((k : Int) == 0) = false := by simp; omega
  have d7 : ((k : Int) == 7) = false := by simp; omega
  obtain ⟨rs, hrs⟩ : ∃ rs, cdR k = rs := ⟨_, rfl⟩
  have hg : Good rs := by rw [← hrs]; exact (cdR_p h1 h6).good
  have hgT : Good (turnR rs) := by rw [← hrs]; exact (cdR_p h1 h6).goodT
  refine (I.table W2 k h1 h6 HI2.out).mono ?_
  rintro e w3 ⟨T, rfl, ht3, hb3⟩
  have HB3 := Lib.hid (HB2.out.trans (hb3.mono HB2.out.size))
  have R4 := Lib.hid (lrules19_any k h1 h6 w3 (I.tabs (I.keep HI.out HB3.out)))
  rw [hrs] at ht3 R4
  have HT3 := Lib.hid ht3
  have HG := Lib.hid hg
  have HGT := Lib.hid hgT
  clear ht3 hb3 hg hgT hrs
  go_wp2_with fail
  refine R4.out.mono ?_
  rintro e w4 ⟨v4, rfl, ho4, hb4⟩
  have hob := ho4
  obtain ⟨A4, c4, rfl, hr4⟩ := ho4.form
  obtain ⟨N, hN⟩ : ∃ N, rs.length = N := ⟨_, rfl⟩
  rw [hN] at hr4 ⊢
  have hN5 : N ≤ 512 := by rw [← hN]; exact HG.out.many
  have HR4 := Lib.hid hr4
  have HT4 := Lib.hid (HT3.out.below hb4 hb4.size)
  have HB4 := Lib.hid (HB3.out.trans (hb4.mono HB3.out.size))
  have L5 := Lib.hid (tab_longest w4 w4.heap.size T rs HT4.out (Nat.le_refl _))
  clear ho4 hob hr4 hb4 hN R4 HT3
  go_wp2_with fail
  refine L5.out.mono ?_
  rintro e w5 ⟨rfl, hb5⟩
  obtain ⟨l1, hl1⟩ : ∃ l, longR rs = l := ⟨_, rfl⟩
  obtain ⟨l2, hl2⟩ : ∃ l, longR (turnR rs) = l := ⟨_, rfl⟩
  rw [hl1, hl2]
  have HL1 := Lib.hid hl1
  have HL2 := Lib.hid hl2
  have HB5 := Lib.hid (HB4.out.trans (hb5.mono HB4.out.size))
  have HT5 := Lib.hid (HT4.out.below hb5 hb5.size)
  have HR5 := Lib.hid (HR4.out.below hb5 hb5.size)
  clear hl1 hl2 hb5 L5 HT4 HR4
  go_wp2_with fail
  obtain ⟨W6, hW6⟩ : ∃ W, w5.alloc (.cells #[.int .i64 u, .int .i64 z, .int .i64 (128 + z / 2)] 3) = W := ⟨_, rfl⟩
  obtain ⟨xs, hxs⟩ : ∃ xs : List Int, [u, z, 128 + z / 2] = xs := ⟨_, rfl⟩
  have hb56 : Below w5.heap.size w5 W6 := by rw [← hW6]; exact below_allocC _ _
  have hx6 : Rd W6 W6.heap.size (some ⟨w5.heap.size, 0, none⟩) (xs.map (Value.int .i64)) := by rw [← hW6, ← hxs]; exact rd_new_ints w5 .i64 [u, z, 128 + z / 2] _ #[.int .i64 u, .int .i64 z, .int .i64 (128 + z / 2)] rfl
  have hxl : xs.length = 3 := by rw [← hxs]; rfl
  rw [hW6]
  obtain ⟨g5, hg5⟩ : ∃ g, w5.heap.size = g := ⟨_, rfl⟩
  rw [hg5] at hx6 ⊢
  have HX6 := Lib.hid hx6
  have HXL := Lib.hid hxl
  have HB6 := Lib.hid (HB5.out.trans (hb56.mono HB5.out.size))
  have HT6 := Lib.hid (HT5.out.below hb56 hb56.size)
  have HR6 := Lib.hid (HR5.out.below hb56 hb56.size)
  have LL := Lib.hid (longest_any N A4 c4 rs _ W6 HR6.out (Nat.le_refl _) l1 HL1.out)
  have e1 : (l1 == l1) = true := by simp
  have e2 : (l2 == l2) = true := by simp
  clear hb56 hx6 hxl hxs hW6 hg5 HT5 HR5
  refine LL.out.mono ?_
  rintro e w7 ⟨rfl, hb7⟩
  have HB7 := Lib.hid (HB6.out.trans (hb7.mono HB6.out.size))
  have HB67 := Lib.hid hb7
  have TT := Lib.hid (turn_any N A4 c4 rs _ w7 (HR6.out.below hb7 hb7.size) (Nat.le_refl _) (by omega) (fun r hr => by have := HG.out.side r hr; omega) (turnR rs) rfl)
  clear hb7 LL
  go_wp2_with fail
  refine TT.out.mono ?_
  rintro e w8 ⟨v8, rfl, ho8, hb8⟩
  obtain ⟨A8, c8, rfl, hr8⟩ := ho8.form
  have HB8 := Lib.hid (HB7.out.trans (hb8.mono HB7.out.size))
  have HB68 := Lib.hid (below_trans _ _ _ HB67.out hb8)
  have LT := Lib.hid (longest_any (turnR rs).length A8 c8 (turnR rs) _ w8 hr8 (Nat.le_refl _) l2 HL2.out)
  clear ho8 hr8 hb8 TT
  go_wp2_with fail
  refine LT.out.mono ?_
  rintro e w9 ⟨rfl, hb9⟩
  have HB9 := Lib.hid (HB8.out.trans (hb9.mono HB8.out.size))
  have hb69 := below_trans _ _ _ HB68.out hb9
  have HB69 := Lib.hid hb69
  have HX9 := Lib.hid (HX6.out.below hb69 hb69.size)
  obtain ⟨ts, hts⟩ : ∃ ts, rewA rs 0 xs = ts := ⟨_, rfl⟩
  have HTS := Lib.hid hts
  have TD := Lib.hid (tab_decode w9 w9.heap.size T rs (HT6.out.below hb69 hb69.size) (Nat.le_refl _) 3 _ 3 xs w9.heap.size HXL.out.symm HX9.out (Nat.le_refl _) (Nat.le_refl _) (by simp [maxLen]) (by omega) ts hts)
  clear hb9 hb69 hts LT
  go_wp2_with fail
  refine TD.out.mono ?_
  rintro e w10 ⟨v10, rfl, ho10, hb10⟩
  obtain ⟨A10, c10, rfl, hat10⟩ := ho10.form
  obtain ⟨m, hm⟩ : ∃ m, ts.length = m := ⟨_, rfl⟩
  rw [hm] at hat10 ⊢
  have HB10 := Lib.hid (HB9.out.trans (hb10.mono HB9.out.size))
  have hb610 := below_trans _ _ _ HB69.out hb10
  have HAT10 := Lib.hid hat10
  have HX10 := Lib.hid (HX9.out.below hb10 hb10.size)
  have LA := Lib.hid (lall_any N A4 c4 rs _ w10 (HR6.out.below hb610 hb610.size) HG.out (Nat.le_refl _) 3 _ 3 xs w10.heap.size HXL.out.symm HX10.out (Nat.le_refl _) (Nat.le_refl _) (by simp [maxLen]) (by omega) ts HTS.out)
  clear ho10 hat10 hb10 hb610 TD
  go_wp2_with fail
  refine LA.out.mono ?_
  rintro e w11 ⟨v11, rfl, ho11, hb11⟩
  obtain ⟨A11, c11, rfl, hat11⟩ := ho11.form
  rw [hm] at hat11 ⊢
  have HB11 := Lib.hid (HB10.out.trans (hb11.mono HB10.out.size))
  have SA := Lib.hid (same_tk m A10 A11 c10 c11 ts _ _ w11 (HAT10.out.below hb11 hb11.size) hat11)
  clear ho11 hat11 hb11 LA hm
  go_wp2_with fail
  refine SA.out.mono ?_
  rintro e w12 ⟨rfl, m12, hm12⟩
  have hb12 : Below w11.heap.size w11 w12 := by rw [hm12]; exact below_dN w11 m12
  have HB12 := Lib.hid (HB11.out.trans (hb12.mono HB11.out.size))
  clear hb12 hm12 SA
  go_wp2_with fail
  go_ret
  exact ⟨rfl, HB12.out⟩
end Go.Proofs.YtmenjcdmdmngcaaGreatDoor
