/- UtfPut: the walk. -/
import Derived.Test.YtbigbkplhlmbmaaUtfOwn
namespace Go.Proofs.Ytbigbkplhlmbmaa
set_option linter.unusedVariables false
open Go.RowKit

set_option maxHeartbeats 800000 in
theorem utfPut_any (s n : Int) (A : Option Addr) (cap : Nat) (zs : List Int) (w : World) (hs : (-9223372036854775808 : Int) ≤ s ∧ s ≤ 9223372036854775807) (hn : 0 ≤ n ∧ n ≤ 4294967295)
    (hr : Rd w w.heap.size A (zs.map (Value.int .u8))) (hc : zs.length ≤ cap) (hb : ∀ z ∈ zs, 0 ≤ z ∧ z ≤ 255) (hl : zs.length ≤ 140737488351232) :
    Calls Try.prog 3 #[.int .i64 s, .int .u32 n, .slice A zs.length cap] w fun e w' => e = .returned (.bool true) ∧ Below w.heap.size w w' := by
  have HR := Lib.hid hr
  have HB := Lib.hid hb
  clear hr hb
  go_enter Try.func3, Try.ntmps3
  go_wp2_with (first
      | (go_at_call 9; refine (awake_any _).mono ?_; rintro e w1 ⟨rfl, hb1⟩))
  obtain ⟨o, ho⟩ : ∃ o, o = Obj.cells #[Value.int IntKind.i64 s, Value.int IntKind.i64 (n % 1179648), Value.int IntKind.i64 (n % 2304 - 2)] 3 := ⟨_, rfl⟩
  have hcells : ∀ k, k < 3 → ∃ x : Int, (w1.alloc o).cell? ⟨w1.heap.size, k, none⟩ = some (.int .i64 x) := by
    intro k hk
    rw [ho, cell_of_row _ _ _ _ _ _ (heap_alloc_new w1 _)]
    match k, hk with
    | 0, _ => exact ⟨_, rfl⟩
    | 1, _ => exact ⟨_, rfl⟩
    | 2, _ => exact ⟨_, rfl⟩
  rw [← ho]
  have hz : (w1.alloc o).heap.size = w1.heap.size + 1 := by simp
  have hb2 : Below w.heap.size w (w1.alloc o) := hb1.alloc hb1.size o
  obtain ⟨W, hW⟩ : ∃ W, W = w1.alloc o := ⟨_, rfl⟩
  rw [← hW] at hcells hz hb2 ⊢
  have HC := Lib.hid hcells
  have HZ := Lib.hid hz
  have hsz := hb1.size
  clear hcells hz ho hW
  go_loopw [23] (fun i wr => ∃ k : Nat, k ≤ 3 ∧ i = .int .i64 k ∧ Below W.heap.size W wr) (fun i _ => 3 - (intOf i).toNat)
  case atStart => exact ⟨0, by omega, rfl, Below.refl _ _⟩
  case round =>
    obtain ⟨k, hk, rfl, hbr⟩ := hrel
    by_cases hk3 : k = 3
    · subst hk3
      go_wp2
      go_ret
      exact ⟨rfl, hb2.trans (hbr.mono hb2.size)⟩
    obtain ⟨x, hx⟩ := HC.out k (by omega)
    have hcell : wr.cell? ⟨w1.heap.size, k, none⟩ = some (.int .i64 x) := (hbr.cell (p := ⟨w1.heap.size, k, none⟩) (by rw [HZ.out]; exact Nat.lt_succ_self _)).trans hx
    have hrr : Rd wr wr.heap.size A (zs.map (Value.int .u8)) := (HR.out.below hb2 hb2.size).below hbr hbr.size
    have HRR := Lib.hid hrr
    clear hx hrr
    have hcv := fun (w : World) (A : Option Addr) (zs : List Int) (n cap : Nat) => run_str (P := Try.prog) w 23 9 5 Try.underlying23 Try.underlying5 Try.underlying9 w.heap.size A zs n cap
    have HCV := Lib.hid hcv
    clear hcv
    have hq1 : (strOfNums zs).size ≤ 140737488351232 := by rw [strOfNums_size]; exact hl
    have hq2 : (strOfNums (encL x)).size ≤ 4 := by rw [strOfNums_size]; exact encL_len x
    cases hsc : scB x
    · have hsz0 : szI x = 0 := by simp [szI, hsc]
      go_wp2_with (go_at_call 10; refine (scalarL _ _).mono ?_; rintro e w' ⟨rfl, rfl⟩)
      refine wp_region_mix (G := fun w w' => Below w.heap.size w w') [(0, false), (2, false), (1, true), (3, true), (4, false), (5, false), (6, false), (8, false), (7, true), (9, false), (10, false), (11, false), (12, false), (13, false), (16, false), (17, false), (18, false), (19, false), (14, true), (15, false), (20, false), (21, false)]
        below_refl below_trans (by kernel_rfl) rfl (by kernel_rfl) (by kernel_rfl) (below_refl _).drew ?_
      iterate 2 (refine mix_one rfl rfl ?_; go_big_quiet_step ((intro _; rfl)); refine wpQuiet_nil ?_)
      refine mix_call rfl ?_
      intro w4 hb4
      go_wp2_with (go_at_call 12; refine (scalarU _ _).mono ?_; rintro e w' ⟨rfl, rfl⟩)
      refine ⟨Below.refl _ _, ?_⟩
      refine mix_call rfl ?_
      intro w5 hb5
      go_wp2_with (go_at_call 10; refine (scalarL _ _).mono ?_; rintro e w' ⟨rfl, rfl⟩)
      refine ⟨Below.refl _ _, ?_⟩
      iterate 4 (refine mix_one rfl rfl ?_; go_big_quiet_step ((intro _; rfl)); refine wpQuiet_nil ?_)
      refine mix_call rfl ?_
      intro w6 hb6
      go_wp2_with (go_at_call 13; refine (sizeU _ _).mono ?_; rintro e w' ⟨rfl, rfl⟩)
      refine ⟨Below.refl _ _, ?_⟩
      have hr6 := ((HRR.out.below hb4 hb4.size).below hb5 hb5.size).below hb6 hb6.size
      iterate 6 (refine mix_one rfl rfl ?_; go_big_quiet_step ((intro _; rfl)); refine wpQuiet_nil ?_)
      refine mix_one rfl rfl ?_
      go_big_quiet_step ((intro hh; rw [HCV.out _ A zs zs.length cap rfl (hr6.below hh hh.size)]; exact ⟨rfl, rfl⟩))
      refine wpQuiet_nil ?_
      refine mix_one rfl rfl ?_
      go_big_quiet_step ((intro _; rfl))
      refine wpQuiet_nil ?_
      refine mix_one rfl rfl ?_
      go_big_quiet_step ((intro _; rfl))
      refine wpQuiet_nil ?_
      refine mix_call rfl ?_
      intro w7 hb7
      go_wp2_with fail
      refine (put_any_own zs.length A cap zs x _ rfl (hr6.below hb7 hb7.size) (by omega) hc (zs ++ encL (fixS x)) (zs.length + (encL (fixS x)).length) rfl (by simp)).mono ?_
      rintro e w8 ⟨A8, c8, rfl, hr8, hc8, _, hb8⟩
      go_wp2_with fail
      refine ⟨hb8, ?_⟩
      refine mix_one rfl rfl ?_
      go_big_quiet_step ((intro hh; rw [HCV.out _ A8 (zs ++ encL (fixS x)) (zs.length + (encL (fixS x)).length) c8 (by simp) (hr8.below hh hh.size)]; exact ⟨rfl, rfl⟩))
      refine wpQuiet_nil ?_
      iterate 2 (refine mix_one rfl rfl ?_; go_big_quiet_step ((intro _; rfl)); refine wpQuiet_nil ?_)
      refine mix_nil ?_
      intro w9 hb9
      refine NoPanic.normal ?_
      have HQ : Hid ((!((strOfNums (zs ++ encL (fixS x))).toList == (strOfNums zs ++ { data := #[239, 191, 189] }).toList)) = false) := Lib.hid (by rw [str_app (by rw [show fixS x = 65533 from by simp [fixS, hsc]]; decide)]; rfl)
      go_wp2
      all_goals first
        | (exfalso; have hcon : (!((strOfNums (zs ++ encL (fixS x))).toList == (strOfNums zs ++ { data := #[239, 191, 189] }).toList)) = true := by assumption
           rw [HQ.out] at hcon; cases hcon)
        | exact ⟨⟨k + 1, by omega, by go_num, hbr.trans ((below_trans _ _ _ (below_trans _ _ _ (below_trans _ _ _ (below_trans _ _ _ (below_trans _ _ _ hb4 hb5) hb6) hb7) hb8) hb9).mono hbr.size)⟩, by simp [intOf]; omega⟩
    · have hsz0 : szI x = ((strOfNums (encL x)).size : Int) := by rw [strOfNums_size, encL_sz x hsc]
      go_wp2_with (first
        | (go_at_call 10; refine (scalarL _ _).mono ?_; rintro e w' ⟨rfl, rfl⟩)
        | (go_at_call 11; refine (bytesL _ _ hsc).mono ?_; rintro e w3 ⟨rfl, hb3⟩))
      refine wp_region_mix (G := fun w w' => Below w.heap.size w w') [(0, false), (2, false), (1, true), (3, true), (4, false), (5, false), (6, false), (8, false), (7, true), (9, false), (10, false), (11, false), (12, false), (13, false), (16, false), (17, false), (18, false), (19, false), (14, true), (15, false), (20, false), (21, false)]
        below_refl below_trans (by kernel_rfl) rfl (by kernel_rfl) (by kernel_rfl) (below_refl _).drew ?_
      iterate 2 (refine mix_one rfl rfl ?_; go_big_quiet_step ((intro _; rfl)); refine wpQuiet_nil ?_)
      refine mix_call rfl ?_
      intro w4 hb4
      go_wp2_with (go_at_call 12; refine (scalarU _ _).mono ?_; rintro e w' ⟨rfl, rfl⟩)
      refine ⟨Below.refl _ _, ?_⟩
      refine mix_call rfl ?_
      intro w5 hb5
      go_wp2_with (go_at_call 10; refine (scalarL _ _).mono ?_; rintro e w' ⟨rfl, rfl⟩)
      refine ⟨Below.refl _ _, ?_⟩
      iterate 4 (refine mix_one rfl rfl ?_; go_big_quiet_step ((intro _; rfl)); refine wpQuiet_nil ?_)
      refine mix_call rfl ?_
      intro w6 hb6
      go_wp2_with (go_at_call 13; refine (sizeU _ _).mono ?_; rintro e w' ⟨rfl, rfl⟩)
      refine ⟨Below.refl _ _, ?_⟩
      have hr6 := (((HRR.out.below hb3 hb3.size).below hb4 hb4.size).below hb5 hb5.size).below hb6 hb6.size
      iterate 6 (refine mix_one rfl rfl ?_; go_big_quiet_step ((intro _; rfl)); refine wpQuiet_nil ?_)
      refine mix_one rfl rfl ?_
      go_big_quiet_step ((intro hh; rw [HCV.out _ A zs zs.length cap rfl (hr6.below hh hh.size)]; exact ⟨rfl, rfl⟩))
      refine wpQuiet_nil ?_
      refine mix_one rfl rfl ?_
      go_big_quiet_step ((intro _; rfl))
      refine wpQuiet_nil ?_
      refine mix_one rfl rfl ?_
      go_big_quiet_step ((intro _; rfl))
      refine wpQuiet_nil ?_
      refine mix_call rfl ?_
      intro w7 hb7
      go_wp2_with fail
      refine (put_any_own zs.length A cap zs x _ rfl (hr6.below hb7 hb7.size) (by omega) hc (zs ++ encL (fixS x)) (zs.length + (encL (fixS x)).length) rfl (by simp)).mono ?_
      rintro e w8 ⟨A8, c8, rfl, hr8, hc8, _, hb8⟩
      go_wp2_with fail
      refine ⟨hb8, ?_⟩
      refine mix_one rfl rfl ?_
      go_big_quiet_step ((intro hh; rw [HCV.out _ A8 (zs ++ encL (fixS x)) (zs.length + (encL (fixS x)).length) c8 (by simp) (hr8.below hh hh.size)]; exact ⟨rfl, rfl⟩))
      refine wpQuiet_nil ?_
      iterate 2 (refine mix_one rfl rfl ?_; go_big_quiet_step ((intro _; rfl)); refine wpQuiet_nil ?_)
      refine mix_nil ?_
      intro w9 hb9
      refine NoPanic.normal ?_
      have HQ : Hid ((!((strOfNums (zs ++ encL (fixS x))).toList == (strOfNums zs ++ strOfNums (encL x)).toList)) = false) := Lib.hid (by rw [str_app (by rw [show fixS x = x from by simp [fixS, hsc]])]; rfl)
      go_wp2
      all_goals first
        | (exfalso; have hcon : (!((strOfNums (zs ++ encL (fixS x))).toList == (strOfNums zs ++ strOfNums (encL x)).toList)) = true := by assumption
           rw [HQ.out] at hcon; cases hcon)
        | exact ⟨⟨k + 1, by omega, by go_num, hbr.trans ((below_trans _ _ _ (below_trans _ _ _ (below_trans _ _ _ (below_trans _ _ _ (below_trans _ _ _ (below_trans _ _ _ hb3 hb4) hb5) hb6) hb7) hb8) hb9).mono hbr.size)⟩, by simp [intOf]; omega⟩
end Go.Proofs.Ytbigbkplhlmbmaa
