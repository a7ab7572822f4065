/- IndicNukta: the walk. -/
import Derived.Test.YthgomhmalmmhlaaDoorInH
import Derived.Test.YthgomhmalmmhlaaDoorRuleD
import Derived.Test.YthgomhmalmmhlaaDoorFork
namespace Go.Proofs.YthgomhmalmmhlaaDoor
set_option linter.unusedVariables false
set_option linter.unusedSimpArgs false
set_option linter.unnecessarySimpa false
open Go.RowKit
set_option maxRecDepth 100000 in
set_option maxHeartbeats 3200000 in
theorem indicNukta_any (k : Int) (w : World) (hk : 0 ≤ k ∧ k ≤ 255) (hT : TabI w) :
    Calls Tryd.prog 9 #[.int .u8 k] w fun e w' => e = .returned (.bool true) ∧ Below w.heap.size w w' := by
  have A0 := Lib.hid (awake14_any w hT)
  have HT := Lib.hid hT
  obtain ⟨k0, k1⟩ := hk
  have wk : IntKind.i64.wrap k = k := by rw [IntKind.wrap_i64]; omega
  obtain ⟨M, hMe⟩ : ∃ M : Nat, k % 14 = (M : Int) := ⟨(k % 14).toNat, by omega⟩
  have hM : M < 14 := by omega
  have m0 : (0 : Int) ≤ M := by omega
  have m1 : (M : Int) < 14 := by omega
  have ht1 : k.tmod 14 = (M : Int) := by rw [Int.tmod_eq_emod_of_nonneg k0]; exact hMe
  have HF := Lib.hid (nk_find M hM)
  obtain ⟨t1, t2⟩ := nkTab_at M hM
  obtain ⟨r1, r2, r3, r4⟩ := nk_range M hM
  obtain ⟨o1, o2⟩ := nk_other M hM
  obtain ⟨b, hbe⟩ : ∃ b, nkB M = b := ⟨_, rfl⟩
  obtain ⟨p, hpe⟩ : ∃ p, nkP M = p := ⟨_, rfl⟩
  rw [hbe] at HF t1 r1 r2 o1 o2
  rw [hpe] at t2 r3 r4 o2
  obtain ⟨Bn, rfl⟩ : ∃ Bn : Nat, b = (Bn : Int) := ⟨b.toNat, by omega⟩
  rw [Int.toNat_natCast] at o1 o2
  have D1 := fun W hW => place_any Bn W (by omega) hW
  obtain ⟨n, hne⟩ : ∃ n, inP Bn = n := ⟨_, rfl⟩
  rw [hne] at D1 o1 o2
  have g1 : (n != 0) = true := by simpa using o1
  have g2 : (n != p) = true := by simpa using o2
  rw [g1] at D1
  replace D1 := Lib.hid D1
  have b0 : (0 : Int) ≤ Bn := by omega
  have wb : IntKind.u8.wrap (Bn : Int) = Bn := by rw [IntKind.wrap_u8]; omega
  have wb2 : (Bn : Int) % 256 = Bn := by omega
  have g3 : 0 < p := by omega
  have g4 : p < 128 := by omega
  have T1 := Lib.hid t1
  have T2 := Lib.hid t2
  clear hT hbe hpe hne o1 o2 t1 t2 r1 r2 r3 r4
  go_enter Tryd.func9, Tryd.ntmps9
  go_wp2_with fail
  refine A0.out.mono ?_
  rintro e w1 ⟨rfl, hb1⟩
  have hs1 := hb1.size
  have HB1 := Lib.hid hb1
  have HT1 := Lib.hid (HT.out.below hb1)
  clear hb1 A0 HT
  go_wp2_with fail
  refine (nukta_any w1).mono ?_
  rintro e w2 ⟨rfl, rfl⟩
  have HQ := Held.new w1 nkTab 39
  have l0 := (HQ.cell (M * 2)).trans T1.out
  have l1 := (HQ.cell (M * 2 + 1)).trans T2.out
  have hb2 := below_alloc14 w1 (.cells nkTab 39)
  have HT2 := Lib.hid (HT1.out.below hb2)
  have HB2 := Lib.hid (HB1.out.trans (hb2.mono hs1))
  obtain ⟨W2, hW2⟩ : ∃ W2, w1.alloc (.cells nkTab 39) = W2 := ⟨_, rfl⟩
  obtain ⟨R, hR⟩ : ∃ R, w1.heap.size = R := ⟨_, rfl⟩
  rw [hW2] at l0 l1 HT2 HB2 ⊢
  rw [hR] at l0 l1 ⊢
  clear HQ hb2 hW2 hR HT1 HB1 hs1 w1 T1 T2
  have HQ := Lib.hid (Held.new W2 #[.int .i64 (Bn : Int), .int .i64 p] 39)
  have hb3 := below_alloc14 W2 (.cells #[.int .i64 (Bn : Int), .int .i64 p] 39)
  have HT3 := Lib.hid (HT2.out.below hb3)
  have HB3 := Lib.hid (HB2.out.trans (hb3.mono HB2.out.size))
  have e0 := HQ.out.cell 0
  have e1 := HQ.out.cell 1
  clear hb3 HT2 HB2
  go_wp2_with fail
  refine (D1.out _ HT3.out).mono ?_
  rintro e w4 ⟨rfl, rfl⟩
  obtain ⟨W, hW⟩ : ∃ W, W2.alloc (.cells #[.int .i64 (Bn : Int), .int .i64 p] 39) = W := ⟨_, rfl⟩
  obtain ⟨g, hg⟩ : ∃ g, W2.heap.size = g := ⟨_, rfl⟩
  rw [hW] at e0 e1 HT3 HB3 HQ ⊢
  rw [hg] at e0 e1 HQ ⊢
  have hgl := HQ.out.lt
  clear hW hg l0 l1 D1 HQ
  go_wp2_with fail
  refine wp_region_fork (G := SameB g) (.soft 0 (.soft 1 (.soft 2 (.soft 3 (.soft 4 (.soft 5 (.soft 6 (.soft 7 (.soft 8 (.soft 9 (.soft 10 (.soft 11 (.soft 12 (.soft 13 (.soft 14 (.soft 15 (.soft 16 (.soft 17 (.soft 19 (.soft 20 (.two 18 21 (.one 21 (.one 22 (.soft 23 (.soft 24 (.soft 25 .done))))) (.one 18 (.one 22 (.soft 23 (.soft 24 (.soft 25 .done))))))))))))))))))))))))))
    (SameB.refl _) (SameB.trans _) (by kernel_rfl) rfl (by kernel_rfl) (by kernel_rfl) ?_
  refine fork_soft rfl rfl ?_
  go_big_quiet_step ((intro _; rfl))
  refine wpQuiet_nil ?_
  refine fork_soft rfl rfl ?_
  go_big_quiet_step ((intro _; rfl))
  refine wpQuiet_nil ?_
  refine fork_soft rfl rfl ?_
  go_big_quiet_step ((intro _; rfl))
  refine wpQuiet_nil ?_
  refine fork_soft rfl rfl ?_
  go_big_quiet_step ((intro _; rfl))
  refine wpQuiet_nil ?_
  refine fork_soft rfl rfl ?_
  go_big_quiet_step ((intro hh; rw [hh.cell, World.cell?_drew, e1]; exact ⟨rfl, rfl⟩))
  refine wpQuiet_nil ?_
  refine fork_soft rfl rfl ?_
  go_big_quiet_step ((intro _; rfl))
  refine wpQuiet_nil ?_
  refine fork_soft rfl rfl ?_
  go_big_quiet_step ((intro _; rfl))
  refine wpQuiet_nil ?_
  refine fork_soft rfl rfl ?_
  go_big_quiet_step ((intro _; rfl))
  refine wpQuiet_nil ?_
  refine fork_soft rfl rfl ?_
  go_big_quiet_step ((intro _; rfl))
  refine wpQuiet_nil ?_
  refine fork_soft rfl rfl ?_
  go_big_quiet_step ((intro hh; rw [hh.cell, World.cell?_drew, e1]; exact ⟨rfl, rfl⟩))
  refine wpQuiet_nil ?_
  refine fork_soft rfl rfl ?_
  go_big_quiet_step ((intro _; rfl))
  refine wpQuiet_nil ?_
  refine fork_soft rfl rfl ?_
  go_big_quiet_step ((intro _; rfl))
  refine wpQuiet_nil ?_
  refine fork_soft rfl rfl ?_
  go_big_quiet_step ((intro _; rfl))
  refine wpQuiet_nil ?_
  refine fork_soft rfl rfl ?_
  go_big_quiet_step ((intro _; rfl))
  refine wpQuiet_nil ?_
  refine fork_soft rfl rfl ?_
  go_big_quiet_step ((intro hh; rw [hh.cell, World.cell?_drew, e1]; exact ⟨rfl, rfl⟩))
  refine wpQuiet_nil ?_
  refine fork_soft rfl rfl ?_
  go_big_quiet_step ((intro _; rfl))
  refine wpQuiet_nil ?_
  refine fork_soft rfl rfl ?_
  go_big_quiet_step ((intro _; rfl))
  refine wpQuiet_nil ?_
  refine fork_soft rfl rfl ?_
  go_big_quiet_step ((intro _; rfl))
  refine wpQuiet_nil ?_
  refine fork_soft rfl rfl ?_
  go_big_quiet_step ((intro _; rfl))
  refine wpQuiet_nil ?_
  refine fork_soft rfl rfl ?_
  go_big_quiet_step ((intro hh; rw [hh.cell, World.cell?_drew, e0]; exact ⟨rfl, rfl⟩))
  refine wpQuiet_nil ?_
  have HTd := Lib.hid (show TabI W.drew from HT3.out.below ((Below.refl W.heap.size W).drew))
  have HBd := Lib.hid (show Below w.heap.size w W.drew from HB3.out.drew)
  clear e0 e1
  refine fork_two rfl rfl ?_ ?_
  · go_wp2_with fail
    refine (inrules_any _ HTd.out).mono ?_
    rintro e w4 ⟨v, rfl, hO, hb4⟩
    obtain ⟨A, c, rfl, hr⟩ := hO.form
    rw [inR_len] at hr ⊢
    have HR4 := Lib.hid hr
    have HB4 := Lib.hid (HBd.out.trans (hb4.mono HBd.out.size))
    have hgl4 : g < w4.heap.size := by have := hb4.size; have : W.heap.size ≤ w4.heap.size := this; omega
    go_wp2_with fail
    refine ⟨SameB.of hb4 (show g < W.heap.size by omega), ?_⟩
    clear hO hb4 hr HBd HTd
    refine fork_one rfl ?_
    go_wp2_with fail
    have hb5 := below_alloc14 w4 (.cells #[.int .i64 (Bn : Int), .int .i64 233] 3)
    refine ⟨SameB.of hb5 hgl4, ?_⟩
    have F1 := Lib.hid (find_any 240 2 A (some ⟨w4.heap.size, 0, none⟩) c 2 inR [(Bn : Int), 233] _ _ (w4.alloc (.cells #[.int .i64 (Bn : Int), .int .i64 233] 3)) (HR4.out.below hb5 (Nat.le_refl _)) rfl (rd_new_ints w4 .i64 [(Bn : Int), 233] _ _ rfl) (Nat.le_refl _) (by decide) hb5.size (Nat.le_refl _) _ HF.out)
    have HB5 := Lib.hid (HB4.out.trans (hb5.mono HB4.out.size))
    have hs5 : g < (w4.alloc (.cells #[.int .i64 (Bn : Int), .int .i64 233] 3)).heap.size := by simp; omega
    clear hb5
    refine fork_one rfl ?_
    go_wp2_with fail
    refine F1.out.mono ?_
    rintro e w6 ⟨rfl, hb6⟩
    go_wp2_with fail
    refine ⟨SameB.of hb6 hs5, ?_⟩
    have HB6 := Lib.hid (HB5.out.trans (hb6.mono HB5.out.size))
    clear hb6 F1 HB5 HB4 HR4
    refine fork_soft rfl rfl ?_
    go_big_quiet_step ((intro _; rfl))
    refine wpQuiet_nil ?_
    refine fork_soft rfl rfl ?_
    go_big_quiet_step ((intro _; rfl))
    refine wpQuiet_nil ?_
    refine fork_soft rfl rfl ?_
    go_big_quiet_step ((intro _; rfl))
    refine wpQuiet_nil ?_
    refine fork_done (NoPanic.normal ?_)
    go_wp2_with fail
    go_ret
    exact ⟨ret_bool (by simp; omega), HB6.out⟩
  · go_wp2_with fail
    have hb4 : Below W.heap.size W ((W.alloc (.cells #[.int .i64 (Bn : Int), .int .i64 233] 3)).drew) := (below_alloc14 W _).drew
    have hu4 : Rd ((W.alloc (.cells #[.int .i64 (Bn : Int), .int .i64 233] 3)).drew) ((W.alloc (.cells #[.int .i64 (Bn : Int), .int .i64 233] 3)).drew).heap.size (some ⟨W.heap.size, 0, none⟩) ([(Bn : Int), 233].map (Value.int .i64)) := rd_new_ints W.drew .i64 [(Bn : Int), 233] _ _ rfl
    have HT4 := Lib.hid (show TabI ((W.alloc (.cells #[.int .i64 (Bn : Int), .int .i64 233] 3)).drew) from HT3.out.below hb4)
    have HB4 := Lib.hid (show Below w.heap.size w ((W.alloc (.cells #[.int .i64 (Bn : Int), .int .i64 233] 3)).drew) from HB3.out.trans (hb4.mono HB3.out.size))
    have hs4 : g < ((W.alloc (.cells #[.int .i64 (Bn : Int), .int .i64 233] 3)).drew).heap.size := by have := hb4.size; omega
    refine ⟨show SameB g W _ from SameB.of hb4 hgl, ?_⟩
    obtain ⟨m, hm⟩ : ∃ m, W.heap.size = m := ⟨_, rfl⟩
    obtain ⟨W4, hW4⟩ : ∃ W4, (W.alloc (.cells #[.int .i64 (Bn : Int), .int .i64 233] 3)).drew = W4 := ⟨_, rfl⟩
    rw [hW4] at hu4 HT4 HB4 hs4 ⊢
    rw [hm] at hu4 ⊢
    have HU4 := Lib.hid hu4
    clear hb4 hu4 hm hW4 HTd HBd
    refine fork_one rfl ?_
    go_wp2_with fail
    refine (inrules_any _ HT4.out).mono ?_
    rintro e w5 ⟨v, rfl, hO, hb5⟩
    obtain ⟨A, c, rfl, hr⟩ := hO.form
    rw [inR_len] at hr ⊢
    have hs5 : g < w5.heap.size := by have := hb5.size; omega
    have F1 := Lib.hid (find_any 240 2 A (some ⟨m, 0, none⟩) c 2 inR [(Bn : Int), 233] _ _ w5 hr rfl (HU4.out.below hb5 (Nat.le_refl _)) (Nat.le_refl _) (by decide) (Nat.le_refl _) hb5.size _ HF.out)
    have HB5 := Lib.hid (HB4.out.trans (hb5.mono HB4.out.size))
    go_wp2_with fail
    refine ⟨SameB.of hb5 hs4, ?_⟩
    clear hO hb5 hr HB4 HT4 HU4
    refine fork_one rfl ?_
    go_wp2_with fail
    refine F1.out.mono ?_
    rintro e w6 ⟨rfl, hb6⟩
    go_wp2_with fail
    refine ⟨SameB.of hb6 hs5, ?_⟩
    have HB6 := Lib.hid (HB5.out.trans (hb6.mono HB5.out.size))
    clear hb6 F1 HB5
    refine fork_soft rfl rfl ?_
    go_big_quiet_step ((intro _; rfl))
    refine wpQuiet_nil ?_
    refine fork_soft rfl rfl ?_
    go_big_quiet_step ((intro _; rfl))
    refine wpQuiet_nil ?_
    refine fork_soft rfl rfl ?_
    go_big_quiet_step ((intro _; rfl))
    refine wpQuiet_nil ?_
    refine fork_done (NoPanic.normal ?_)
    go_wp2_with fail
    go_ret
    exact ⟨ret_bool (by simp; omega), HB6.out⟩
end Go.Proofs.YthgomhmalmmhlaaDoor
