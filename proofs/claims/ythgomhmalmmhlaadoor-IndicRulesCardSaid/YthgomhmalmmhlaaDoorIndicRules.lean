/- IndicRules: the walk. -/
import Derived.Test.YthgomhmalmmhlaaDoorInH
import Derived.Test.YthgomhmalmmhlaaDoorInF
import Derived.Test.YthgomhmalmmhlaaDoorSameR
import Derived.ChangeKeysEq
namespace Go.Proofs.YthgomhmalmmhlaaDoor
set_option linter.unusedVariables false
set_option linter.unusedSimpArgs false
set_option linter.unnecessarySimpa false
open Go.RowKit
theorem pair_neq (b p : Int) (W : World) : (binOp .neq 39 (.agg #[.int .i64 b, .int .i64 p]) (.agg #[.int .i64 b, .int .i64 p])).run Tryd.prog W = .ok (.bool false) W := by
  obtain ⟨i0, hi, -, -, -⟩ := info_parts infoI
  have hc : Tryd.prog.cellsOf 3 = 1 := by kernel_rfl
  have p0 : ∀ w : World, (part 3 #[Value.int .i64 b, Value.int .i64 p] 0).run Tryd.prog w = .ok (.int .i64 b) w := fun w => by kernel_rfl
  have p1 : ∀ w : World, (part 3 #[Value.int .i64 b, Value.int .i64 p] 1).run Tryd.prog w = .ok (.int .i64 p) w := fun w => by kernel_rfl
  rw [run_neq_struct, run_equalIn_array W 9999 _ _ Tryd.underlying39 hi, hc]
  simp [List.range, List.range.loop, Op.eqItems, p0, p1, run_equalIn_int _ _ _ .i64 .i64 _ _ Tryd.underlying3]
set_option maxRecDepth 100000 in
set_option maxHeartbeats 3200000 in
theorem indicRules_any (n : Int) (w : World) (hn : 0 ≤ n ∧ n ≤ 255) (hT : TabI w) :
    Calls Tryd.prog 6 #[.int .u8 n] w fun e w' => e = .returned (.bool true) ∧ Below w.heap.size w w' := by
  have A0 := Lib.hid (awake14_any w hT)
  have HT := Lib.hid hT
  obtain ⟨n0, n1⟩ := hn
  obtain ⟨r, hr⟩ : ∃ r, n % 200 = r := ⟨_, rfl⟩
  have r0 : 0 ≤ r := by omega
  have r1 : r < 200 := by omega
  have hrt : n.tmod 200 = r := by rw [Int.tmod_eq_emod_of_nonneg n0]; exact hr
  have wr0 : IntKind.i64.wrap r = r := by rw [IntKind.wrap_i64]; omega
  clear hT
  go_enter Tryd.func6, Tryd.ntmps6
  go_wp2_with fail
  refine A0.out.mono ?_
  rintro e w1 ⟨rfl, hb1⟩
  have hs1 := hb1.size
  have HB1 := Lib.hid hb1
  clear hb1 A0
  go_wp2_with fail
  refine (nukta_any w1).mono ?_
  rintro e w2 ⟨rfl, rfl⟩
  have HQ1 := Lib.hid (Held.new w1 nkTab 39)
  have HB2 := Lib.hid (HB1.out.trans ((below_alloc14 w1 (.cells nkTab 39)).mono hs1))
  obtain ⟨W2, hW2⟩ : ∃ W2, w1.alloc (.cells nkTab 39) = W2 := ⟨_, rfl⟩
  obtain ⟨M, hM⟩ : ∃ M, w1.heap.size = M := ⟨_, rfl⟩
  rw [hW2] at HQ1 HB2 ⊢
  rw [hM] at HQ1 ⊢
  clear hW2 hM HB1 hs1 w1
  go_wp2_with fail
  refine (lnukta_any W2).mono ?_
  rintro e w3 ⟨rfl, rfl⟩
  have HQ3 := Lib.hid (HQ1.out.alloc (.cells nkTab 39))
  have HB3 := Lib.hid (HB2.out.trans ((below_alloc14 W2 (.cells nkTab 39)).mono HB2.out.size))
  obtain ⟨W3, hW3⟩ : ∃ W3, W2.alloc (.cells nkTab 39) = W3 := ⟨_, rfl⟩
  rw [hW3] at HQ3 HB3 ⊢
  clear hW3 HQ1 HB2
  go_wp2_with fail
  refine (lnukta_any W3).mono ?_
  rintro e w4 ⟨rfl, rfl⟩
  have HR4 := Lib.hid (Held.new W3 nkTab 39)
  have HQ4 := Lib.hid (HQ3.out.alloc (.cells nkTab 39))
  have HB4 := Lib.hid (HB3.out.trans ((below_alloc14 W3 (.cells nkTab 39)).mono HB3.out.size))
  obtain ⟨W4, hW4⟩ : ∃ W4, W3.alloc (.cells nkTab 39) = W4 := ⟨_, rfl⟩
  obtain ⟨R, hR⟩ : ∃ R, W3.heap.size = R := ⟨_, rfl⟩
  rw [hW4] at HR4 HQ4 HB4 ⊢
  rw [hR] at HR4 ⊢
  clear hW4 hR HQ3 HB3
  go_wp2_with fail
  go_loopw [16] (fun i wr => ∃ K : Nat, K ≤ 14 ∧ i = .int .i64 K ∧ Hid (Below w.heap.size w wr) ∧ Hid (Held wr M nkTab 39) ∧ Hid (Held wr R nkTab 39)) (fun i _ => 14 - (intOf i).toNat)
  case atStart => exact ⟨0, by omega, rfl, HB4, HQ4, HR4⟩
  case round =>
    clear HB4 HQ4 HR4
    obtain ⟨K, hK, rfl, hb, hq, hq'⟩ := hrel
    by_cases hKn : K = 14
    · subst hKn
      rw [show ((14 : Nat) : Int) = 14 from rfl]
      have hsb := hb.out.size
      have R1 := Lib.hid (inrules_any wr (HT.out.below hb.out))
      clear hq hq'
      go_wp2_with fail
      refine R1.out.mono ?_
      rintro e w5 ⟨v5, rfl, hO5, hb5⟩
      obtain ⟨A5, c5, rfl, hr5⟩ := hO5.form
      rw [inR_len] at hr5 ⊢
      have HB5 := Lib.hid (hb.out.trans (hb5.mono hsb))
      have HR5 := Lib.hid hr5
      clear hb hb5 hO5 hr5 R1
      go_wp2_with fail
      refine (lrules_any w5).mono ?_
      rintro e w6 ⟨v6, rfl, hO6, hb6⟩
      obtain ⟨A6, c6, rfl, hr6⟩ := hO6.form
      rw [inR_len] at hr6 ⊢
      have S1 := Lib.hid (rsame_any 240 240 A5 A6 c5 c6 inR _ _ w6 (HR5.out.below hb6 (Nat.le_refl _)) hr6)
      have HB6 := Lib.hid (HB5.out.trans (hb6.mono HB5.out.size))
      clear hO6 hb6 hr6 HR5 HB5
      go_wp2_with fail
      refine S1.out.mono ?_
      rintro e w7 ⟨rfl, m, hm⟩
      have HB7 := Lib.hid (show Below w.heap.size w w7 by rw [hm]; exact HB6.out.trans ((below_dN w6 m).mono HB6.out.size))
      clear hm S1 HB6
      have R2 := Lib.hid (inrules_any w7 (HT.out.below HB7.out))
      go_wp2_with fail
      refine R2.out.mono ?_
      rintro e w8 ⟨v8, rfl, hO8, hb8⟩
      obtain ⟨A8, c8, rfl, -⟩ := hO8.form
      rw [inR_len]
      have HB8 := Lib.hid (HB7.out.trans (hb8.mono HB7.out.size))
      clear hO8 hb8 R2 HB7
      go_wp2_with fail
      go_ret
      exact ⟨ret_bool (by simp; omega), HB8.out⟩
    have hK' : K < 14 := by omega
    have k3 : (0 : Int) ≤ K := by omega
    have k4 : (K : Int) < 14 := by omega
    have hsb := hb.out.size
    obtain ⟨t1, t2⟩ := nkTab_at K hK'
    obtain ⟨b, hbe⟩ : ∃ b, nkB K = b := ⟨_, rfl⟩
    obtain ⟨p, hpe⟩ : ∃ p, nkP K = p := ⟨_, rfl⟩
    rw [hbe] at t1
    rw [hpe] at t2
    have q0 := (hq'.out.cell (K * 2)).trans t1
    have q1 := (hq'.out.cell (K * 2 + 1)).trans t2
    have HB8 := Lib.hid (hb.out.trans ((below_alloc14 wr (.cells #[.int .i64 b, .int .i64 p] 39)).mono hsb))
    have HQ8 := Lib.hid (hq.out.alloc (.cells #[.int .i64 b, .int .i64 p] 39))
    have HR8 := Lib.hid (hq'.out.alloc (.cells #[.int .i64 b, .int .i64 p] 39))
    have l0 := (HQ8.out.cell (K * 2)).trans t1
    have l1 := (HQ8.out.cell (K * 2 + 1)).trans t2
    have HN := Held.new wr #[.int .i64 b, .int .i64 p] 39
    have c0 := HN.cell 0
    have c1 := HN.cell 1
    clear hb hq hq' hKn hbe hpe t1 t2 HN
    go_wp2_with fail
    obtain ⟨W8, hW8⟩ : ∃ W8, wr.alloc (.cells #[.int .i64 b, .int .i64 p] 39) = W8 := ⟨_, rfl⟩
    obtain ⟨g8, hg8⟩ : ∃ g8, wr.heap.size = g8 := ⟨_, rfl⟩
    rw [hW8] at HB8 HQ8 HR8 l0 l1 c0 c1 ⊢
    rw [hg8] at c0 c1 ⊢
    clear hW8 hg8 q0 q1 hsb
    have hne := fun W => pair_neq b p W
    go_quiet (fail)
    go_wp2_with fail
    go_roundw
    case rel => exact ⟨K + 1, by omega, by go_num, Lib.hid (HB8.out.trans ((below_dN W8 nq).mono HB8.out.size)), Lib.hid HQ8.out, Lib.hid HR8.out⟩
    case measure => simp [intOf]; omega
end Go.Proofs.YthgomhmalmmhlaaDoor
