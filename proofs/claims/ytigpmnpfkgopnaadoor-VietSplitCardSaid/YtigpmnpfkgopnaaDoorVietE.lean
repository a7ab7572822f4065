/- Layer 9: the document's examples hold. -/
import Derived.Test.YtigpmnpfkgopnaaDoorVietU
namespace Go.Proofs.YtigpmnpfkgopnaaDoor
set_option linter.unusedVariables false
set_option linter.unusedSimpArgs false
set_option linter.unnecessarySimpa false
open Go.RowKit Go.Shelf
attribute [local go_sem] run_store_complex

theorem addIs_one {b : Int} {r i x y re im : Nat} {e : Ending} (h : AddIs b r i x y e) (hb : bothF r i x y = false) (hr : floatBits .add .f64 r x = some re) (hi : floatBits .add .f64 i y = some im) (hj : (joinF b re im).isSome = true) :
    e = .returned (.tuple #[.agg #[.int .i64 b, .complex .f64 re im], .bool true]) := by
  rcases h with ⟨h1, _⟩ | ⟨_, re', im', h1, h2, h3⟩
  · rw [hb] at h1; cases h1
  · have er : re' = re := by
      rcases h1 with h | ⟨h, _⟩
      · rw [hr] at h; injection h with h; exact h.symm
      · rw [hr] at h; cases h
    have ei : im' = im := by
      rcases h2 with h | ⟨h, _⟩
      · rw [hi] at h; injection h with h; exact h.symm
      · rw [hi] at h; cases h
    subst er ei
    rcases h3 with ⟨_, h3⟩ | ⟨h3, _⟩
    · exact h3
    · rw [hj] at h3; cases h3
theorem addIs_both {b : Int} {r i x y : Nat} {e : Ending} (h : AddIs b r i x y e) (hb : bothF r i x y = true) : e = .returned (.tuple #[.agg #[.int .i64 b, .complex .f64 r i], .bool false]) := by
  rcases h with ⟨_, h⟩ | ⟨h1, _⟩
  · exact h
  · rw [hb] at h1; cases h1
theorem aw9_s : lV (splitF 7871) = #[.int .i64 101, .complex .f64 4611686018427387904 4611686018427387904] ∧ (splitF 7871).isSome = true := ⟨by kernel_rfl, by decide +kernel⟩
theorem aw9_j : jS (joinF 69 4611686018427387904 4611686018427387904) = 7870 ∧ (joinF 69 4611686018427387904 4611686018427387904).isSome = true := by decide +kernel
theorem aw9_b1 : bothF 0 0 4613937818241073152 0 = false := by decide +kernel
theorem aw9_b2 : bothF 4613937818241073152 0 4607182418800017408 0 = true := by decide +kernel
theorem aw9_f1 : floatBits .add .f64 0 4613937818241073152 = some 4613937818241073152 := by decide +kernel
theorem aw9_f2 : floatBits .add .f64 0 0 = some 0 := by decide +kernel
theorem aw9_j2 : (joinF 117 4613937818241073152 0).isSome = true := by decide +kernel
theorem aw9_e1 : (FloatKind.f64.format.order 4611686018427387904 4611686018427387904 == some .eq) = true := by decide +kernel
theorem aw9_e2 : (FloatKind.f64.format.order 4613937818241073152 4613937818241073152 == some .eq) = true := by decide +kernel
theorem aw9_e3 : (FloatKind.f64.format.order 0 0 == some .eq) = true := by decide +kernel

set_option maxHeartbeats 3200000 in
theorem tawake9_any (w : World) (hR : RowsV w) : Calls Tryd.prog 10 #[] w fun e w' => e = .returned (.bool true) ∧ Below w.heap.size w w' := by
  have HR := Lib.hid hR
  clear hR
  have e1 := aw9_e1
  have e2 := aw9_e2
  have e3 := aw9_e3
  go_enter Tryd.func10, Tryd.ntmps10
  go_wp2_with fail
  refine (split_any 7871 w HR.out).mono ?_
  rintro e w1 ⟨rfl, hb1⟩
  rw [aw9_s.1, aw9_s.2]
  have hs1 := hb1.size
  have HB1 := Lib.hid hb1
  clear hb1
  go_wp2_with fail
  have q1 := Held.new w1 #[.int .i64 101, .complex .f64 4611686018427387904 4611686018427387904] 29
  have hb2 := HB1.out.alloc hs1 (.cells #[.int .i64 101, .complex .f64 4611686018427387904 4611686018427387904] 29)
  obtain ⟨W2, hW2⟩ : ∃ W2, w1.alloc (.cells #[.int .i64 101, .complex .f64 4611686018427387904 4611686018427387904] 29) = W2 := ⟨_, rfl⟩
  rw [hW2] at q1 hb2 ⊢
  obtain ⟨p, hp⟩ : ∃ p, w1.heap.size = p := ⟨_, rfl⟩
  rw [hp] at q1 hs1 ⊢
  have HR2 := Lib.hid (HR.out.below hb2)
  have hs2 := hb2.size
  have hp2 := q1.lt
  have HQ1 := Lib.hid q1
  have HB2 := Lib.hid hb2
  clear hW2 hp q1 hb2 HB1
  clear w1
  refine (join_any 69 4611686018427387904 4611686018427387904 W2 HR2.out).mono ?_
  rintro e w3 ⟨rfl, hb3⟩
  rw [aw9_j.1, aw9_j.2]
  have HQ3 := Lib.hid (HQ1.out.below hb3 hp2)
  have HB3 := Lib.hid (HB2.out.trans (hb3.mono hs2))
  have HR3 := Lib.hid (HR2.out.below hb3)
  clear hb3
  go_wp2_with fail
  refine (add_any 117 0 0 4613937818241073152 0 w3 HR3.out).mono ?_
  rintro e w4 ⟨hadd, hb4⟩
  obtain rfl := addIs_one hadd aw9_b1 aw9_f1 aw9_f2 aw9_j2
  have hp3 := HQ3.out.lt
  have hs3 := HB3.out.size
  have HQ4 := Lib.hid (HQ3.out.below hb4 hp3)
  have HB4 := Lib.hid (HB3.out.trans (hb4.mono hs3))
  have HR4 := Lib.hid (HR3.out.below hb4)
  clear hb4 hadd
  go_wp2_with fail
  have hp4 := HQ4.out.lt
  have hs4 := HB4.out.size
  have q5 := Held.new w4 #[.int .i64 117, .complex .f64 4613937818241073152 0] 29
  have hb5 := HB4.out.alloc hs4 (.cells #[.int .i64 117, .complex .f64 4613937818241073152 0] 29)
  have hQ5 := HQ4.out.alloc (.cells #[.int .i64 117, .complex .f64 4613937818241073152 0] 29)
  have hR5 := HR4.out.below ((Below.refl _ w4).alloc (Nat.le_refl _) (.cells #[.int .i64 117, .complex .f64 4613937818241073152 0] 29))
  obtain ⟨W5, hW5⟩ : ∃ W5, w4.alloc (.cells #[.int .i64 117, .complex .f64 4613937818241073152 0] 29) = W5 := ⟨_, rfl⟩
  rw [hW5] at q5 hb5 hQ5 hR5 ⊢
  have hpg : p ≠ w4.heap.size := by omega
  obtain ⟨g, hg⟩ : ∃ g, w4.heap.size = g := ⟨_, rfl⟩
  rw [hg] at q5 hpg ⊢
  have hs5 := hb5.size
  have hp5 := hQ5.lt
  have hg5 := q5.lt
  have HQ5 := Lib.hid hQ5
  have HP5 := Lib.hid q5
  have HB5 := Lib.hid hb5
  clear hW5 hg q5 hb5 hQ5 HQ4 HB4 HR4 hp4 hs4
  clear w4
  refine (add_any 117 4613937818241073152 0 4607182418800017408 0 W5 hR5).mono ?_
  rintro e w6 ⟨hadd, hb6⟩
  obtain rfl := addIs_both hadd aw9_b2
  have q6 := HQ5.out.below hb6 hp5
  have q7 := HP5.out.below hb6 hg5
  have c0 := q6.cell 0
  have c1 := q6.cell 1
  have d0 := q7.cell 0
  have d1 := q7.cell 1
  have hp6 := q6.lt
  have hg6 := q7.lt
  have HB6 := Lib.hid (HB5.out.trans (hb6.mono hs5))
  clear hadd hb6 hR5 q6 q7
  go_wp2
  go_ret
  exact ⟨rfl, HB6.out.alloc HB6.out.size _⟩
end Go.Proofs.YtigpmnpfkgopnaaDoor
