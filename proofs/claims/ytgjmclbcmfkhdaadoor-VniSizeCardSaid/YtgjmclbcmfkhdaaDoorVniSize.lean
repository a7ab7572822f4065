/- VniSize: the walk. -/
import Derived.Test.YtgjmclbcmfkhdaaDoorVnE
import Derived.Test.YtgjmclbcmfkhdaaDoorVnK
namespace Go.Proofs.YtgjmclbcmfkhdaaDoor
set_option linter.unusedVariables false
set_option linter.unusedSimpArgs false
set_option linter.unnecessarySimpa false
open Go.RowKit Go.Shelf
attribute [local go_sem] run_store_complex
theorem vnL_form (k : Nat) (h : k < 74) : (∃ x, vnL k = [x] ∧ (x = LS k ∨ 127 < x)) ∨ ∃ x y, vnL k = [x, y] ∧ 224 ≤ y ∧ (x = LB k ∨ x = 244 ∨ x = 246) := by
  have := all_range (show (List.range 74).all (fun k => decide ((vnL k = [(vnL k).getD 0 0] ∧ ((vnL k).getD 0 0 = LS k ∨ 127 < (vnL k).getD 0 0)) ∨ (vnL k = [(vnL k).getD 0 0, (vnL k).getD 1 0] ∧ 224 ≤ (vnL k).getD 1 0 ∧ ((vnL k).getD 0 0 = LB k ∨ (vnL k).getD 0 0 = 244 ∨ (vnL k).getD 0 0 = 246)))) = true by decide +kernel) k h
  rcases of_decide_eq_true this with ⟨h1, h2⟩ | ⟨h1, h2, h3⟩
  · exact .inl ⟨_, h1, h2⟩
  · exact .inr ⟨_, _, h1, h2, h3⟩
set_option maxRecDepth 100000 in
set_option maxHeartbeats 6400000 in
theorem vniSize_any (n : Int) (w : World) (hn : 0 ≤ n ∧ n ≤ 255) (hT : TabN w) :
    Calls Tryd.prog 8 #[.int .u8 n] w fun e w' => e = .returned (.bool true) ∧ Below w.heap.size w w' := by
  have A0 := Lib.hid (awake13_any w hT)
  have HT := Lib.hid hT
  have n0 := hn.1
  have n1 := hn.2
  have hw1 : IntKind.i64.wrap n = n := by rw [IntKind.wrap_i64]; omega
  obtain ⟨K, hK⟩ : ∃ K : Nat, n % 74 = (K : Int) := ⟨(n % 74).toNat, by omega⟩
  have hK74 : K < 74 := by omega
  have hKt : n.tmod 74 = (K : Int) := by rw [Int.tmod_eq_emod_of_nonneg n0]; exact hK
  have D1 := Lib.hid (fun W => letter_at13 K (by omega) W)
  have M1 := Lib.hid (fun W h => vnsmall_at K hK74 W h)
  have hfm := vnL_form K hK74
  rw [vnletV] at M1
  obtain ⟨L, hLe⟩ : ∃ v, vnL K = v := ⟨_, rfl⟩
  obtain ⟨s, hs⟩ : ∃ v, LS K = v := ⟨_, rfl⟩
  obtain ⟨bx, hbx⟩ : ∃ v, LB K = v := ⟨_, rfl⟩
  obtain ⟨rx, hrx⟩ : ∃ v, fl (LM K) = v := ⟨_, rfl⟩
  obtain ⟨ix, hix⟩ : ∃ v, fl (LT K) = v := ⟨_, rfl⟩
  rw [hbx, hrx, hix, hs] at D1
  rw [hbx, hrx, hix, hLe] at M1
  rw [hLe, hs, hbx] at hfm
  have HFM := Lib.hid hfm
  clear hT hn hLe hs hbx hrx hix hfm
  go_enter Tryd.func8, Tryd.ntmps8
  go_wp2_with fail
  refine A0.out.mono ?_
  rintro e w1 ⟨rfl, hb1⟩
  have hs1 := hb1.size
  have HB1 := Lib.hid hb1
  clear hb1 A0
  go_wp2_with fail
  refine (D1.out w1).mono ?_
  rintro e w2 ⟨rfl, hb2⟩
  have HB2 := Lib.hid ((HB1.out.trans (hb2.mono hs1)).alloc (by have := hb2.size; omega) (.cells #[.int .i64 bx, .complex .f64 rx ix] 26))
  have HQ2 := Lib.hid (Held.new w2 #[.int .i64 bx, .complex .f64 rx ix] 26)
  obtain ⟨p, hp⟩ : ∃ p, w2.heap.size = p := ⟨_, rfl⟩
  obtain ⟨W2, hW2⟩ : ∃ W2, w2.alloc (.cells #[.int .i64 bx, .complex .f64 rx ix] 26) = W2 := ⟨_, rfl⟩
  rw [hW2] at HB2 HQ2
  rw [hp] at HQ2
  have c0 := HQ2.out.cell 0
  have c1 := HQ2.out.cell 1
  have hp2 := HQ2.out.lt
  have hs2 := HB2.out.size
  clear hb2 HB1 D1
  go_wp2_with fail
  refine (M1.out _ (HT.out.below HB2.out)).mono ?_
  rintro e w3 ⟨v3, rfl, hI3, hb3⟩
  have hs3 := hb3.size
  have HB3 := Lib.hid (HB2.out.trans (hb3.mono hs2))
  have HQ3 := Lib.hid (HQ2.out.below hb3 hp2)
  have d0 := HQ3.out.cell 0
  rcases HFM.out with ⟨x, rfl, hx⟩ | ⟨x, y, rfl, hy, hx⟩
  · obtain ⟨g, c3, rfl, hgb, hgl⟩ := hI3.formG (by simp)
    have x0 := hI3.cellAt 0 (by simp)
    simp only [List.getD_cons_zero, List.length_cons, List.length_nil, Nat.zero_add] at x0 ⊢
    clear hI3 hb3 HB2 HQ2 c0 c1 hp hW2 HQ3 HFM
    by_cases hxs : x = s
    · have q1 : (x == s) = true := by simpa using hxs
      clear hx hxs
      go_upto_region 7 with fail
      go_quiet (fail)
      go_wp2
      go_ret
      exact ⟨ret_bool (by simp), HB3.out.trans ⟨rfl, rfl, rfl, Nat.le_refl _, fun _ _ => rfl⟩⟩
    · have q1 : (x == s) = false := by simpa using hxs
      have q2 : 127 < x := by omega
      clear hx hxs
      go_upto_region 7 with fail
      go_quiet (fail)
      go_wp2
      go_ret
      exact ⟨ret_bool (by simp), HB3.out.trans ⟨rfl, rfl, rfl, Nat.le_refl _, fun _ _ => rfl⟩⟩
  · obtain ⟨g, c3, rfl, hgb, hgl⟩ := hI3.formG (by simp)
    have x0 := hI3.cellAt 0 (by simp)
    have x1 := hI3.cellAt 1 (by simp)
    simp only [List.getD_cons_zero, List.getD_cons_succ, List.length_cons, List.length_nil, Nat.zero_add] at x0 x1 ⊢
    have hy2 : ¬ y < 224 := by omega
    clear hI3 hb3 HB2 HQ2 c0 c1 hp hW2 HQ3 HFM
    by_cases hxs : x = bx
    · have q1 : (x == bx) = true := by simpa using hxs
      clear hx hxs
      go_upto_region 7 with fail
      go_quiet (fail)
      go_wp2
      go_ret
      exact ⟨ret_bool (by simp), HB3.out.trans ⟨rfl, rfl, rfl, Nat.le_refl _, fun _ _ => rfl⟩⟩
    · have q1 : (x == bx) = false := by simpa using hxs
      by_cases h4 : x = 244
      · have q2 : (x == 244) = true := by simpa using h4
        clear hx hxs h4
        go_upto_region 7 with fail
        go_quiet (fail)
        go_wp2
        go_ret
        exact ⟨ret_bool (by simp), HB3.out.trans ⟨rfl, rfl, rfl, Nat.le_refl _, fun _ _ => rfl⟩⟩
      · have q2 : (x == 244) = false := by simpa using h4
        have q3 : (x == 246) = true := by have : x = 246 := by omega
                                          simpa using this
        clear hx hxs h4
        go_upto_region 7 with fail
        go_quiet (fail)
        go_wp2
        go_ret
        exact ⟨ret_bool (by simp), HB3.out.trans ⟨rfl, rfl, rfl, Nat.le_refl _, fun _ _ => rfl⟩⟩
end Go.Proofs.YtgjmclbcmfkhdaaDoor
