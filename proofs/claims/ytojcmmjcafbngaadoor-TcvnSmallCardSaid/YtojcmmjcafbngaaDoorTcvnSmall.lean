/- TcvnSmall: the walk. -/
import Derived.Test.YtojcmmjcafbngaaDoorTcE
import Derived.Test.YtojcmmjcafbngaaDoorVietT
namespace Go.Proofs.YtojcmmjcafbngaaDoor
set_option linter.unusedVariables false
set_option linter.unusedSimpArgs false
set_option linter.unnecessarySimpa false
open Go.RowKit
attribute [local go_sem] run_store_complex
theorem fl_zero (N : Nat) (h : N < 148) : (FloatKind.f64.format.order (fl (LT N)) 0 == some .eq) = (LT N == 0) := by
  have := all_range (show (List.range 148).all (fun N => (FloatKind.f64.format.order (fl (LT N)) 0 == some .eq) == (LT N == 0)) = true by decide +kernel) N h
  simpa using this
set_option maxRecDepth 100000 in
set_option maxHeartbeats 1600000 in
theorem tcvnSmall_any (n : Int) (w : World) (h0 : 0 ≤ n ∧ n ≤ 255) (hh : TcAt w) :
    Calls Tryd.prog 6 #[.int .u8 n] w fun e w' => e = .returned (.bool true) ∧ Below w.heap.size w w' := by
  have A1 := Lib.hid (awake12_any w hh)
  have HH := Lib.hid hh
  have n0 := h0.1
  have n1 := h0.2
  have hw1 : IntKind.i64.wrap n = n := by rw [IntKind.wrap_i64]; omega
  obtain ⟨N, hN⟩ : ∃ N : Nat, n % 148 = (N : Int) := ⟨(n % 148).toNat, by omega⟩
  have hN' : N < 148 := by omega
  have hNi : (0 : Int) ≤ N := by omega
  have HLT := Lib.hid (fun (W : World) => letR_at N hN' ▸ letter_any (N : Int) W)
  have hls := letter_small N hN'
  have hv : letV N = #[.int .i64 (LB N), .complex .f64 (fl (LM N)) (fl (LT N))] := rfl
  have hE := tcE_letter N hN'
  have hz := fl_zero N hN'
  obtain ⟨b, hb⟩ : ∃ v, LB N = v := ⟨_, rfl⟩
  obtain ⟨r, hr⟩ : ∃ v, fl (LM N) = v := ⟨_, rfl⟩
  obtain ⟨i, hi⟩ : ∃ v, fl (LT N) = v := ⟨_, rfl⟩
  obtain ⟨s, hs⟩ : ∃ v, LS N = v := ⟨_, rfl⟩
  obtain ⟨z, hzz⟩ : ∃ v, (LT N == 0) = v := ⟨_, rfl⟩
  rw [hb, hr, hi] at hv
  rw [hv, hs] at HLT
  rw [hs, hzz] at hE
  rw [hi, hzz] at hz
  have HE := Lib.hid hE
  have hlt : Hid (∀ W, Below w.heap.size w W → w.heap.size ≤ W.heap.size) := Lib.hid (fun W h => h.size)
  clear hls hv hb hr hi hs hh h0 hzz hE
  go_enter Tryd.func6, Tryd.ntmps6
  go_wp2_with fail
  refine A1.out.mono ?_
  rintro e w1 ⟨rfl, hb1⟩
  have HH1 := Lib.hid (HH.out.below hb1)
  have hs1 := hb1.size
  have HB1 := Lib.hid hb1
  clear hb1 A1 HH
  go_wp2_with fail
  refine (HLT.out w1).mono ?_
  rintro e w2 ⟨rfl, hb2⟩
  have HH2 := Lib.hid (HH1.out.below hb2)
  have HB2 := Lib.hid (HB1.out.trans (hb2.mono hs1))
  have hs2 : w.heap.size ≤ w2.heap.size := HB2.out.size
  clear hb2 HH1 HB1 hs1
  clear w1
  have HH3 := HH2.out.below ((Below.refl _ w2).alloc (Nat.le_refl _) (.cells #[.int .i64 b, .complex .f64 r i] 42))
  have E1 := Lib.hid (tenc_any s _ HH3)
  have HH4 := Lib.hid HH3
  have HB3 := Lib.hid (HB2.out.alloc hs2 (.cells #[.int .i64 b, .complex .f64 r i] 42))
  clear HH3 HH2 HB2
  cases hes : tcE s with
  | none =>
    have hC : tcC s = 0 := by unfold tcC; rw [hes]
    have hE2 := HE.out
    rw [hes] at hE2
    have D1 := Lib.hid (tdec_any 0 _ (by decide) HH4.out)
    rw [show tcD 0 = 0 by decide +kernel, show tcK 0 = true by decide +kernel] at D1
    rw [hes, hC] at E1
    have hE3 : (decide (N < 74) || z) = false := hE2.symm
    rw [Bool.or_eq_false_iff, decide_eq_false_iff_not] at hE3
    obtain ⟨q1, rfl⟩ := hE3
    have q2 : ¬ (N : Int) < 74 := by omega
    clear hes hC hE2 HE q1
    go_wp2_with fail
    refine E1.out.mono ?_
    rintro e w' ⟨rfl, rfl⟩
    go_wp2_with fail
    refine D1.out.mono ?_
    rintro e w' ⟨rfl, rfl⟩
    go_wp2_with fail
    go_ret
    exact ⟨ret_bool (by first | (simp; done) | (simp; omega)), HB3.out⟩
  | some j =>
    have hC : tcC s = (j : Int) := by unfold tcC; rw [hes]
    obtain ⟨j1, j2, j3⟩ := tcE_spec hes
    have hE2 := HE.out
    rw [hes] at hE2
    have D1 := Lib.hid (tdec_any j _ j1 HH4.out)
    rw [j3, j2] at D1
    rw [hes, hC] at E1
    have hE3 : (decide (N < 74) || z) = true := hE2.symm
    clear hes hC hE2 HE j1 j2 j3
    by_cases q1 : N < 74
    · have q2 : (N : Int) < 74 := by omega
      clear hE3 q1
      go_wp2_with fail
      refine E1.out.mono ?_
      rintro e w' ⟨rfl, rfl⟩
      go_wp2_with fail
      refine D1.out.mono ?_
      rintro e w' ⟨rfl, rfl⟩
      go_wp2_with fail
      go_ret
      exact ⟨ret_bool (by first | (simp; done) | (simp; omega)), HB3.out⟩
    · have q2 : ¬ (N : Int) < 74 := by omega
      obtain rfl : z = true := by simpa [q1] using hE3
      clear hE3 q1
      go_wp2_with fail
      refine E1.out.mono ?_
      rintro e w' ⟨rfl, rfl⟩
      go_wp2_with fail
      refine D1.out.mono ?_
      rintro e w' ⟨rfl, rfl⟩
      go_wp2_with fail
      go_ret
      exact ⟨ret_bool (by first | (simp; done) | (simp; omega)), HB3.out⟩
end Go.Proofs.YtojcmmjcafbngaaDoor
