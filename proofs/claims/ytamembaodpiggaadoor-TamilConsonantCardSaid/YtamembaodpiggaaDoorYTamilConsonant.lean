/- TamilConsonant: the walk. -/
import Derived.Test.YtamembaodpiggaaDoorZ4
import Derived.Test.YtamembaodpiggaaDoorZ5
namespace Go.Proofs.YtamembaodpiggaaDoor
set_option linter.unusedVariables false
set_option linter.unusedSimpArgs false
set_option linter.unnecessarySimpa false
open Go.RowKit
set_option maxRecDepth 100000 in
set_option maxHeartbeats 12800000 in
theorem tamilConsonant_any (I : TamApi) (k : Int) (w : World) (hI : I.OK w) (hk : -128 ≤ k ∧ k ≤ 127) :
    Calls Tryd.prog 4 #[.int .i8 k] w fun e w' => e = .returned (.bool true) ∧ Below w.heap.size w w' := by
  obtain ⟨hk0, hk1⟩ := hk
  have hwk : IntKind.i64.wrap k = k := by rw [IntKind.wrap_i64]; omega
  have HI := Lib.hid hI
  clear hI
  go_enter Tryd.func4, Tryd.ntmps4
  go_wp2_with fail
  refine (awake17_any I w HI.out).mono ?_
  rintro e w1 ⟨rfl, hb1⟩
  have HI1 := Lib.hid (I.keep HI.out hb1)
  have HB1 := Lib.hid hb1
  have hs1 := hb1.size
  clear hb1 HI
  go_wp2_with fail
  refine (I.consonant w1 k (by omega) (by omega) HI1.out).mono ?_
  rintro e w2 ⟨rfl, hb2⟩
  have HB2 := Lib.hid (HB1.out.trans (hb2.mono hs1))
  clear hb2 HI1 HB1
  by_cases hin : 0 ≤ k ∧ k < 22
  · obtain ⟨a, rfl⟩ : ∃ a : Nat, k = a := ⟨k.toNat, by omega⟩
    have ha : a < 22 := by omega
    have hcb : conB (a : Int) = true := by unfold conB; simp; omega
    have hcv : conV (a : Int) = tmC.getD a 0 := by unfold conV; rw [if_pos hcb]; simp [tmCon]
    rw [hcb, hcv]
    have d0 : decide ((a : Int) ≥ 0) = true := by simp
    have d1 : decide ((a : Int) < 22) = true := by simp; omega
    have ct := (Held.new w2 tmCt 3).cell a
    rw [show tmCt[a]? = some (.int .i64 (tmC.getD a 0)) from tab_ints tmC a ha] at ct
    obtain ⟨ca, hca⟩ : ∃ ca, tmC.getD a 0 = ca := ⟨_, rfl⟩
    rw [hca] at ct ⊢
    have a0 : (0 : Int) ≤ a := by omega
    have a1 : (a : Int) < 22 := by omega
    have HBF := Lib.hid (HB2.out.trans ((below_allocT w2 (.cells tmCt 3)).mono HB2.out.size))
    clear hin hcb hcv hca
    go_wp2_with fail
    refine (lcons_any w2).mono ?_
    rintro e w3 ⟨rfl, rfl⟩
    go_wp2_with fail
    go_ret
    exact ⟨ret_bool (by simp), HBF.out⟩
  · have hcb : conB k = false := by unfold conB; simp; omega
    have hcv : conV k = 0 := by unfold conV; rw [hcb]; rfl
    rw [hcb, hcv]
    rcases Int.lt_or_le k 0 with h | h
    · have d0 : decide (k ≥ 0) = false := by simp; omega
      clear hcb hcv hin
      go_wp2_with fail
      go_ret
      exact ⟨ret_bool (by simp), HB2.out⟩
    · have d0 : decide (k ≥ 0) = true := by simpa using h
      have d1 : decide (k < 22) = false := by simp; omega
      clear hcb hcv hin
      go_wp2_with fail
      go_ret
      exact ⟨ret_bool (by simp), HB2.out⟩
end Go.Proofs.YtamembaodpiggaaDoor
