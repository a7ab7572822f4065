/- VisciiAll: the walk. -/
import Derived.Test.YtlcplpjfkfnffaaDoorVisE
import Derived.Test.YtlcplpjfkfnffaaDoorVietT
namespace Go.Proofs.YtlcplpjfkfnffaaDoor
set_option linter.unusedVariables false
set_option linter.unusedSimpArgs false
set_option linter.unnecessarySimpa false
open Go.RowKit
attribute [local go_sem] run_store_complex
set_option maxRecDepth 100000 in
set_option maxHeartbeats 1600000 in
theorem visciiAll_any (n : Int) (w : World) (h0 : 0 ≤ n ∧ n ≤ 255) (hh : HvAt w) :
    Calls Tryd.prog 6 #[.int .u8 n] w fun e w' => e = .returned (.bool true) ∧ Below w.heap.size w w' := by
  have A1 := Lib.hid (awake11_any w hh)
  have HH := Lib.hid hh
  have n0 := h0.1
  have n1 := h0.2
  have hw1 : IntKind.i64.wrap n = n := by rw [IntKind.wrap_i64]; omega
  obtain ⟨N, hN⟩ : ∃ N : Nat, n % 148 = (N : Int) := ⟨(n % 148).toNat, by omega⟩
  have hN' : N < 148 := by omega
  have HLT := Lib.hid (fun (W : World) => letR_at N hN' ▸ letter_any (N : Int) W)
  have hls := letter_small N hN'
  have hv : letV N = #[.int .i64 (LB N), .complex .f64 (fl (LM N)) (fl (LT N))] := rfl
  obtain ⟨hE1, hE2⟩ := vsE_letter N hN'
  obtain ⟨j, hj⟩ := Option.isSome_iff_exists.1 hE1
  have hj1 := vsE_spec hj
  have hC : vsC (LS N) = (j : Int) := by unfold vsC; rw [hj]
  obtain ⟨b, hb⟩ : ∃ v, LB N = v := ⟨_, rfl⟩
  obtain ⟨r, hr⟩ : ∃ v, fl (LM N) = v := ⟨_, rfl⟩
  obtain ⟨i, hi⟩ : ∃ v, fl (LT N) = v := ⟨_, rfl⟩
  obtain ⟨s, hs⟩ : ∃ v, LS N = v := ⟨_, rfl⟩
  rw [hb, hr, hi] at hv
  rw [hv, hs] at HLT
  rw [hs] at hj hj1 hC
  have HE := Lib.hid (And.intro hj (And.intro hC hj1))
  clear hls hv hb hr hi hs hE1 hE2 hj hj1 hC hh h0
  go_enter Tryd.func6, Tryd.ntmps6
  go_wp2_with fail
  refine A1.out.mono ?_
  rintro e w1 ⟨rfl, hb1⟩
  have HH1 := Lib.hid (HH.out.below hb1)
  have hs1 := hb1.size
  have HB1 := Lib.hid hb1
  clear hb1 A1 HH
  go_wp2_with fail
  refine (HLT.out w1).mono ?_
  rintro e w2 ⟨rfl, hb2⟩
  have HH2 := Lib.hid (HH1.out.below hb2)
  have HB2 := Lib.hid (HB1.out.trans (hb2.mono hs1))
  have hs2 : w.heap.size ≤ w2.heap.size := HB2.out.size
  clear hb2 HH1 HB1 hs1
  clear w1
  have HH3 := HH2.out.below ((Below.refl _ w2).alloc (Nat.le_refl _) (.cells #[.int .i64 b, .complex .f64 r i] 38))
  have E1 := Lib.hid (venc_any s _ HH3)
  rw [HE.out.1, HE.out.2.1] at E1
  have D1 := Lib.hid (vdec_any j _ HE.out.2.2.1 HH3)
  rw [HE.out.2.2.2] at D1
  have HB3 := Lib.hid (HB2.out.alloc hs2 (.cells #[.int .i64 b, .complex .f64 r i] 38))
  clear HH3
  go_wp2_with fail
  refine E1.out.mono ?_
  rintro e w' ⟨rfl, rfl⟩
  go_wp2_with fail
  refine D1.out.mono ?_
  rintro e w' ⟨rfl, rfl⟩
  go_wp2_with fail
  go_ret
  exact ⟨ret_bool (by simp), HB3.out⟩
end Go.Proofs.YtlcplpjfkfnffaaDoor
