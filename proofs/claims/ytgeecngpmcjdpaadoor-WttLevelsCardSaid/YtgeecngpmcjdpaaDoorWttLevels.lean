/- WttLevels: the walk. -/
import Derived.Test.YtgeecngpmcjdpaaDoorWttE
namespace Go.Proofs.YtgeecngpmcjdpaaDoor
set_option linter.unusedVariables false
open Go.RowKit
set_option maxHeartbeats 1600000 in
theorem wttLevels_any (A : Option Addr) (c : Nat) (zs : List Int) (w : World) (hz : Rd w w.heap.size A (zs.map (Value.int .u8))) (hzr : ∀ z ∈ zs, 0 ≤ z ∧ z ≤ 255) (hm : zs.length ≤ 9223372036854775806) (hw : Wt w) :
    Calls Tryd.prog 8 #[.slice A zs.length c] w fun e w' => e = .returned (.bool true) ∧ Below w.heap.size w w' := by
  have A0 := Lib.hid (tawake8_any w hw)
  have HW := Lib.hid hw
  have HZ := Lib.hid hz
  have HZR := Lib.hid hzr
  obtain ⟨n, hn⟩ : ∃ n, n = zs.length := ⟨_, rfl⟩
  rw [← hn] at hm ⊢
  have HN := Lib.hid hn
  obtain ⟨q, hq⟩ : ∃ q, chkF zs 1 = q := ⟨_, rfl⟩
  obtain ⟨r, hr⟩ : ∃ r, chkF zs 2 = r := ⟨_, rfl⟩
  have f1 := chk_levels zs (show (1 : Int) ≤ 2 by decide)
  have f2 := chk_levels_le zs (show (1 : Int) ≤ 2 by decide)
  rw [hq, hr] at f1 f2
  have HQ := Lib.hid hq
  have HR := Lib.hid hr
  clear hz hzr hw hn hq hr
  go_enter Tryd.func8, Tryd.ntmps8
  go_wp2_with fail
  refine A0.out.mono ?_
  rintro e w1 ⟨rfl, hb1⟩
  have HW1 := Lib.hid (HW.out.below hb1)
  have HZ1 := Lib.hid (HZ.out.below hb1 (Nat.le_refl _))
  have hs1 := hb1.size
  go_wp2_with fail
  refine (check_any n A c zs 0 _ w1 HN.out HZ1.out HZR.out hm (by decide) HW1.out).mono ?_
  rintro e w2 ⟨rfl, m2, h⟩
  have hb2 : Below w1.heap.size w1 w2 := by rw [h]; exact below_drewN (Below.refl _ _) m2
  have HW2 := Lib.hid (HW1.out.below hb2)
  have HZ2 := Lib.hid (HZ1.out.below (hb2.mono hs1) (Nat.le_refl _))
  have hb12 := hb1.trans (hb2.mono hs1)
  have hs2 := hb12.size
  rw [chk_pass]
  clear h hb1 hb2
  go_wp2_with fail
  refine (check_any n A c zs 1 _ w2 HN.out HZ2.out HZR.out hm (by decide) HW2.out).mono ?_
  rintro e w3 ⟨rfl, m3, h⟩
  have hb3 : Below w2.heap.size w2 w3 := by rw [h]; exact below_drewN (Below.refl _ _) m3
  have HW3 := Lib.hid (HW2.out.below hb3)
  have HZ3 := Lib.hid (HZ2.out.below (hb3.mono hs2) (Nat.le_refl _))
  have hb13 := hb12.trans (hb3.mono hs2)
  have hs3 := hb13.size
  rw [HQ.out]
  clear h hb12 hb3
  go_wp2_with fail
  refine (check_any n A c zs 2 _ w3 HN.out HZ3.out HZR.out hm (by decide) HW3.out).mono ?_
  rintro e w4 ⟨rfl, m4, h⟩
  have hb4 : Below w3.heap.size w3 w4 := by rw [h]; exact below_drewN (Below.refl _ _) m4
  have HBF := Lib.hid (hb13.trans (hb4.mono hs3))
  rw [HR.out]
  clear h hb13 hb4
  by_cases hq1 : q = -1
  · subst hq1
    clear f1 f2
    by_cases hr1 : r = -1
    · subst hr1
      go_wp2
      go_ret
      exact ⟨rfl, HBF.out⟩
    · have e1 : (r != -1) = true := by simpa using hr1
      go_wp2
      go_ret
      exact ⟨rfl, HBF.out⟩
  · have e0 : (q == -1) = false := by simpa using hq1
    have hr1 : r ≠ -1 := fun h => hq1 (f1 h)
    obtain ⟨g1, g2⟩ := f2 hq1
    have e1 : (r != -1) = true := by simpa using hr1
    clear f1 f2
    go_wp2
    go_ret
    exact ⟨ret_bool (by simp), HBF.out⟩
end Go.Proofs.YtgeecngpmcjdpaaDoor
