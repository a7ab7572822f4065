/- IndicPlace: the walk. -/
import Derived.Test.YthgomhmalmmhlaaDoorInH
namespace Go.Proofs.YthgomhmalmmhlaaDoor
set_option linter.unusedVariables false
set_option linter.unusedSimpArgs false
set_option linter.unnecessarySimpa false
open Go.RowKit
set_option maxRecDepth 100000 in
set_option maxHeartbeats 1600000 in
theorem indicPlace_any (c : Int) (w : World) (hc : 0 ≤ c ∧ c ≤ 255) (hT : TabI w) :
    Calls Tryd.prog 3 #[.int .u8 c] w fun e w' => e = .returned (.bool true) ∧ Below w.heap.size w w' := by
  obtain ⟨K, rfl⟩ : ∃ K : Nat, c = (K : Int) := ⟨c.toNat, by omega⟩
  have hK : K < 256 := by omega
  have A0 := Lib.hid (awake14_any w hT)
  have HT := Lib.hid hT
  obtain ⟨p, hp⟩ : ∃ p, inP K = p := ⟨_, rfl⟩
  obtain ⟨b, hb⟩ : ∃ b, (p != 0) = b := ⟨_, rfl⟩
  have D1 := fun W hW => place_any K W hK hW
  have D2 := fun W => lplace_any K W hK
  rw [hp, hb] at D1 D2
  replace D1 := Lib.hid D1
  replace D2 := Lib.hid D2
  clear hp hb hT hc
  go_enter Tryd.func3, Tryd.ntmps3
  go_wp2_with fail
  refine A0.out.mono ?_
  rintro e w1 ⟨rfl, hb1⟩
  have hs1 := hb1.size
  have HB1 := Lib.hid hb1
  clear hb1 A0
  go_wp2_with fail
  refine (D1.out w1 (HT.out.below HB1.out)).mono ?_
  rintro e w2 ⟨rfl, rfl⟩
  go_wp2_with fail
  refine (D2.out w2).mono ?_
  rintro e w3 ⟨rfl, hb3⟩
  have HB3 := Lib.hid (HB1.out.trans (hb3.mono hs1))
  clear hb3 HB1
  go_wp2_with fail
  go_ret
  exact ⟨ret_bool (by simp), HB3.out⟩
end Go.Proofs.YthgomhmalmmhlaaDoor
