/- Layer 3: the document's examples hold. -/
import Derived.Test.YtaljkdljinkemaaRuleK
import Derived.Test.YtaljkdljinkemaaAppK
namespace Go.Proofs.Ytaljkdljinkemaa
set_option linter.unusedVariables false
open Go.RowKit
def awR : List Rl := [([1], [2]), ([3], [2])]
set_option maxHeartbeats 3200000 in
theorem rawake_any (w : World) : Calls Try.prog 10 #[] w fun e w' => e = .returned (.bool true) ∧ Below w.heap.size w w' := by
  obtain ⟨i0, hi, hz0, HZ1, hz2⟩ := info_parts inforl
  go_enter Try.func10, Try.ntmps10
  go_wp2_with fail
  refine (singles_any 2 _ 2 [(1, 2), (3, 2)] (w.heap.size + 1) _ rfl ?r1 (by simp) (by omega) awR rfl).mono ?_
  case r1 => exact Rd_newR w _ _ _ rfl
  rintro e w1 ⟨v1, rfl, ho1, hb1⟩
  have hbl1 : Below w.heap.size w w1 := ((Below.refl _ _).alloc (Nat.le_refl _) _).trans (hb1.mono (by simp))
  have hs1 := hbl1.size
  obtain ⟨A1, c1, rfl, hat1⟩ := ho1.form
  have HAT1 := Lib.hid hat1
  have HO1 := Lib.hid ho1
  have hc1 : 2 ≤ c1 := hat1.fits
  rw [show awR.length = 2 from rfl] at HAT1 HO1 ⊢
  clear hat1 ho1 hb1
  go_wp2_with fail
  refine (turn_any 2 A1 c1 awR w1.heap.size _ HAT1.out (Nat.le_refl _) (by omega) (by decide) [([2], [1])] (by decide)).mono ?_
  rintro e w2 ⟨v2, rfl, ho2, hb2⟩
  have hs2 := hb2.size
  obtain ⟨A2, c2, rfl, _⟩ := ho2.form
  rw [show ([([2], [1])] : List Rl).length = 1 from rfl]
  have HO2 := HO1.out.below hb2 (Nat.le_refl _)
  obtain ⟨xs, hown, hx⟩ := id HO2
  have hlo := own_low hown (Nat.zero_le _)
  rw [show awR.length = 2 from rfl] at hlo
  have HX := Lib.hid hx
  have hlx := Rls.length hx
  have HRD := Lib.hid (Rd.own hown)
  have HONE := Lib.hid (Rls.ones hx)
  have HLX := Lib.hid hlx
  clear hown hx hlx ho2 HO2
  go_wp2_with (at_builtin; refine wpList_appK _ rfl _ _ 24 rfl 0 28 i0 _ 2 48 Try.underlying24 hi hz0 HZ1 hz2 rfl (by decide) _ _ _ rfl hlo w2.heap.size A1 2 c1 xs rfl ?k0 HRD.out HONE.out ?k3 ?k4 (Nat.zero_le _) ?_)
  case k0 => rw [HLX.out]; rfl
  case k3 => simp [maxLen]
  case k4 => omega
  intro v3 w3 hown3 hg3 hv3 hold3
  have hs3 := hg3.size
  have hxs : Rls (· < w3.heap.size) w3 xs awR := HX.out.step hs3 fun b hb hx => ⟨by show b < _; omega, hg3.block b hb (fun e => hx e.symm)⟩
  obtain ⟨A3, c3, rfl, hc3, hm3⟩ := own_form hown3
  have HAT3 : Hid (RsAt w3 w3.heap.size A3 4 c3 (awR ++ awR)) := ⟨rfl, hc3, hm3, xs ++ xs, Rd.own hown3, hxs.app hxs⟩
  have HAT4 : Hid (RsAt w3 w3.heap.size A1 2 c1 awR) := ⟨rfl, HAT1.out.fits, HAT1.out.small, xs, Rd.own hold3, hxs⟩
  have hbl3 : Below w.heap.size w w3 := (hbl1.trans (hb2.mono (by omega))).grown hg3 (by omega) (by
    intro k hk
    obtain ⟨ys, h1, _⟩ := HO1.out
    have := (h1.lt k hk).1; simp at this; omega)
  have hs3' := hbl3.size
  clear hown3 hg3 hv3 hold3 hxs hm3
  go_wp2_with fail
  refine (check_any 4 A3 c3 (awR ++ awR) w3.heap.size _ HAT3.out (Nat.le_refl _) 2 8 (by decide)).mono ?_
  rintro e w4 ⟨rfl, hb4⟩
  have hs4 := hb4.size
  have HAT5 := Lib.hid (HAT4.out.below hb4 (Nat.le_refl _))
  go_wp2_with fail
  refine (find_any 2 1 A1 _ c1 1 awR [3] w4.heap.size (w4.heap.size + 1) _ (HAT5.out.below ((Below.refl _ _).alloc hs4 _) hs4) rfl (Rd_newR w4 _ _ _ rfl) (by omega) (by simp [maxLen]) (by simp) (by simp) 1 (by decide)).mono ?_
  rintro e w5 ⟨rfl, hb5⟩
  have hb45 : Below w4.heap.size w4 w5 := ((Below.refl _ _).alloc (Nat.le_refl _) _).trans (hb5.mono (by simp))
  have hs5 := hb45.size
  go_wp2_with fail
  refine (longest_any 2 A1 c1 awR w4.heap.size _ (HAT5.out.below (hb45.mono hs4) hs4) hs5 1 (by decide)).mono ?_
  rintro e w6 ⟨rfl, hb6⟩
  go_wp2
  go_ret
  exact ⟨rfl, hbl3.trans ((hb4.trans (hb45.trans (hb6.mono hs5) |>.mono hs4)).mono hs3')⟩
end Go.Proofs.Ytaljkdljinkemaa
