/- VisciiRules: the walk. -/
import Derived.Test.YtlcplpjfkfnffaaDoorVisE
import Derived.Test.YtlcplpjfkfnffaaDoorSameR
namespace Go.Proofs.YtlcplpjfkfnffaaDoor
set_option linter.unusedVariables false
set_option linter.unusedSimpArgs false
set_option linter.unnecessarySimpa false
open Go.RowKit
theorem vsR_at (n k : Nat) (h : k < n) : (vsR n)[k]'(by rw [vsR_len]; exact h) = ([(k : Int)], [vsD k]) := by simp [vsR]

set_option maxRecDepth 100000 in
set_option maxHeartbeats 3200000 in
theorem visciiRules_any (n : Nat) (w : World) (hn : n < 256) (hh : HvAt w) :
    Calls Tryd.prog 5 #[.int .u8 (n : Int)] w fun e w' => e = .returned (.bool true) ∧ Below w.heap.size w w' := by
  have A0 := Lib.hid (awake11_any w hh)
  have HH := Lib.hid hh
  have n0 : (0 : Int) ≤ n := by omega
  have n1 : (n : Int) < 256 := by omega
  have n2 : IntKind.i64.wrap (n : Int) = n := by rw [IntKind.wrap_i64]; omega
  clear hh
  go_enter Tryd.func5, Tryd.ntmps5
  go_wp2_with fail
  refine A0.out.mono ?_
  rintro e w1 ⟨rfl, hb1⟩
  have HH1 := Lib.hid (HH.out.below hb1)
  have hs1 := hb1.size
  have HB1 := Lib.hid hb1
  clear hb1 A0 HH
  have T1 := Lib.hid (vtab_any w1)
  go_wp2_with fail
  refine T1.out.mono ?_
  rintro e w3 ⟨v, rfl, hT, hb3⟩
  obtain ⟨gt, ct, rfl, _, hgt, hc⟩ := hT.vis
  have HH3 := Lib.hid (HH1.out.below hb3)
  have HB3 := Lib.hid (HB1.out.trans (hb3.mono hs1))
  have hs3 : w.heap.size ≤ w3.heap.size := HB3.out.size
  have HCT := Lib.hid hc
  clear hc hT hb3 T1 HH1 HB1 hs1
  go_wp2_with fail
  go_loopw [3, 11] (fun v i wr => ∃ K : Nat, K ≤ 256 ∧ i = .int .i64 K ∧ Hid (OwnRs w3.heap.size wr v (vsR K)) ∧ Hid (Below w3.heap.size w3 wr)) (fun _ i _ => 256 - (intOf i).toNat)
  case atStart => exact ⟨0, by omega, rfl, OwnRs.nil _ _, Lib.hid (Below.refl _ _)⟩
  case round =>
    obtain ⟨K, hK, rfl, ho, hb⟩ := hrel
    by_cases hKn : K = 256
    · subst hKn
      have R1 := Lib.hid (vrules_any wr (HH3.out.below hb.out))
      obtain ⟨A3, c3, rfl, hw1⟩ := ho.out.form
      rw [vsR_len] at hw1 ⊢
      go_wp2_with fail
      refine R1.out.mono ?_
      rintro e w4 ⟨v, rfl, hO, hb4⟩
      obtain ⟨A4, c4, rfl, hw2⟩ := hO.form
      rw [vsR_len] at hw2 ⊢
      have HB4 := Lib.hid (HB3.out.trans ((hb.out.trans (hb4.mono hb.out.size)).mono hs3))
      have S1 := Lib.hid (rsame_any 256 256 A4 A3 c4 c3 (vsR 256) _ _ w4 hw2 (hw1.below hb4 (Nat.le_refl _)))
      have HW := Lib.hid hw2
      clear hw1 hO hb4 R1 ho hb hw2 HB3 HH3 HCT
      go_wp2_with fail
      refine S1.out.mono ?_
      rintro e w5 ⟨rfl, m, hm⟩
      obtain ⟨b, o, rfl, _, A1, k1, d1, A2, k2, d2, g1, _, e1, _, _, e4, _⟩ := (show RsAt w5 _ A4 256 c4 (vsR 256) by rw [hm]; exact HW.out.drewN m).at (k := n) (by rw [vsR_len]; exact hn)
      have HB5 := Lib.hid (show Below w.heap.size w w5 by rw [hm]; exact HB4.out.trans ⟨rfl, rfl, rfl, Nat.le_refl _, fun _ _ => rfl⟩)
      rw [vsR_at 256 n hn] at e1 e4
      obtain ⟨b1, o1, rfl, _, hc1⟩ := rd_ints e4 (by simp)
      have hcell := hc1 0 (by simp)
      have e1' : k1 = 1 := by simpa using e1
      subst e1'
      simp only [List.getD_cons_zero, Nat.add_zero] at hcell
      clear hm e1 e4 hc1 S1 HW HB4
      go_wp2_with fail
      go_ret
      exact ⟨ret_bool (by simp), HB5.out⟩
    have hK' : K < 256 := by omega
    have k3 : (0 : Int) ≤ K := by omega
    have k4 : (K : Int) < 256 := by omega
    have hwr := hb.out.size
    have cK := (hb.out.cell (p := ⟨gt, K, none⟩) hgt).trans (HCT.out K hK')
    have HS := Lib.hid (vsR_succ K)
    obtain ⟨acc, hacc⟩ : ∃ acc, vsR K = acc := ⟨_, rfl⟩
    have hal := vsR_len K
    obtain ⟨d, hd⟩ : ∃ d, vsD K = d := ⟨_, rfl⟩
    rw [hacc] at ho HS hal
    rw [hd] at cK HS
    obtain ⟨A3, c3, rfl, _⟩ := ho.out.form
    have HAL := Lib.hid (show acc.length ≤ 1048576 by omega)
    clear hacc hd hal hKn
    go_wp2_with (at_builtin; refine wpList_appRl rfl _ _ rfl w3.heap.size (.slice A3 acc.length c3) acc (K : Int) d rfl ho.out rfl HAL.out hwr ?_)
    intro v' w4 HN HBB
    have HB4 := Lib.hid (HBB.out w3.heap.size w3 (Nat.le_refl _) hb.out)
    have HN2 : Hid (OwnRs w3.heap.size w4 v' (vsR (K + 1))) := by rw [HS.out]; exact HN
    clear HN
    go_wp2_with fail
    go_roundw
    case rel => exact ⟨K + 1, by omega, by go_num, HN2, HB4⟩
    case measure => simp [intOf]; omega
theorem visciiRules_i (c : Int) (w : World) (h0 : 0 ≤ c ∧ c ≤ 255) (hh : HvAt w) :
    Calls Tryd.prog 5 #[.int .u8 c] w fun e w' => e = .returned (.bool true) ∧ Below w.heap.size w w' := by
  obtain ⟨k, rfl⟩ := Int.eq_ofNat_of_zero_le h0.1
  exact visciiRules_any k w (by omega) hh
end Go.Proofs.YtlcplpjfkfnffaaDoor
