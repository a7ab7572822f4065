/- RuleFind: the walk. -/
import Derived.Test.YtaljkdljinkemaaRuleL
namespace Go.Proofs.Ytaljkdljinkemaa
set_option linter.unusedVariables false
open Go.RowKit
set_option maxHeartbeats 1600000 in
theorem ruleFind_any (n : Nat) (A : Option Addr) (c : Nat) (rows : List RowL) (A' : Option Addr) (c' : Nat) (us : List Int) (q : Int) (w : World) (hr : RwAt w w.heap.size A n c rows) (hr' : Rd w w.heap.size A' (us.map (Value.int .i64))) (hc' : us.length ≤ c') (hm' : c' ≤ maxLen) (hq : 0 ≤ q ∧ q ≤ 255) :
    Calls Try.prog 5 #[.slice A n c, .slice A' us.length c', .int .u8 q] w fun e w' => e = .returned (.bool true) ∧ Below w.heap.size w w' := by
  obtain ⟨rs, hrs⟩ : ∃ rs, rulesR rows = rs := ⟨_, rfl⟩
  obtain ⟨N, hN⟩ : ∃ N, N = rs.length := ⟨_, rfl⟩
  obtain ⟨n', hn'⟩ : ∃ n', n' = us.length := ⟨_, rfl⟩
  have h40 : N ≤ 40 := by rw [hN, ← hrs]; exact rulesR_len rows
  rw [← hn'] at hc' ⊢
  obtain ⟨fu, hfu⟩ : ∃ fu, findR rs us = fu := ⟨_, rfl⟩
  have HR := Lib.hid hr
  have HR' := Lib.hid hr'
  have HRS := Lib.hid hrs
  have HN := Lib.hid hN
  have HN' := Lib.hid hn'
  have HM' := Lib.hid hm'
  have HFU := Lib.hid hfu
  have hq0 := hq.1
  have hq1 := hq.2
  clear hr hr' hrs hN hn' hm' hfu hq
  go_enter Try.func5, Try.ntmps5
  go_wp2_with fail
  refine (rawake_any _).mono ?_
  rintro e w1 ⟨rfl, hb1⟩
  have hs1 := hb1.size
  go_wp2_with fail
  refine (rules_any n A c rows w1.heap.size _ (HR.out.below hb1 hs1) (Nat.le_refl _) rs HRS.out).mono ?_
  rintro e w2 ⟨v2, rfl, ho2, hb2⟩
  have hs2 := hb2.size
  obtain ⟨A2, c2, rfl, hat2⟩ := ho2.form
  rw [← HN.out] at hat2 ⊢
  have HAT2 := Lib.hid hat2
  have hb12 := hb1.trans (hb2.mono hs1)
  have HU := Lib.hid (HR'.out.below hb12 (Nat.le_refl _))
  have hs12 := hb12.size
  clear ho2 hat2
  by_cases h0 : N = 0
  · have he0 : ((N : Int) == 0) = true := by rw [h0]; rfl
    have hff : fu = -1 := by rw [← HFU.out, List.eq_nil_of_length_eq_zero (HN.out.symm.trans h0)]; rfl
    have HFF := Lib.hid (show fu = -1 from hff)
    clear hff h0
    go_wp2_with fail
    refine (find_any N n' A2 A' c2 c' rs us w2.heap.size w.heap.size _ HAT2.out HN'.out HU.out hc' HM'.out (Nat.le_refl _) hs12 fu HFU.out).mono ?_
    rintro e w3 ⟨rfl, hb3⟩
    have hbq : (fu == -1) = true := by rw [HFF.out]; rfl
    go_wp2
    go_ret
    exact ⟨by simp [hbq], hb12.trans (hb3.mono hs12)⟩
  · have he0 : ((N : Int) == 0) = false := by rw [beq_eq_false_iff_ne]; omega
    obtain ⟨K, hK⟩ : ∃ K : Nat, q % (N : Int) = K := ⟨(q % (N : Int)).toNat, by have := Int.emod_nonneg q (show (N : Int) ≠ 0 by omega); omega⟩
    have hKN : K < N := by have := Int.emod_lt_of_pos q (show (0 : Int) < N by omega); omega
    have hK1 : K < rs.length := by rw [← HN.out]; exact hKN
    obtain ⟨b, o, rfl, hbB, A3, n3, c3, A4, n4, c4, g1, g2, e1, e2, e3, e4, _, _, _, _⟩ := HAT2.out.at hK1
    obtain ⟨fx, hfx⟩ : ∃ fx, findR rs rs[K].1 = fx := ⟨_, rfl⟩
    have HFX := Lib.hid hfx
    have E1 := Lib.hid e1
    have E3 := Lib.hid e3
    have E4 := Lib.hid e4
    have k0 : (0 : Int) ≤ K := by omega
    have k1 : (K : Int) < N := by omega
    have hN1 : 1 ≤ N := by omega
    clear hfx e1 e3 e4 h0 g2
    go_wp2_with fail
    refine (find_any N n' _ A' c2 c' rs us w2.heap.size w.heap.size _ HAT2.out HN'.out HU.out hc' HM'.out (Nat.le_refl _) hs12 fu HFU.out).mono ?_
    rintro e w3 ⟨rfl, hb3⟩
    have hs3 := hb3.size
    go_wp2_with fail
    refine (find_law N n' _ A' c2 c' rs us w2.heap.size w.heap.size _ (HAT2.out.below hb3 (Nat.le_refl _)) HN'.out (HU.out.below (hb3.mono hs12) (Nat.le_refl _)) hc' HM'.out hs3 (by omega) fu HFU.out).mono ?_
    rintro e w4 ⟨rfl, hb4⟩
    have hs4 := hb4.size
    have hb34 := hb3.trans (hb4.mono hs3)
    have hs34 := hb34.size
    go_wp2_with fail
    refine (find_any N n3 _ A3 c2 c3 rs rs[K].1 w2.heap.size w2.heap.size _ (HAT2.out.below hb34 (Nat.le_refl _)) E1.out (E4.out.below hb34 (Nat.le_refl _)) e2 E3.out hs34 hs34 fx HFX.out).mono ?_
    rintro e w5 ⟨rfl, hb5⟩
    have hs5 := hb5.size
    have hb35 := hb34.trans (hb5.mono hs34)
    have hs35 := hb35.size
    go_wp2_with fail
    refine (find_law N n3 _ A3 c2 c3 rs rs[K].1 w2.heap.size w2.heap.size _ (HAT2.out.below hb35 (Nat.le_refl _)) E1.out (E4.out.below hb35 (Nat.le_refl _)) e2 E3.out hs35 hs35 fx HFX.out).mono ?_
    rintro e w6 ⟨rfl, hb6⟩
    go_wp2
    go_ret
    exact ⟨rfl, hb12.trans ((hb35.trans (hb6.mono hs35)).mono hs12)⟩
end Go.Proofs.Ytaljkdljinkemaa
