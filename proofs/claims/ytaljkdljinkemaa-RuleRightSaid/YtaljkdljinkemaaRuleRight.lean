/- RuleRight: the walk. -/
import Derived.Test.YtaljkdljinkemaaRuleL
namespace Go.Proofs.Ytaljkdljinkemaa
set_option linter.unusedVariables false
open Go.RowKit
theorem right_side {rows : List RowL} : ∀ r ∈ rightR (rulesR rows), r.1.length ≤ 17592186044416 ∧ r.2.length ≤ 17592186044416 := by
  intro r hr
  obtain ⟨h1, h2⟩ := (rightFrom_good (rulesR rows) [] trivial (by simp)).2 r hr
  simp only [sideB, decide_eq_true_eq] at h1 h2
  omega
set_option maxHeartbeats 1600000 in
theorem ruleRight_any (n : Nat) (A : Option Addr) (c : Nat) (rows : List RowL) (w : World) (hr : RwAt w w.heap.size A n c rows) :
    Calls Try.prog 9 #[.slice A n c] w fun e w' => e = .returned (.bool true) ∧ Below w.heap.size w w' := by
  obtain ⟨rs, hrs⟩ : ∃ rs, rightR (rulesR rows) = rs := ⟨_, rfl⟩
  obtain ⟨ts, hts⟩ : ∃ ts, turnR rs = ts := ⟨_, rfl⟩
  obtain ⟨N, hN⟩ : ∃ N, N = rs.length := ⟨_, rfl⟩
  obtain ⟨M, hM⟩ : ∃ M, M = ts.length := ⟨_, rfl⟩
  obtain ⟨g1, g2, g3, g4⟩ := right_good (rulesR rows) (rulesR_len rows)
  have g5 := right_side (rows := rows)
  rw [hrs] at g1 g2 g3 g4 g5
  rw [hts] at g3 g4
  rw [← hN] at g1 g4
  rw [← hM] at g4
  have HR := Lib.hid hr
  have HRS := Lib.hid hrs
  have HTS := Lib.hid hts
  have HN := Lib.hid hN
  have HM := Lib.hid hM
  have G2 := Lib.hid g2
  have G3 := Lib.hid g3
  have G5 := Lib.hid g5
  have hle : decide (M ≤ N) = true := by simpa using g4
  clear hr hrs hts hN hM g2 g3 g5
  go_enter Try.func9, Try.ntmps9
  go_wp2_with fail
  refine (rawake_any _).mono ?_
  rintro e w1 ⟨rfl, hb1⟩
  have hs1 := hb1.size
  go_wp2_with fail
  refine (right_any n A c rows w1.heap.size _ (HR.out.below hb1 hs1) (Nat.le_refl _) rs HRS.out).mono ?_
  rintro e w2 ⟨v2, rfl, ho2, hb2⟩
  have hs2 := hb2.size
  obtain ⟨A2, c2, rfl, hat2⟩ := ho2.form
  rw [← HN.out] at hat2 ⊢
  have HAT2 := Lib.hid hat2
  clear ho2 hat2
  go_wp2_with fail
  refine (check_any N A2 c2 rs w2.heap.size _ HAT2.out (Nat.le_refl _) (-1) 0 G2.out).mono ?_
  rintro e w3 ⟨rfl, hb3⟩
  have hs3 := hb3.size
  go_wp2_with fail
  refine (turn_any N A2 c2 rs w2.heap.size _ (HAT2.out.below hb3 (Nat.le_refl _)) hs3 (by omega) G5.out ts HTS.out).mono ?_
  rintro e w4 ⟨v4, rfl, ho4, hb4⟩
  have hs4 := hb4.size
  obtain ⟨A4, c4, rfl, hat4⟩ := ho4.form
  rw [← HM.out] at hat4 ⊢
  have HAT4 := Lib.hid hat4
  clear ho4 hat4
  go_wp2_with fail
  refine (check_any M A4 c4 ts w4.heap.size _ HAT4.out (Nat.le_refl _) (-1) 0 G3.out).mono ?_
  rintro e w5 ⟨rfl, hb5⟩
  have hs5 := hb5.size
  have hb35 := hb3.trans ((hb4.trans (hb5.mono hs4)).mono hs3)
  have hs35 := hb35.size
  go_wp2_with fail
  refine (turn_any N A2 c2 rs w2.heap.size _ (HAT2.out.below hb35 (Nat.le_refl _)) hs35 (by omega) G5.out ts HTS.out).mono ?_
  rintro e w6 ⟨v6, rfl, ho6, hb6⟩
  obtain ⟨A6, c6, rfl, _⟩ := ho6.form
  rw [← HM.out]
  clear ho6
  have hbE : Below w.heap.size w w6 := hb1.trans ((hb2.trans ((hb35.trans (hb6.mono hs35)).mono hs2)).mono hs1)
  go_wp2
  go_ret
  exact ⟨rfl, hbE⟩
end Go.Proofs.Ytaljkdljinkemaa
