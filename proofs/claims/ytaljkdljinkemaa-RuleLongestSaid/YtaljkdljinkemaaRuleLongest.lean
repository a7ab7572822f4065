/- RuleLongest: the walk. -/
import Derived.Test.YtaljkdljinkemaaRuleL
namespace Go.Proofs.Ytaljkdljinkemaa
set_option linter.unusedVariables false
open Go.RowKit
theorem long_hit (rs : List Rl) : ∃ J, (rs.length = 0 ∨ J < rs.length ∧ ∀ h : J < rs.length, (rs[J].1.length : Int) = longR rs) ∧ (rs.length = 0 → longR rs = 0) := by
  by_cases h0 : rs.length = 0
  · exact ⟨0, .inl h0, fun _ => by rw [List.eq_nil_of_length_eq_zero h0]; rfl⟩
  · obtain ⟨h1, h2, h3⟩ := longFrom_ge rs 0
    rcases h3 with h3 | ⟨r, hr, h3⟩
    · refine ⟨0, .inr ⟨by omega, fun h => ?_⟩, fun h => absurd h h0⟩
      have := h2 rs[0] (List.getElem_mem h)
      unfold longR; omega
    · obtain ⟨j, hj, rfl⟩ := List.getElem_of_mem hr
      exact ⟨j, .inr ⟨hj, fun _ => h3.symm⟩, fun h => absurd h h0⟩
set_option maxHeartbeats 1600000 in
theorem ruleLongest_any (n : Nat) (A : Option Addr) (c : Nat) (rows : List RowL) (q : Int) (w : World) (hr : RwAt w w.heap.size A n c rows) (hq : 0 ≤ q ∧ q ≤ 255) :
    Calls Try.prog 8 #[.slice A n c, .int .u8 q] w fun e w' => e = .returned (.bool true) ∧ Below w.heap.size w w' := by
  obtain ⟨rs, hrs⟩ : ∃ rs, rulesR rows = rs := ⟨_, rfl⟩
  obtain ⟨N, hN⟩ : ∃ N, N = rs.length := ⟨_, rfl⟩
  have h40 : N ≤ 40 := by rw [hN, ← hrs]; exact rulesR_len rows
  obtain ⟨L, hL⟩ : ∃ L, longR rs = L := ⟨_, rfl⟩
  obtain ⟨J, hJ, hz⟩ := long_hit rs
  obtain ⟨hg1, hg2, _⟩ := longFrom_ge rs 0
  rw [← hN] at hz
  rw [hL] at hJ hz
  have hL0 : 0 ≤ L := by rw [← hL]; exact hg1
  have HG2 : Hid (∀ r ∈ rs, (r.1.length : Int) ≤ L) := by rw [← hL]; exact hg2
  have HR := Lib.hid hr
  have HRS := Lib.hid hrs
  have HN := Lib.hid hN
  have HL := Lib.hid hL
  have HJ := Lib.hid hJ
  have HZ := Lib.hid hz
  have hq0 := hq.1
  have hq1 := hq.2
  clear hr hrs hN hL hJ hz hg1 hg2 hq
  go_enter Try.func8, Try.ntmps8
  go_wp2_with fail
  refine (rawake_any _).mono ?_
  rintro e w1 ⟨rfl, hb1⟩
  have hs1 := hb1.size
  go_wp2_with fail
  refine (rules_any n A c rows w1.heap.size _ (HR.out.below hb1 hs1) (Nat.le_refl _) rs HRS.out).mono ?_
  rintro e w2 ⟨v2, rfl, ho2, hb2⟩
  have hs2 := hb2.size
  obtain ⟨A2, c2, rfl, hat2⟩ := ho2.form
  rw [← HN.out] at hat2 ⊢
  have hc2 := hat2.fits
  have HAT2 := Lib.hid hat2
  have hb12 := hb1.trans (hb2.mono hs1)
  have hs12 := hb12.size
  clear ho2 hat2
  go_wp2_with fail
  refine (longest_any N A2 c2 rs w2.heap.size _ HAT2.out (Nat.le_refl _) L HL.out).mono ?_
  rintro e w3 ⟨rfl, hb3⟩
  have hs3 := hb3.size
  have hb13 := hb12.trans (hb3.mono hs12)
  have hs13 := hb13.size
  obtain ⟨S, hS⟩ : ∃ S, S = w3.heap.size := ⟨_, rfl⟩
  obtain ⟨ib0, hib⟩ : ∃ b : Bool, ((N : Int) == 0 && L == 0) = b := ⟨_, rfl⟩
  have HIB : Hid (N = 0 → ib0 = true) := by intro h; rw [← hib, HZ.out h, h]; rfl
  by_cases h0 : N = 0
  · have he0 : ((N : Int) == 0) = true := by rw [h0]; rfl
    have hl0 : (L == 0) = true := by rw [HZ.out h0]; rfl
    have hm1 : q % ((N : Int) + 1) = 0 := by rw [h0]; omega
    have hK' : ¬ 0 < N := by omega
    have HH := Lib.hid h0
    clear hib HIB h0
    go_wp2
    go_loopw [7, 25] (fun b i wr => b = .bool true ∧ i = .int .i64 0 ∧ wr = w3) (fun _ i _ => 0)
    case atStart => exact ⟨rfl, rfl, rfl⟩
    case round =>
      obtain ⟨rfl, rfl, rfl⟩ := hrel
      go_wp2_with fail
      refine (longest_any 0 A2 c2 [] w2.heap.size _ (by have := (HAT2.out.cut 0 (by omega)).below hb3 (Nat.le_refl _); simpa using this) hs3 0 rfl).mono ?_
      rintro e w4 ⟨rfl, hb4⟩
      have hd : decide (0 ≤ L) = true := by simpa using hL0
      go_wp2
      go_ret
      exact ⟨rfl, hb13.trans (hb4.mono hs13)⟩
  · have he0 : ((N : Int) == 0) = false := by rw [beq_eq_false_iff_ne]; omega
    have hJN : J < N := by
      rcases HJ.out with h | h
      · exact absurd (HN.out.trans h) h0
      · rw [HN.out]; exact h.1
    have HJL : Hid (∀ h : J < rs.length, (rs[J].1.length : Int) = L) := by
      rcases HJ.out with h | h
      · exact absurd (HN.out.trans h) h0
      · exact h.2
    obtain ⟨K', hK'⟩ : ∃ K' : Nat, q % ((N : Int) + 1) = K' := ⟨(q % ((N : Int) + 1)).toNat, by have := Int.emod_nonneg q (show ((N : Int) + 1) ≠ 0 by omega); omega⟩
    have hKN' : K' ≤ N := by have := Int.emod_lt_of_pos q (show (0 : Int) < (N : Int) + 1 by omega); omega
    obtain ⟨L', hL'⟩ : ∃ L', longR (rs.take K') = L' := ⟨_, rfl⟩
    have hLL : decide (L' ≤ L) = true := by rw [decide_eq_true_eq, ← hL', ← HL.out]; exact long_take rs K'
    have HL' := Lib.hid hL'
    have HK' := Lib.hid hK'
    clear hib HIB h0 hL' hK'
    go_wp2
    go_loopw [7, 25] (fun b i wr => ∃ (K : Nat) (ib : Bool), K ≤ N ∧ b = .bool ib ∧ i = .int .i64 K ∧ Hid (J < K → ib = true) ∧ Below w3.heap.size w3 wr) (fun _ i _ => N - (intOf i).toNat)
    case atStart => exact ⟨0, _, by omega, rfl, rfl, fun h => by omega, Below.refl _ _⟩
    case round =>
      obtain ⟨K, ib, hK, rfl, rfl, hit, hb⟩ := hrel
      have hs := hb.size
      by_cases hKq : K = N
      · have hKn : ¬ K < N := by omega
        have hib : ib = true := hit.out (by omega)
        subst hib
        clear hKq
        have hk0 : (0 : Int) ≤ (K' : Int) := by omega
        have hkc : K' ≤ c2 := by omega
        have hke := HK'.out
        go_wp2_with fail
        refine (longest_any K' A2 c2 (rs.take K') w2.heap.size _ ((HAT2.out.below (hb3.trans (hb.mono hs3)) (Nat.le_refl _)).cut K' hKN') (by omega) L' HL'.out).mono ?_
        rintro e w4 ⟨rfl, hb4⟩
        go_wp2
        go_ret
        exact ⟨rfl, hb13.trans ((hb.trans (hb4.mono hs)).mono hs13)⟩
      have hKn : K < N := by omega
      have hK1 : K < rs.length := by rw [← HN.out]; exact hKn
      obtain ⟨b, o, rfl, hbB, A3, n3, c3, A4, n4, c4, g1, g2, e1, e2, e3, e4, f1, f2, f3, f4⟩ := (HAT2.out.below (hb3.trans (hb.mono hs3)) (Nat.le_refl _)).at hK1
      have k0 : (0 : Int) ≤ K := by omega
      have k1 : (K : Int) < N := by omega
      have hle : ¬ L < n3 := by have := HG2.out _ (List.getElem_mem hK1); omega
      have HEQ : Hid (K = J → ((n3 : Int) == L) = true) := by
        intro h; subst h
        rw [beq_iff_eq, e1]; exact HJL.out hK1
      have hbn : Below w3.heap.size w3 (wr.alloc (.cells #[.slice A3 n3 c3, .slice A4 n4 c4] 28)) := hb.alloc hs _
      clear e1 e2 e3 e4 f1 f2 f3 f4
      cases ib with
      | true =>
        go_wp2
        go_roundw
        case rel => exact ⟨K + 1, true, by omega, rfl, by go_num, fun _ => rfl, hbn⟩
        case measure => simp [intOf]; omega
      | false =>
        obtain ⟨ic, hic⟩ : ∃ ic : Bool, ((n3 : Int) == L) = ic := ⟨_, rfl⟩
        have HIC : Hid (J < K + 1 → ic = true) := by
          intro h
          by_cases hKJ : K = J
          · rw [← hic]; exact HEQ.out hKJ
          · have := hit.out (by omega); cases this
        go_wp2
        go_roundw
        case rel => exact ⟨K + 1, ic, by omega, rfl, by go_num, HIC, hbn⟩
        case measure => simp [intOf]; omega
end Go.Proofs.Ytaljkdljinkemaa
