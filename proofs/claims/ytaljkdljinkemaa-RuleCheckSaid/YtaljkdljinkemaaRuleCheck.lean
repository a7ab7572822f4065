/- RuleCheck: the walk. -/
import Derived.Test.YtaljkdljinkemaaRuleL
namespace Go.Proofs.Ytaljkdljinkemaa
set_option linter.unusedVariables false
open Go.RowKit
/-- what the rules of the law are, one told twice or not -/
def CutQ (base : Nat) (w : World) (s : Value) (wx : World) : Prop := ∃ rs : List Rl, rs.length ≤ 41 ∧ OwnRs base wx s rs ∧ Below base w wx
set_option maxRecDepth 100000 in
set_option maxHeartbeats 3200000 in
theorem ruleCheck_any (n : Nat) (A : Option Addr) (c : Nat) (rows : List RowL) (q : Int) (w : World) (hr : RwAt w w.heap.size A n c rows) (hq : 0 ≤ q ∧ q ≤ 255) :
    Calls Try.prog 3 #[.slice A n c, .int .u8 q] w fun e w' => e = .returned (.bool true) ∧ Below w.heap.size w w' := by
  obtain ⟨i0, hi, hz0, HZ1, hz2⟩ := info_parts inforl
  obtain ⟨rs0, hrs⟩ : ∃ rs, rulesR rows = rs := ⟨_, rfl⟩
  obtain ⟨N, hN⟩ : ∃ N, N = rs0.length := ⟨_, rfl⟩
  have h40 : N ≤ 40 := by rw [hN, ← hrs]; exact rulesR_len rows
  have HR := Lib.hid hr
  have HRS := Lib.hid hrs
  have HN := Lib.hid hN
  have hq0 := hq.1
  have hq1 := hq.2
  clear hr hrs hN hq
  go_enter Try.func3, Try.ntmps3
  go_wp2_with fail
  refine (rawake_any _).mono ?_
  rintro e w1 ⟨rfl, hb1⟩
  have hs1 := hb1.size
  go_wp2_with fail
  refine (rules_any n A c rows w1.heap.size _ (HR.out.below hb1 hs1) (Nat.le_refl _) rs0 HRS.out).mono ?_
  rintro e w2 ⟨v2, rfl, ho2, hb2⟩
  have hs2 := hb2.size
  obtain ⟨A2, c2, rfl, hat2⟩ := ho2.form
  have hoN := ho2.low (base' := w.heap.size) (by omega)
  rw [← HN.out] at hat2 hoN ⊢
  have hc2 := hat2.fits
  have HAT2 := Lib.hid hat2
  have hb12 := hb1.trans (hb2.mono hs1)
  have hs12 := hb12.size
  have HO2 := Lib.hid hoN
  clear ho2 hat2 hoN
  go_upto_region 4 with fail
  go_cut [22] (fun s22 wx => wx = w2 ∧ ∃ bb : Bool, s22 = .bool bb ∧ (bb = true → 0 < N))
  case first =>
    by_cases h0 : 0 < N
    · by_cases h4 : q % 4 = 0
      · go_wp2
        go_meet
        exact ⟨rfl, _, rfl, fun _ => h0⟩
      · have h4' : (q % 4 == 0) = false := beq_eq_false_iff_ne.2 h4
        go_wp2
        go_meet
        exact ⟨rfl, _, rfl, fun h => by cases h⟩
    · have h0' : decide ((0 : Int) < N) = false := by simp; omega
      by_cases h4 : q % 4 = 0
      · go_wp2
        go_meet
        exact ⟨rfl, _, rfl, fun h => by cases h⟩
      · have h4' : (q % 4 == 0) = false := beq_eq_false_iff_ne.2 h4
        go_wp2
        go_meet
        exact ⟨rfl, _, rfl, fun h => by cases h⟩
  case rest =>
    obtain ⟨rfl, bb, rfl, hbb⟩ := hcut
    obtain ⟨w2, rfl⟩ : ∃ w2 : World, w2 = wc := ⟨_, rfl⟩
    have HBB := Lib.hid hbb
    clear hbb
    go_upto_if 22 with fail
    go_cut [5] (fun s5 wx => CutQ w.heap.size w s5 wx)
    case first =>
      cases bb with
      | false =>
        go_wp2
        go_meet
        exact ⟨rs0, by rw [← HN.out]; omega, HO2.out, hb12⟩
      | true =>
        have h0 := HBB.out rfl
        obtain ⟨J, hJ⟩ : ∃ J : Nat, (q / 4) % (N : Int) = J := ⟨((q / 4) % (N : Int)).toNat, by have := Int.emod_nonneg (q / 4) (show (N : Int) ≠ 0 by omega); omega⟩
        have hJN : J < N := by have := Int.emod_lt_of_pos (q / 4) (show (0 : Int) < N by omega); omega
        have hJ1 : J < rs0.length := by rw [← HN.out]; exact hJN
        obtain ⟨xs, hown, hx⟩ := HO2.out
        obtain ⟨va, vb, ga, gb, ua, ub⟩ := Rls.at hx J hJ1
        rw [← HN.out] at hown
        have hrd := Rd.own hown
        have hlx := Rls.length hx
        obtain ⟨Aa, ca, rfl, _⟩ := id ua
        obtain ⟨Ab, cb, rfl, _⟩ := id ub
        rcases hrd with hrd | ⟨b, o, rfl, hbB, hcell⟩
        · rw [hrd] at hlx; simp at hlx; omega
        have g1 := (hcell (J * 2) (by omega)).trans ga
        have g2 := (hcell (J * 2 + 1) (by omega)).trans gb
        rw [← Nat.add_assoc] at g2
        have HX := Lib.hid hx
        have UA := Lib.hid ua
        have UB := Lib.hid ub
        have hj0 : (0 : Int) ≤ J := by omega
        have hj1 : (J : Int) < N := by omega
        have hN1 : 1 ≤ N := by omega
        have hbR : Below w2.heap.size w2 (w2.alloc (.cells #[.slice Aa rs0[J].1.length ca, .slice Ab rs0[J].2.length cb] 28)) := (Below.refl _ _).alloc (Nat.le_refl _) _
        clear hx ua ub hcell hlx ga gb
        go_wp2_with (at_builtin; refine wpList_appB _ rfl _ _ 24 rfl w.heap.size 28 i0 _ 2 48 Try.underlying24 hi hz0 HZ1 hz2 rfl (by decide) _ _ _ rfl (hown.alloc _) (w2.heap.size + 1) _ 1 1 [.slice Aa rs0[J].1.length ca, .slice Ab rs0[J].2.length cb] rfl rfl ?c1 ?c2 ?c3 ?c4 ?c5 ?_)
        case c1 => exact Rd_newR _ _ _ _ rfl
        case c2 => exact ⟨rfl, rfl⟩
        case c3 => simp only [maxLen]; omega
        case c4 => omega
        case c5 => omega
        intro v' w4 hown4 hg4 hv4
        have hpush : OwnRs w.heap.size w4 v' (rs0 ++ [rs0[J]]) := by
          refine own_push (xs := xs) (by rw [← HN.out]; simpa using hown4) (HX.out.step hbR.size fun b hb hx => ⟨hx, hbR.block b hb⟩) (UA.out.step hbR.size fun b hb hx => ⟨hx, hbR.block b hb⟩) (UB.out.step hbR.size fun b hb hx => ⟨hx, hbR.block b hb⟩) hg4 (by simpa using hv4)
        have HP := Lib.hid hpush
        have hbE : Below w.heap.size w w4 := below_own (hb12.trans (hbR.mono hs12)) hg4 (hown.alloc _) (Nat.le_refl _) (by simp; omega)
        clear hown4 hpush
        go_wp2
        go_meet
        exact ⟨_, by simp; rw [← HN.out]; omega, HP.out, hbE⟩
    case rest =>
      obtain ⟨rs, hl41, ho, hb⟩ := hcut
      obtain ⟨w3, rfl⟩ : ∃ w3 : World, w3 = wc := ⟨_, rfl⟩
      have hs := hb.size
      obtain ⟨A3, c3, rfl, hat⟩ := ho.form
      obtain ⟨M, hM⟩ : ∃ M, M = rs.length := ⟨_, rfl⟩
      rw [← hM] at hat hl41 ⊢
      obtain ⟨⟨k, e⟩, hke⟩ : ∃ p, checkR rs = p := ⟨_, rfl⟩
      have HM := Lib.hid hM
      have HKE := Lib.hid hke
      have HAT := Lib.hid hat
      have hc3 := hat.fits
      have hc3' := hat.small
      unfold maxLen at hc3'
      clear hM hke hat ho
      go_wp2_with fail
      refine (check_any M A3 c3 rs w3.heap.size _ HAT.out (Nat.le_refl _) k e HKE.out).mono ?_
      rintro en w4 ⟨rfl, hb4⟩
      have hs4 := hb4.size
      have hb34 := hb.trans (hb4.mono hs)
      go_wp2
      go_loopw [42] (fun i wr => ∃ K : Nat, K ≤ M ∧ i = .int .i64 K ∧ Below w3.heap.size w3 wr ∧ Hid (checkFrom K (rs.take K) (rs.drop K) = (k, e))) (fun i _ => M - (intOf i).toNat)
      case atStart => exact ⟨0, by omega, rfl, hb4, HKE.out⟩
      case round =>
        obtain ⟨K, hK, rfl, hbr, hf⟩ := hrel
        have hsr := hbr.size
        by_cases hKM : K = M
        · have hK' : ¬ K < M := by omega
          obtain ⟨rfl, rfl⟩ := check_end hf.out (by rw [← HM.out, hKM]; omega)
          clear hKM
          go_wp2
          go_ret
          exact ⟨rfl, hb.trans (hbr.mono hs)⟩
        have hK' : K < M := by omega
        have hK1 : K < rs.length := by rw [← HM.out]; exact hK'
        obtain ⟨b, o, rfl, hbB, A5, n5, c5, A6, n6, c6, g1, g2, e1, e2, e3, e4, f1, f2, f3, f4⟩ := HAT.out.at hK1
        have k1 := (hbr.cell (p := ⟨b, o + K * 2, none⟩) (by show b < _; omega)).trans g1
        have k2 := (hbr.cell (p := ⟨b, o + K * 2 + 1, none⟩) (by show b < _; omega)).trans g2
        have k3 : (0 : Int) ≤ K := by omega
        have k4 : (K : Int) < M := by omega
        have k5 : K ≤ c3 := by omega
        have E1 := Lib.hid e1
        have F1 := Lib.hid f1
        have E4 := Lib.hid (e4.below hbr (Nat.le_refl _))
        have F4 := Lib.hid (f4.below hbr (Nat.le_refl _))
        have M1 : Hid (n5 ≤ 9223372036854775807) := by unfold maxLen at e3; exact (show n5 ≤ 9223372036854775807 by omega)
        have M2 : Hid (n6 ≤ 9223372036854775807) := by unfold maxLen at f3; exact (show n6 ≤ 9223372036854775807 by omega)
        have M3 := Lib.hid e3
        have hl2 : K < 512 := by omega
        have hbA : ∀ o, Below w3.heap.size wr (wr.alloc o) := fun o => (Below.refl _ _).alloc hsr _
        have HBA := Lib.hid hbA
        obtain ⟨s1, hs1'⟩ : ∃ s, sideB rs[K].1 = s := ⟨_, rfl⟩
        obtain ⟨s2, hs2'⟩ : ∃ s, sideB rs[K].2 = s := ⟨_, rfl⟩
        have S1 := Lib.hid hs1'
        have S2 := Lib.hid hs2'
        clear hs1' hs2' hbA g1 g2 e1 e4 f1 f4 e3 f3
        cases s1 with
        | false =>
          obtain ⟨rfl, rfl⟩ := check_arg hf.out hK1 hl2 (by rw [S1.out]; rfl)
          go_wp2_with fail
          refine (may_any n5 A5 c5 rs[K].1 w3.heap.size _ E1.out (E4.out.below (HBA.out _) (Nat.le_refl _)) M1.out _ S1.out).mono ?_
          rintro en w5 ⟨rfl, rfl⟩
          go_wp2
          go_ret
          exact ⟨by simp, hb.trans ((hbr.trans (HBA.out _)).mono hs)⟩
        | true =>
          cases s2 with
          | false =>
            obtain ⟨rfl, rfl⟩ := check_arg hf.out hK1 hl2 (by rw [S1.out, S2.out]; rfl)
            go_wp2_with fail
            refine (may_any n5 A5 c5 rs[K].1 w3.heap.size _ E1.out (E4.out.below (HBA.out _) (Nat.le_refl _)) M1.out _ S1.out).mono ?_
            rintro en w5 ⟨rfl, rfl⟩
            go_wp2_with fail
            refine (may_any n6 A6 c6 rs[K].2 w3.heap.size _ F1.out (F4.out.below (HBA.out _) (Nat.le_refl _)) M2.out _ S2.out).mono ?_
            rintro en w5 ⟨rfl, rfl⟩
            go_wp2
            go_ret
            exact ⟨by simp, hb.trans ((hbr.trans (HBA.out _)).mono hs)⟩
          | true =>
            have hss : (sideB rs[K].1 && sideB rs[K].2) = true := by rw [S1.out, S2.out]; rfl
            have HSS := Lib.hid hss
            clear hss
            obtain ⟨fd, hfd⟩ : ∃ fd, findR (rs.take K) rs[K].1 = fd := ⟨_, rfl⟩
            have HFD := Lib.hid hfd
            have hcut := Lib.hid (HAT.out.cut K (by omega))
            clear hfd
            go_wp2_with fail
            refine (may_any n5 A5 c5 rs[K].1 w3.heap.size _ E1.out (E4.out.below (HBA.out _) (Nat.le_refl _)) M1.out _ S1.out).mono ?_
            rintro en w5 ⟨rfl, rfl⟩
            go_wp2_with fail
            refine (may_any n6 A6 c6 rs[K].2 w3.heap.size _ F1.out (F4.out.below (HBA.out _) (Nat.le_refl _)) M2.out _ S2.out).mono ?_
            rintro en w5 ⟨rfl, rfl⟩
            go_wp2_with fail
            obtain ⟨W, hW⟩ : ∃ W, W = wr.alloc (.cells #[.slice A5 n5 c5, .slice A6 n6 c6] 28) := ⟨_, rfl⟩
            have q0 : W.cell? ⟨wr.heap.size, 0, none⟩ = some (.slice A5 n5 c5) := by rw [hW]; exact World.cell?_alloc_new (w := wr) _ _ 0
            have hbW : Below wr.heap.size wr W := by rw [hW]; exact (Below.refl _ _).alloc (Nat.le_refl _) _
            have hsW : wr.heap.size < W.heap.size := by rw [hW]; simp
            rw [← hW]
            have HW := Lib.hid hW
            clear hW
            refine wp_region_mixe (G := SameB wr.heap.size) [(0, false), (1, false), (2, false), (3, false), (4, false), (5, true), (6, false)]
              (SameB.refl _) (SameB.trans _) (by kernel_rfl) rfl (by kernel_rfl) (by kernel_rfl) ?_
            iterate 4 (refine mixe_one rfl rfl ?_; go_big_quiet_step ((intro _; rfl)); refine wpQuiet_nil ?_)
            refine mixe_one rfl rfl ?_
            go_big_quiet_step ((intro hh; rw [hh.cell, World.cell?_drew, q0]; exact ⟨rfl, rfl⟩))
            refine wpQuiet_nil ?_
            refine mixe_call rfl ?_
            go_wp2_with fail
            have hbD : Below wr.heap.size wr W.drew := hbW.drew
            refine (find_law _ _ (some ⟨b, o, none⟩) A5 c3 c5 (rs.take K) rs[K].1 w3.heap.size w3.heap.size _ (hcut.out.below (hbr.trans (hbD.mono hsr)) (Nat.le_refl _)) E1.out (E4.out.below (hbD.mono hsr) (Nat.le_refl _)) e2 M3.out (by show w3.heap.size ≤ W.heap.size; omega) (by show w3.heap.size ≤ W.heap.size; omega) fd HFD.out).mono ?_
            rintro en w6 ⟨rfl, hb6⟩
            have hbE := hbr.trans ((hbD.trans (hb6.mono (by show wr.heap.size ≤ W.heap.size; omega))).mono hsr)
            go_wp2_with fail
            refine ⟨SameB.of hb6 (by show wr.heap.size < W.heap.size; omega), ?_⟩
            refine mixe_one rfl rfl ?_
            go_big_quiet_step ((intro _; rfl))
            refine wpQuiet_nil ?_
            refine NoPanic.normal ?_
            by_cases hfd0 : 0 ≤ fd
            · obtain ⟨rfl, rfl⟩ := check_two hf.out hK1 hl2 HSS.out (by rw [HFD.out]; exact hfd0)
              go_wp2
              go_ret
              exact ⟨by simp, hb.trans (hbE.mono hs)⟩
            · have HE := Lib.hid (check_next hf.out hK1 hl2 HSS.out (by rw [HFD.out]; exact hfd0))
              go_wp2
              go_roundw
              case rel => exact ⟨K + 1, by omega, by go_num, hbE, HE⟩
              case measure => simp [intOf]; omega
end Go.Proofs.Ytaljkdljinkemaa
