/- Layer 9: the law's Letter. -/
import Derived.Test.YtgjmclbcmfkhdaaDoorVietR
namespace Go.Proofs.YtgjmclbcmfkhdaaDoor
set_option linter.unusedVariables false
set_option linter.unusedSimpArgs false
set_option linter.unnecessarySimpa false
open Go.RowKit
attribute [local go_sem] run_store_complex

/-- what Letter answers -/
def letR (n : Int) : Value := if 0 ≤ n ∧ n < 148 then .tuple #[.agg (letV n.toNat), .int .i64 (LS n.toNat), .bool true] else .tuple #[.agg noV, .int .i64 0, .bool false]
theorem letR_at (k : Nat) (h : k < 148) : letR (k : Int) = .tuple #[.agg (letV k), .int .i64 (LS k), .bool true] := by
  unfold letR; rw [if_pos (by omega)]; rfl
theorem letR_out (n : Int) (h : ¬ (0 ≤ n ∧ n < 148)) : letR n = .tuple #[.agg noV, .int .i64 0, .bool false] := by unfold letR; rw [if_neg h]
theorem lawTab_at (p R : Nat) (hR : R < 14) : (lawTab p)[R * 3]? = some (.int .i64 (vrow R).1) ∧ (lawTab p)[R * 3 + 1]? = some (.int .i64 ((vrow R).2.1 : Int)) ∧ (lawTab p)[R * 3 + 2]? = some (.slice (some ⟨p + R, 0, none⟩) (vrow R).2.2.length (vrow R).2.2.length) := by
  match R, hR with
  | 0, _ => exact ⟨rfl, rfl, rfl⟩
  | 1, _ => exact ⟨rfl, rfl, rfl⟩
  | 2, _ => exact ⟨rfl, rfl, rfl⟩
  | 3, _ => exact ⟨rfl, rfl, rfl⟩
  | 4, _ => exact ⟨rfl, rfl, rfl⟩
  | 5, _ => exact ⟨rfl, rfl, rfl⟩
  | 6, _ => exact ⟨rfl, rfl, rfl⟩
  | 7, _ => exact ⟨rfl, rfl, rfl⟩
  | 8, _ => exact ⟨rfl, rfl, rfl⟩
  | 9, _ => exact ⟨rfl, rfl, rfl⟩
  | 10, _ => exact ⟨rfl, rfl, rfl⟩
  | 11, _ => exact ⟨rfl, rfl, rfl⟩
  | 12, _ => exact ⟨rfl, rfl, rfl⟩
  | 13, _ => exact ⟨rfl, rfl, rfl⟩
theorem row_small (R : Nat) (h : R < 14) : 97 ≤ (vrow R).1 ∧ (vrow R).1 ≤ 121 := by
  have := all_range (show (List.range 14).all (fun R => decide (97 ≤ (vrow R).1 ∧ (vrow R).1 ≤ 121)) = true by decide +kernel) R h
  exact of_decide_eq_true this

set_option maxHeartbeats 8000000 in
theorem letter_any (n : Int) (w : World) : Calls Tryd.prog 10 #[.int .i64 n] w fun e w' => e = .returned (letR n) ∧ Below w.heap.size w w' := by
  go_enter Tryd.func10, Tryd.ntmps10
  go_wp2_with fail
  have hq0 : Held (w.alloc (.cells #[.int .i64 0, .complex .f64 0 0] 26)) w.heap.size #[.int .i64 0, .complex .f64 0 0] 26 := Held.new w _ _
  have hb0 : Below w.heap.size w (w.alloc (.cells #[.int .i64 0, .complex .f64 0 0] 26)) := (Below.refl _ w).alloc (Nat.le_refl _) _
  obtain ⟨p, hp⟩ : ∃ p, w.heap.size = p := ⟨_, rfl⟩
  rw [hp] at hq0 ⊢
  have hpl : p ≤ w.heap.size := by omega
  have hpl2 : w.heap.size ≤ p := by omega
  have HB0 := Lib.hid (show Below p w (w.alloc (.cells #[.int .i64 0, .complex .f64 0 0] 26)) by rw [← hp]; exact hb0)
  clear hb0 hp
  go_loopw [5, 6] (fun k g wr => ∃ G : Nat, G ≤ 2 ∧ g = .int .i64 G ∧ k = .int .i64 ((74 * G : Nat) : Int) ∧ Hid (¬ (0 ≤ n ∧ n < 74 * G)) ∧ Hid (Held wr p #[.int .i64 0, .complex .f64 0 0] 26) ∧ Hid (Below p w wr)) (fun _ g _ => 2 - (intOf g).toNat)
  case atStart => exact ⟨0, by omega, rfl, rfl, Lib.hid (by omega), Lib.hid hq0, HB0⟩
  case round =>
    obtain ⟨G, hG, rfl, rfl, hnf, HQ, HB⟩ := hrel
    clear hq0 HB0
    by_cases hG2 : G = 2
    · subst hG2
      have f0 := HQ.out.frozen 0
      have f1 := HQ.out.frozen 1
      have c0 := HQ.out.cell 0
      have c1 := HQ.out.cell 1
      go_wp2
      have hF := HQ.out.set2 (.int .i64 0) (.complex .f64 0 0)
      exact letter_ret2 rfl rfl hF rfl rfl rfl rfl ⟨by rw [letR_out n (by have := hnf.out; omega)]; rfl, ((HB.out.setCell (p := ⟨p, 0, none⟩) (by simp) _).setCell (p := ⟨p, 1, none⟩) (by simp) _).mono hpl2⟩
    have hG' : G < 2 := by omega
    have hGi : (G : Int) < 2 := by omega
    have hpw := HQ.out.lt
    go_wp2_with fail
    refine (lrows_any wr).mono ?_
    rintro e w2 ⟨rfl, hLR, hb2⟩
    obtain ⟨q, hq⟩ : ∃ q, wr.heap.size = q := ⟨_, rfl⟩
    rw [hq] at hLR ⊢
    have HLR := Lib.hid hLR
    have HQ2 := Lib.hid (HQ.out.below hb2 hpw)
    have HB2 := Lib.hid (HB.out.trans (hb2.mono (by omega)))
    have hqw : q + 14 < w2.heap.size := hLR.tab.lt
    have hpq : p < q := by omega
    clear hq hb2 hLR HQ HB hpw
    obtain ⟨wo, rfl⟩ : ∃ wo : World, wo = wr := ⟨_, rfl⟩
    go_wp2_with fail
    go_loopw [5, 18] (fun k i wi => ∃ R : Nat, R ≤ 14 ∧ i = .int .i64 R ∧ k = .int .i64 ((74 * G + voff R : Nat) : Int) ∧ Hid (¬ (0 ≤ n ∧ n < 74 * G + voff R)) ∧ Hid (LawRows wi q) ∧ Hid (Held wi p #[.int .i64 0, .complex .f64 0 0] 26) ∧ Hid (Below p w wi) ∧ q + 14 < wi.heap.size) (fun _ i _ => 14 - (intOf i).toNat)
    case atStart => exact ⟨0, by omega, rfl, rfl, hnf, HLR, HQ2, HB2, hqw⟩
    case round =>
      clear HLR HQ2 HB2 hqw
      obtain ⟨R, hR, rfl, rfl, hnf2, HLR, HQ, HB, hqw⟩ := hrel
      by_cases hR14 : R = 14
      · subst hR14
        have e14 : 74 * G + voff 14 = 74 * (G + 1) := by rw [voff_last]; omega
        rw [e14]
        have hnf3 : Hid (¬ (0 ≤ n ∧ n < 74 * (G + 1 : Nat))) := Lib.hid (by have := hnf2.out; rw [voff_last] at this; omega)
        clear e14 hnf2
        go_wp2
        go_roundw
        case rel => exact ⟨G + 1, by omega, by go_num, rfl, hnf3, HQ, HB⟩
        case measure => simp [intOf]; omega
      have hR' : R < 14 := by omega
      have hRi : (R : Int) < 14 := by omega
      have hRi0 : (0 : Int) ≤ R := by omega
      obtain ⟨t0, t1, t2⟩ := lawTab_at q R hR'
      have hlen := vrow_len R hR'
      have hsm := row_small R hR'
      have hrow := HLR.out.row R hR'
      have hsu := voff_succ R hR'
      have hlet := fun T hT => letter_row R T hR' hT
      have hletG := fun T hT => letter_rowG R T hR' hT
      obtain ⟨b, hb⟩ : ∃ b, (vrow R).1 = b := ⟨_, rfl⟩
      obtain ⟨m, hm⟩ : ∃ m, (vrow R).2.1 = m := ⟨_, rfl⟩
      obtain ⟨ss, hss⟩ : ∃ ss, (vrow R).2.2 = ss := ⟨_, rfl⟩
      simp only [hb, hm, hss] at t0 t1 t2 hlen hsm hrow hsu hlet hletG
      obtain ⟨L, hL⟩ : ∃ L, ss.length = L := ⟨_, rfl⟩
      rw [hL] at t2 hlen hsu
      have hLr := Lib.hid hL
      have c0 : wr.cell? ⟨q + 14, R * 3, none⟩ = some (.int .i64 b) := (HLR.out.tab.cell _).trans t0
      have c1 : wr.cell? ⟨q + 14, R * 3 + 1, none⟩ = some (.int .i64 (m : Int)) := (HLR.out.tab.cell _).trans t1
      have c2 : wr.cell? ⟨q + 14, R * 3 + 2, none⟩ = some (.slice (some ⟨q + R, 0, none⟩) L L) := (HLR.out.tab.cell _).trans t2
      have HLEN := Lib.hid hlen
      have HSM := Lib.hid hsm
      have HROW := Lib.hid hrow
      have HSU := Lib.hid hsu
      have HLET := Lib.hid hlet
      have HLETG := Lib.hid hletG
      have hL6 : L ≤ 6 := hlen.2.1
      clear t0 t1 t2 hlen hsm hrow hsu hlet hletG hb hm hss hL
      go_wp2_with fail
      have hg3 : Held (wr.alloc (.cells #[.int .i64 b, .int .i64 (m : Int), .slice (some ⟨q + R, 0, none⟩) L L] 64)) wr.heap.size #[.int .i64 b, .int .i64 (m : Int), .slice (some ⟨q + R, 0, none⟩) L L] 64 := Held.new wr _ _
      have hb3 : Below wr.heap.size wr (wr.alloc (.cells #[.int .i64 b, .int .i64 (m : Int), .slice (some ⟨q + R, 0, none⟩) L L] 64)) := (Below.refl _ wr).alloc (Nat.le_refl _) _
      obtain ⟨W3, hW3⟩ : ∃ W3, wr.alloc (.cells #[.int .i64 b, .int .i64 (m : Int), .slice (some ⟨q + R, 0, none⟩) L L] 64) = W3 := ⟨_, rfl⟩
      obtain ⟨g, hg⟩ : ∃ g, wr.heap.size = g := ⟨_, rfl⟩
      have hwr := HB.out.size
      rw [hW3] at hg3 hb3 ⊢
      have HLR3 := Lib.hid (HLR.out.below hb3 hqw)
      have HQ3 := Lib.hid (HQ.out.below hb3 HQ.out.lt)
      have HB3 := Lib.hid (HB.out.trans (hb3.mono (by have := HQ.out.lt; omega)))
      have hqw3 : q + 14 < W3.heap.size := by have := hb3.size; omega
      have HROW3 := Lib.hid (HROW.out.below hb3 (by omega))
      rw [hg] at hg3 ⊢
      have d0 := hg3.cell 0
      have d1 := hg3.cell 1
      clear hW3 hg hb3 hg3 hwr HLR HQ HB hqw HROW c0 c1 c2
      clear wr
      go_loopw [5, 25] (fun k i wi => ∃ T : Nat, T ≤ L ∧ i = .int .i64 T ∧ k = .int .i64 ((74 * G + voff R + T : Nat) : Int) ∧ Hid (¬ (0 ≤ n ∧ n < 74 * G + voff R + T)) ∧ wi = W3) (fun _ i _ => L - (intOf i).toNat)
      case atStart => exact ⟨0, by omega, rfl, rfl, hnf2, rfl⟩
      case round =>
        obtain ⟨T, hT, rfl, rfl, hnf3, rfl⟩ := hrel
        by_cases hTL : T = L
        · subst hTL
          have e14 : 74 * G + voff R + T = 74 * G + voff (R + 1) := by rw [HSU.out]; omega
          rw [e14]
          have hnf4 : Hid (¬ (0 ≤ n ∧ n < 74 * G + voff (R + 1))) := Lib.hid (by have h1 := hnf3.out; have h2 := HSU.out; omega)
          clear e14 hnf2 hnf3
          go_wp2
          go_roundw
          case rel => exact ⟨R + 1, by omega, by go_num, rfl, hnf4, HLR3, HQ3, HB3, hqw3⟩
          case measure => simp [intOf]; omega
        have hT' : T < L := by omega
        have hTi : (T : Int) < L := by omega
        have hTi0 : (0 : Int) ≤ T := by omega
        have hKl := HLEN.out.2.2
        have cT : wr.cell? ⟨q + R, T, none⟩ = some (.int .i64 (ss.getD T 0)) := by
          rw [HROW3.out.cell]
          have h : T < ss.length := by rw [hLr.out]; exact hT'
          simp [h]
        obtain ⟨l1, l2, l3, l4⟩ := HLET.out T (by rw [hLr.out]; exact hT')
        obtain ⟨g1, g2, g3, g4⟩ := HLETG.out T (by rw [hLr.out]; exact hT')
        obtain ⟨s, hs⟩ : ∃ s, ss.getD T 0 = s := ⟨_, rfl⟩
        rw [hs] at cT l4 g4
        have hs0 := letter_small (voff R + T) (by omega)
        rw [l4] at hs0
        obtain ⟨b0, b1⟩ := HSM.out
        have f0 := HQ3.out.frozen 0
        have f1 := HQ3.out.frozen 1
        have r0 := HQ3.out.cell 0
        have r1 := HQ3.out.cell 1
        by_cases hn : n = ((74 * G + voff R + T : Nat) : Int)
        · -- here it is
          have hres : letR n = .tuple #[.agg (letV (74 * G + voff R + T)), .int .i64 (LS (74 * G + voff R + T)), .bool true] := by rw [hn]; exact letR_at _ (by omega)
          have UP := fun s h0 h1 W => lupper_any s W h0 h1
          have UB := Lib.hid (UP b (by omega) (by omega))
          have US := Lib.hid (UP s (by omega) (by omega))
          have hbeq : (((74 * G + voff R + T : Nat) : Int) == n) = true := by rw [hn]; simp
          clear UP hn hnf hnf2 hnf3 hs
          rcases (show G = 0 ∨ G = 1 by omega) with rfl | rfl
          · have HV := Lib.hid (show letV (74 * 0 + voff R + T) = #[.int .i64 b, .complex .f64 (fl m) (fl T)] by unfold letV; rw [show 74 * 0 + voff R + T = voff R + T by omega, l1, l2, l3])
            have HL := Lib.hid (show LS (74 * 0 + voff R + T) = s by rw [show 74 * 0 + voff R + T = voff R + T by omega, l4])
            have HRES := Lib.hid hres
            clear hres l1 l2 l3 l4 g1 g2 g3 g4 hs0
            obtain ⟨K, hK⟩ : ∃ K : Nat, 74 * 0 + voff R + T = K := ⟨_, rfl⟩
            rw [hK] at hbeq HV HL HRES ⊢
            clear hK
            go_wp2
            have hF : Held _ p #[.int .i64 b, .complex .f64 (fl m) (fl T)] 26 := HQ3.out.set2 (.int .i64 b) (.complex .f64 (fl m) (fl T))
            exact letter_ret2 rfl rfl hF rfl rfl rfl rfl ⟨by rw [HRES.out, HV.out, HL.out]; rfl, ((HB3.out.setCell (p := ⟨p, 0, none⟩) (by simp) _).setCell (p := ⟨p, 1, none⟩) (by simp) _).mono hpl2⟩
          · have HV := Lib.hid (show letV (74 * 1 + voff R + T) = #[.int .i64 (upI b), .complex .f64 (fl m) (fl T)] by unfold letV; rw [show 74 * 1 + voff R + T = 74 + voff R + T by omega, g1, g2, g3])
            have HL := Lib.hid (show LS (74 * 1 + voff R + T) = upI s by rw [show 74 * 1 + voff R + T = 74 + voff R + T by omega, g4])
            have HRES := Lib.hid hres
            clear hres l1 l2 l3 l4 g1 g2 g3 g4 hs0
            obtain ⟨K, hK⟩ : ∃ K : Nat, 74 * 1 + voff R + T = K := ⟨_, rfl⟩
            rw [hK] at hbeq HV HL HRES ⊢
            clear hK
            obtain ⟨ub, hub⟩ : ∃ v, upI b = v := ⟨_, rfl⟩
            obtain ⟨us, hus⟩ : ∃ v, upI s = v := ⟨_, rfl⟩
            rw [hub] at UB HV
            rw [hus] at US HL
            clear hub hus
            go_wp2_with fail
            refine (UB.out _).mono ?_
            rintro e w9 ⟨rfl, h⟩
            subst h
            go_wp2_with fail
            refine (US.out _).mono ?_
            rintro e w9 ⟨rfl, h⟩
            subst h
            go_wp2
            have hF : Held _ p #[.int .i64 ub, .complex .f64 (fl m) (fl T)] 26 := HQ3.out.set2 (.int .i64 ub) (.complex .f64 (fl m) (fl T))
            exact letter_ret2 rfl rfl hF rfl rfl rfl rfl ⟨by rw [HRES.out, HV.out, HL.out]; rfl, ((HB3.out.setCell (p := ⟨p, 0, none⟩) (by simp) _).setCell (p := ⟨p, 1, none⟩) (by simp) _).mono hpl2⟩
        · have hbeq : (((74 * G + voff R + T : Nat) : Int) == n) = false := by
            cases h : (((74 * G + voff R + T : Nat) : Int) == n) with
            | false => rfl
            | true => exact absurd (eq_of_beq h).symm hn
          have hnf4 : Hid (¬ (0 ≤ n ∧ n < 74 * G + voff R + (T + 1 : Nat))) := Lib.hid (by have h1 := hnf3.out; omega)
          clear hn hnf hnf2 hnf3 hs l1 l2 l3 l4 g1 g2 g3 g4 hs0 f0 f1 r0 r1
          have hkw : IntKind.i64.wrap (((74 * G + voff R + T : Nat) : Int) + 1) = ((74 * G + voff R + (T + 1) : Nat) : Int) := by rw [IntKind.wrap_i64]; omega
          obtain ⟨K, hK⟩ : ∃ K : Nat, 74 * G + voff R + T = K := ⟨_, rfl⟩
          obtain ⟨K', hK'⟩ : ∃ K' : Nat, 74 * G + voff R + (T + 1) = K' := ⟨_, rfl⟩
          rw [hK, hK'] at hkw
          rw [hK] at hbeq ⊢
          have HK' := Lib.hid hK'
          clear hK hK'
          go_wp2
          go_roundw
          case rel => exact ⟨T + 1, by omega, by go_num, by rw [HK'.out], hnf4, by trivial⟩
          case measure => simp [intOf]; omega
end Go.Proofs.YtgjmclbcmfkhdaaDoor
