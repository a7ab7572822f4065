/- Texts of this seat, one behind the other: InE, InF. -/
import Derived.Test.YtdkcadckbjncjaaDoorZ20
import Derived.Test.YtdkcadckbjncjaaDoorZ21
namespace Go.Proofs.YtdkcadckbjncjaaDoor
set_option linter.unusedVariables false
set_option linter.unusedSimpArgs false
set_option linter.unnecessarySimpa false
open Go.RowKit

set_option maxRecDepth 100000 in
set_option maxHeartbeats 1600000 in
theorem add_any (P : Nat) (acc : List Rl) (p q : Value) (r : Rl) (w : World) (h : AddSt P w acc) (hp : Us (IntB w) w p r.1) (hq : Us (IntB w) w q r.2) (hsz : acc.length ≤ 1048576) :
    Calls Tryd.prog 46 #[p, q, .pointer (some ⟨P, 0, none⟩)] w fun e w' => e = .returned (.tuple #[]) ∧ AddSt P w' (acc ++ [r]) ∧ Below P w w' ∧
      (∀ (b : Nat) (cs : Array Value) (t : TypeId), t ≠ 75 → t ≠ 57 → w.heap[b]? = some (.cells cs t (0, 0)) → w'.heap[b]? = some (.cells cs t (0, 0))) := by
  obtain ⟨v, xs, hB, ho, hx⟩ := h
  obtain ⟨A, c, rfl, -, -⟩ := own_form ho
  have HP := Lib.hid hp
  have HQ := Lib.hid hq
  have hpo := hp.one
  have hqo := hq.one
  obtain ⟨Ap, cp, ep, -⟩ := hp
  obtain ⟨Aq, cq, eq, -⟩ := hq
  obtain ⟨lp, hlp⟩ : ∃ n, r.1.length = n := ⟨_, rfl⟩
  obtain ⟨lq, hlq⟩ : ∃ n, r.2.length = n := ⟨_, rfl⟩
  rw [hlp] at ep
  rw [hlq] at eq
  subst ep eq
  have cB := hB.cell
  have hle : P ≤ w.heap.size := Nat.le_of_lt hB.lt
  have HB := Lib.hid hB
  have HO := Lib.hid ho
  have HX := Lib.hid hx
  have HSZ := Lib.hid hsz
  obtain ⟨k, hk⟩ : ∃ k, acc.length = k := ⟨_, rfl⟩
  rw [hk] at cB HB HO HSZ
  have HK := Lib.hid hk
  clear hB ho hx hlp hlq hk hsz
  go_enter Tryd.func46, Tryd.ntmps46
  go_wp2_with (at_builtin; refine wpList_appBx rfl _ _ rfl P (.slice A k c) k xs (.slice Ap lp cp) (.slice Aq lq cq) rfl HO.out hpo hqo w.heap.size rfl rfl HSZ.out hle ?_)
  intro v' w1 HN HG
  obtain ⟨g1, g2, g3, g4, g5⟩ := HB.out.appended (by decide) HO.out hle (Nat.le_refl _) HN.out HG.out
  obtain ⟨g, cap, rfl⟩ := ownsRow_succ HN.out
  have c1 := g1.cell
  have f1 := g1.frozen
  have HR := Lib.hid (add_keep HB.out HO.out HG.out (.slice (some ⟨g, 0, none⟩) (k + 1) cap))
  have G2 := Lib.hid g2
  have G3 := Lib.hid g3
  have G5 := Lib.hid g5
  clear g1 g2 g3 g4 g5
  go_wp2
  go_end0
  have hst : ∀ b, b < w.heap.size → IntB w b → IntB (w1.setCell ⟨P, 0, none⟩ (.slice (some ⟨g, 0, none⟩) (k + 1) cap)) b ∧ (w1.setCell ⟨P, 0, none⟩ (.slice (some ⟨g, 0, none⟩) (k + 1) cap)).heap[b]? = w.heap[b]? := by
    intro b hb hi
    obtain ⟨cs, hc⟩ := hi
    have := HR.out b cs _ (by decide) (by decide) hc
    exact ⟨⟨cs, this⟩, this.trans hc.symm⟩
  have hsz2 : w.heap.size ≤ (w1.setCell ⟨P, 0, none⟩ (.slice (some ⟨g, 0, none⟩) (k + 1) cap)).heap.size := G5.out.size
  refine ⟨rfl, ⟨_, _, G2.out, ?_, (HX.out.step hsz2 hst).app (Rls.one (HP.out.step hsz2 hst) (HQ.out.step hsz2 hst))⟩, G5.out, HR.out⟩
  rw [List.length_append, HK.out]
  exact G3.out
theorem add_lits (P : Nat) (acc : List Rl) (w : World) (I O : List Int) (csI csO : Array Value) (n m N : Nat) (h : AddSt P w acc) (hN : w.heap.size = N)
    (hI : csI.toList = I.map (Value.int .i64)) (hO : csO.toList = O.map (Value.int .i64)) (hn : n = I.length) (hm : m = O.length) (hnl : n ≤ maxLen) (hml : m ≤ maxLen) (hsz : acc.length ≤ 1048576) :
    Calls Tryd.prog 46 #[.slice (some ⟨N, 0, none⟩) n n, .slice (some ⟨N + 1, 0, none⟩) m m, .pointer (some ⟨P, 0, none⟩)] ((w.alloc (.cells csI 3)).alloc (.cells csO 3)) fun e w' =>
      e = .returned (.tuple #[]) ∧ Hid (AddSt P w' (acc ++ [(I, O)])) ∧ Hid (Below P w w') ∧
      Hid (∀ (b : Nat) (cs : Array Value) (t : TypeId), t ≠ 75 → t ≠ 57 → w.heap[b]? = some (.cells cs t (0, 0)) → w'.heap[b]? = some (.cells cs t (0, 0))) := by
  have hP : P ≤ w.heap.size := by obtain ⟨v, xs, h1, _⟩ := h; exact Nat.le_of_lt h1.lt
  have hb1 : Below w.heap.size w (w.alloc (.cells csI 3)) := (Below.refl _ _).alloc (Nat.le_refl _) _
  have hb2 : Below w.heap.size w ((w.alloc (.cells csI 3)).alloc (.cells csO 3)) := hb1.alloc (by simp) _
  have i1 : ((w.alloc (.cells csI 3)).alloc (.cells csO 3)).heap[w.heap.size]? = some (.cells csI 3 (0, 0)) := (Held.new w csI 3).alloc _
  have i2 : ((w.alloc (.cells csI 3)).alloc (.cells csO 3)).heap[w.heap.size + 1]? = some (.cells csO 3 (0, 0)) := by
    have := Held.new (w.alloc (.cells csI 3)) csO 3
    simpa [Held] using this
  refine (add_any P acc _ _ (I, O) _ (h.below hb2) ?_ ?_ hsz).mono ?_
  · exact (us_newL w N hN I csI hI n hn hnl).up _ fun b _ hb => ⟨csI, by rw [hb, ← hN]; exact i1⟩
  · exact (us_newL (w.alloc (.cells csI 3)) (N + 1) (by simp [hN]) O csO hO m hm hml).step (Nat.le_refl _) fun b _ hb => ⟨⟨csO, by rw [hb, ← hN]; exact i2⟩, rfl⟩
  · rintro e w' ⟨rfl, h1, h2, h3⟩
    refine ⟨rfl, Lib.hid h1, Lib.hid ((hb2.mono hP).trans h2), Lib.hid fun b cs t ht ht' hb => h3 b cs t ht ht' ((hb2.block b (Array.getElem?_eq_some_iff.1 hb).1).trans hb)⟩
end Go.Proofs.YtdkcadckbjncjaaDoor
namespace Go.Proofs.YtdkcadckbjncjaaDoor
set_option linter.unusedVariables false
set_option linter.unusedSimpArgs false
set_option linter.unnecessarySimpa false
open Go.RowKit
theorem inS_parts : (((((((inR.take 233 ++ [([0xd9], [0x400d])]) ++ [([0xea], [0x2964])]) ++ [([0xea, 0xe9], [0x3d])]) ++ [([0xe8, 0xe8], [0x4d, 0x400c])]) ++ [([0xe8, 0xe9], [0x4d, 0x400d])]) ++ [([0xf0, 0xb8], [0x52])]) ++ [([0xf0, 0xbf], [0x70])]) = inR := by
  have h := inR_last
  simp only [inS] at h
  simp only [List.append_assoc, List.cons_append, List.nil_append]
  exact h
set_option maxRecDepth 100000 in
set_option maxHeartbeats 6400000 in
theorem lrules_any (w : World) :
    Calls Tryd.prog 31 #[] w fun e w' => ∃ v, e = .returned v ∧ OwnRs w.heap.size w' v inR ∧ Below w.heap.size w w' := by
  have hmf : ∀ (fn : Fn) (first cap : Array Value) (w : World), (Instr.makeFunc fn first cap).run Tryd.prog w = .ok (.func fn first cap) w := fun _ _ _ _ => rfl
  have HP0 := Lib.hid (AddSt.new w w.heap.size rfl)
  have HB0 := Lib.hid (below_alloc14 w (.cells #[.slice none 0 0] 57))
  obtain ⟨P, hP⟩ : ∃ P, w.heap.size = P := ⟨_, rfl⟩
  rw [hP] at HP0 HB0 ⊢
  go_enter Tryd.func31, Tryd.ntmps31
  go_wp2_with fail
  clear hP
  go_loopw [3] (fun i wr => ∃ C : Nat, C ≤ 128 ∧ i = .int .i64 C ∧ Hid (AddSt P wr (inR.take C)) ∧ Hid (Below P w wr)) (fun i _ => 128 - (intOf i).toNat)
  case atStart => exact ⟨0, by omega, rfl, HP0, HB0⟩
  case round =>
    clear HP0 HB0
    obtain ⟨C, hC, rfl, ho, hb⟩ := hrel
    by_cases hCn : C = 128
    · subst hCn
      obtain ⟨w1, rfl⟩ : ∃ w1 : World, w1 = wr := ⟨_, rfl⟩
      rw [← inA_first] at ho
      rw [show ((128 : Nat) : Int) = 128 from rfl]
      go_wp2_with fail
      go_loopw [4] (fun i wr => ∃ K : Nat, 161 ≤ K ∧ K ≤ 256 ∧ i = .int .i64 K ∧ Hid (AddSt P wr (inR.take (inA K))) ∧ Hid (Below P w wr)) (fun i _ => 256 - (intOf i).toNat)
      case atStart => exact ⟨161, by omega, by omega, rfl, ho, hb⟩
      case round =>
        clear ho hb
        obtain ⟨K, hK1, hK, rfl, ho, hb⟩ := hrel
        by_cases hKn : K = 256
        · subst hKn
          obtain ⟨w2, rfl⟩ : ∃ w2 : World, w2 = wr := ⟨_, rfl⟩
          rw [inA_all] at ho
          rw [show ((256 : Nat) : Int) = 256 from rfl]
          clear hK1
          go_wp2_with fail
          refine (lnukta_any w2).mono ?_
          rintro e w3 ⟨rfl, rfl⟩
          have HQ := Lib.hid (Held.new w2 nkTab 81)
          have ho3 := Lib.hid (ho.out.below (below_alloc14 w2 (.cells nkTab 81)))
          have hpl : P ≤ w2.heap.size := by obtain ⟨v, xs, h1, _⟩ := ho.out; exact Nat.le_of_lt h1.lt
          have hb3 := Lib.hid (hb.out.trans ((below_alloc14 w2 (.cells nkTab 81)).mono hpl))
          obtain ⟨W3, hW3⟩ : ∃ W3, w2.alloc (.cells nkTab 81) = W3 := ⟨_, rfl⟩
          obtain ⟨M, hM⟩ : ∃ M, w2.heap.size = M := ⟨_, rfl⟩
          rw [hW3] at HQ ho3 hb3 ⊢
          rw [hM] at HQ ⊢
          clear ho hb hW3 hM hpl w2
          go_wp2_with fail
          go_loopw [42] (fun i wr => ∃ J : Nat, J ≤ 14 ∧ i = .int .i64 J ∧ Hid (AddSt P wr (inR.take (210 + J))) ∧ Hid (Below P w wr) ∧ Hid (Held wr M nkTab 81)) (fun i _ => 14 - (intOf i).toNat)
          case atStart => exact ⟨0, by omega, rfl, ho3, hb3, HQ⟩
          case round =>
            clear ho3 hb3 HQ
            obtain ⟨J, hJ, rfl, ho, hb, hq⟩ := hrel
            by_cases hJn : J = 14
            · subst hJn
              obtain ⟨w4, rfl⟩ : ∃ w4 : World, w4 = wr := ⟨_, rfl⟩
              rw [show ((14 : Nat) : Int) = 14 from rfl]
              clear hq
              go_wp2_with fail
              refine (lcodes_any w4).mono ?_
              rintro e w5 ⟨rfl, rfl⟩
              have HQ := Lib.hid (Held.new w4 cdTab 3)
              have ho3 := Lib.hid (ho.out.below (below_alloc14 w4 (.cells cdTab 3)))
              have hpl : P ≤ w4.heap.size := by obtain ⟨v, xs, h1, _⟩ := ho.out; exact Nat.le_of_lt h1.lt
              have hb3 := Lib.hid (hb.out.trans ((below_alloc14 w4 (.cells cdTab 3)).mono hpl))
              obtain ⟨W5, hW5⟩ : ∃ W5, w4.alloc (.cells cdTab 3) = W5 := ⟨_, rfl⟩
              obtain ⟨R, hR⟩ : ∃ R, w4.heap.size = R := ⟨_, rfl⟩
              rw [hW5] at HQ ho3 hb3 ⊢
              rw [hR] at HQ ⊢
              clear ho hb hW5 hR hpl w4
              go_wp2_with fail
              go_loopw [57] (fun i wr => ∃ S : Nat, S ≤ 9 ∧ i = .int .i64 S ∧ Hid (AddSt P wr (inR.take (224 + S))) ∧ Hid (Below P w wr) ∧ Hid (Held wr R cdTab 3)) (fun i _ => 9 - (intOf i).toNat)
              case atStart => exact ⟨0, by omega, rfl, ho3, hb3, HQ⟩
              case round =>
                clear ho3 hb3 HQ
                obtain ⟨S, hS, rfl, ho, hb, hq⟩ := hrel
                by_cases hSn : S = 9
                · subst hSn
                  rw [show 224 + 9 = 233 from rfl] at ho
                  obtain ⟨w6, rfl⟩ : ∃ w6 : World, w6 = wr := ⟨_, rfl⟩
                  clear hq
                  have hal := inR_takeLen 233 (by omega)
                  have HL := Lib.hid inS_parts
                  obtain ⟨acc, hacc⟩ : ∃ acc, inR.take 233 = acc := ⟨_, rfl⟩
                  rw [hacc] at HL hal ho
                  have HAL := Lib.hid hal
                  clear hal hacc
                  go_wp2_with fail
                  refine (add_lits P _ w6 [217] [16397] _ _ 1 1 w6.heap.size ho.out rfl rfl rfl rfl rfl (by decide) (by decide) (by simp [HAL.out])).mono ?_
                  rintro e x0 ⟨rfl, ho0, hb0', -⟩
                  have hb0 := Lib.hid (hb.out.trans hb0'.out)
                  clear ho hb hb0'
                  go_wp2_with fail
                  refine (add_lits P _ x0 [234] [10596] _ _ 1 1 x0.heap.size ho0.out rfl rfl rfl rfl rfl (by decide) (by decide) (by simp [HAL.out])).mono ?_
                  rintro e x1 ⟨rfl, ho1, hb1', -⟩
                  have hb1 := Lib.hid (hb0.out.trans hb1'.out)
                  clear ho0 hb0 hb1'
                  go_wp2_with fail
                  refine (add_lits P _ x1 [234, 233] [61] _ _ 2 1 x1.heap.size ho1.out rfl rfl rfl rfl rfl (by decide) (by decide) (by simp [HAL.out])).mono ?_
                  rintro e x2 ⟨rfl, ho2, hb2', -⟩
                  have hb2 := Lib.hid (hb1.out.trans hb2'.out)
                  clear ho1 hb1 hb2'
                  go_wp2_with fail
                  refine (add_lits P _ x2 [232, 232] [77, 16396] _ _ 2 2 x2.heap.size ho2.out rfl rfl rfl rfl rfl (by decide) (by decide) (by simp [HAL.out])).mono ?_
                  rintro e x3 ⟨rfl, ho3, hb3', -⟩
                  have hb3 := Lib.hid (hb2.out.trans hb3'.out)
                  clear ho2 hb2 hb3'
                  go_wp2_with fail
                  refine (add_lits P _ x3 [232, 233] [77, 16397] _ _ 2 2 x3.heap.size ho3.out rfl rfl rfl rfl rfl (by decide) (by decide) (by simp [HAL.out])).mono ?_
                  rintro e x4 ⟨rfl, ho4, hb4', -⟩
                  have hb4 := Lib.hid (hb3.out.trans hb4'.out)
                  clear ho3 hb3 hb4'
                  go_wp2_with fail
                  refine (add_lits P _ x4 [240, 184] [82] _ _ 2 1 x4.heap.size ho4.out rfl rfl rfl rfl rfl (by decide) (by decide) (by simp [HAL.out])).mono ?_
                  rintro e x5 ⟨rfl, ho5, hb5', -⟩
                  have hb5 := Lib.hid (hb4.out.trans hb5'.out)
                  clear ho4 hb4 hb5'
                  go_wp2_with fail
                  refine (add_lits P _ x5 [240, 191] [112] _ _ 2 1 x5.heap.size ho5.out rfl rfl rfl rfl rfl (by decide) (by decide) (by simp [HAL.out])).mono ?_
                  rintro e x6 ⟨rfl, ho6, hb6', -⟩
                  have hb6 := Lib.hid (hb5.out.trans hb6'.out)
                  clear ho5 hb5 hb6'
                  have HF : Hid (AddSt P x6 inR) := by have := ho6; rwa [HL.out] at this
                  obtain ⟨A, c, hc, hO⟩ := AddSt.own HF.out
                  rw [inR_len] at hc hO
                  have HC := Lib.hid hO
                  clear hO HF ho6
                  go_wp2_with fail
                  go_ret
                  exact ⟨_, rfl, HC.out, hb6.out⟩
                have hS' : S < 9 := by omega
                have k3 : (0 : Int) ≤ S := by omega
                have k4 : (S : Int) < 9 := by omega
                have l0 := (hq.out.cell S).trans (cdTab_at S hS')
                have HS := Lib.hid (inR_cod S hS')
                have hal := inR_takeLen (224 + S) (by omega)
                obtain ⟨acc, hacc⟩ : ∃ acc, inR.take (224 + S) = acc := ⟨_, rfl⟩
                obtain ⟨d, hd⟩ : ∃ d, cdC S = d := ⟨_, rfl⟩
                rw [hacc, hd] at HS
                rw [hacc] at hal ho
                rw [hd] at l0
                have HAL := Lib.hid (show acc.length ≤ 1048576 by omega)
                clear hal hacc hSn hd
                go_wp2_with fail
                refine (add_lits P acc wr [239, d] [4096 + (S : Int)] _ _ 2 1 wr.heap.size ho.out rfl rfl rfl rfl rfl (by decide) (by decide) HAL.out).mono ?_
                rintro e w8 ⟨rfl, HN, HB, HK⟩
                have HN2 : Hid (AddSt P w8 (inR.take (224 + (S + 1)))) := by rw [HS.out]; exact HN
                have HB2 := Lib.hid (hb.out.trans HB.out)
                have HQ2 : Hid (Held w8 R cdTab 3) := Lib.hid (HK.out R _ _ (by decide) (by decide) hq.out)
                clear HN HB HK ho hb hq l0
                go_wp2_with fail
                go_roundw
                case rel => exact ⟨S + 1, by omega, by go_num, HN2, HB2, HQ2⟩
                case measure => simp [intOf]; omega
            have hJ' : J < 14 := by omega
            have k3 : (0 : Int) ≤ J := by omega
            have k4 : (J : Int) < 14 := by omega
            have l0 := (hq.out.cell (J * 2)).trans (nkTab_at J hJ').1
            have l1 := (hq.out.cell (J * 2 + 1)).trans (nkTab_at J hJ').2
            have hMl := hq.out.lt
            have HS := Lib.hid (inR_nuk J hJ')
            have hal := inR_takeLen (210 + J) (by omega)
            obtain ⟨acc, hacc⟩ : ∃ acc, inR.take (210 + J) = acc := ⟨_, rfl⟩
            obtain ⟨b, hbe⟩ : ∃ b, nkB J = b := ⟨_, rfl⟩
            obtain ⟨p, hp⟩ : ∃ p, nkP J = p := ⟨_, rfl⟩
            rw [hacc, hbe, hp] at HS
            rw [hacc] at hal ho
            rw [hbe] at l0
            rw [hp] at l1
            have HAL := Lib.hid (show acc.length ≤ 1048576 by omega)
            have hpl : P ≤ wr.heap.size := by obtain ⟨v, xs, h1, _⟩ := ho.out; exact Nat.le_of_lt h1.lt
            clear hal hacc hJn hbe hp
            have HO8 := Lib.hid (ho.out.below (below_alloc14 wr (.cells #[.int .i64 b, .int .i64 p] 81)))
            have HB8 := Lib.hid (hb.out.trans ((below_alloc14 wr (.cells #[.int .i64 b, .int .i64 p] 81)).mono hpl))
            have HQ8 := Lib.hid (hq.out.alloc (.cells #[.int .i64 b, .int .i64 p] 81))
            have c0 := (Held.new wr #[.int .i64 b, .int .i64 p] 81).cell 0
            have c1 := (Held.new wr #[.int .i64 b, .int .i64 p] 81).cell 1
            clear ho hb hq hpl
            go_wp2_with fail
            refine (add_lits P acc (wr.alloc (.cells #[.int .i64 b, .int .i64 p] 81)) [b, 233] [p] _ _ 2 1 (wr.heap.size + 1) HO8.out (by simp) rfl rfl rfl rfl (by decide) (by decide) HAL.out).mono ?_
            rintro e w8 ⟨rfl, HN, HB, HK⟩
            have HN2 : Hid (AddSt P w8 (inR.take (210 + (J + 1)))) := by rw [HS.out]; exact HN
            have HB2 := Lib.hid (HB8.out.trans HB.out)
            have HQ2 : Hid (Held w8 M nkTab 81) := Lib.hid (HK.out M _ _ (by decide) (by decide) HQ8.out)
            clear HN HB HK HB8 HQ8 HO8 l0 l1 c0 c1
            go_wp2_with fail
            go_roundw
            case rel => exact ⟨J + 1, by omega, by go_num, HN2, HB2, HQ2⟩
            case measure => simp [intOf]; omega
        have hK' : K < 256 := by omega
        have k3 : (0 : Int) ≤ K := by omega
        have k4 : (K : Int) < 256 := by omega
        have k5 : IntKind.u8.wrap (K : Int) = K := by rw [IntKind.wrap_u8]; omega
        have k6 : (K : Int) % 256 = K := by omega
        have hpl : P ≤ wr.heap.size := by obtain ⟨v, xs, h1, _⟩ := ho.out; exact Nat.le_of_lt h1.lt
        have D1 := Lib.hid (lplace_any K wr hK')
        by_cases hp : inP K = 0
        · have HN2 := ho
          rw [← inA_no K hp] at HN2
          rw [hp, show ((0 : Int) != 0) = false from rfl] at D1
          clear ho hp hKn
          go_wp2_with fail
          refine D1.out.mono ?_
          rintro e w8 ⟨rfl, hb8⟩
          have HN3 := Lib.hid (HN2.out.below hb8)
          have HB3 := Lib.hid (hb.out.trans (hb8.mono hpl))
          clear HN2 hb hb8 D1 hpl
          go_wp2_with fail
          go_roundw
          case rel => exact ⟨K + 1, by omega, by omega, by go_num, HN3, HB3⟩
          case measure => simp [intOf]; omega
        · have HS := Lib.hid (inR_more K hK' hp)
          have hal := inR_takeLen (inA K) (by have := inA_le K (by omega); omega)
          have hale := inA_le K (by omega)
          have hpb : (inP K != 0) = true := by simpa using hp
          rw [hpb] at D1
          obtain ⟨acc, hacc⟩ : ∃ acc, inR.take (inA K) = acc := ⟨_, rfl⟩
          obtain ⟨p, hpe⟩ : ∃ p, inP K = p := ⟨_, rfl⟩
          rw [hacc, hpe] at HS
          rw [hacc] at hal ho
          rw [hpe] at D1
          have HAL := Lib.hid (show acc.length ≤ 1048576 by omega)
          clear hal hale hacc hpe hpb hp hKn
          go_wp2_with fail
          refine D1.out.mono ?_
          rintro e w7 ⟨rfl, hb8⟩
          have HO8 := Lib.hid (ho.out.below hb8)
          have HB8 := Lib.hid (hb.out.trans (hb8.mono hpl))
          clear ho hb hb8 D1 hpl
          go_wp2_with fail
          refine (add_lits P acc w7 [(K : Int)] [p] _ _ 1 1 w7.heap.size HO8.out rfl rfl rfl rfl rfl (by decide) (by decide) HAL.out).mono ?_
          rintro e w8 ⟨rfl, HN, HB, HK⟩
          have HN2 : Hid (AddSt P w8 (inR.take (inA (K + 1)))) := by rw [HS.out]; exact HN
          have HB2 := Lib.hid (HB8.out.trans HB.out)
          clear HN HB HK HB8 HO8
          go_wp2_with fail
          go_roundw
          case rel => exact ⟨K + 1, by omega, by omega, by go_num, HN2, HB2⟩
          case measure => simp [intOf]; omega
    have hC' : C < 128 := by omega
    have k3 : (0 : Int) ≤ C := by omega
    have k4 : (C : Int) < 128 := by omega
    have HS := Lib.hid (inR_low C hC')
    have hal := inR_takeLen C (by omega)
    obtain ⟨acc, hacc⟩ : ∃ acc, inR.take C = acc := ⟨_, rfl⟩
    rw [hacc] at HS hal ho
    have HAL := Lib.hid (show acc.length ≤ 1048576 by omega)
    clear hal hacc hCn
    go_wp2_with fail
    refine (add_lits P acc wr [(C : Int)] [8192 + (C : Int)] _ _ 1 1 wr.heap.size ho.out rfl rfl rfl rfl rfl (by decide) (by decide) HAL.out).mono ?_
    rintro e w8 ⟨rfl, HN, HB, HK⟩
    have HN2 : Hid (AddSt P w8 (inR.take (C + 1))) := by rw [HS.out]; exact HN
    have HB2 := Lib.hid (hb.out.trans HB.out)
    clear HN HB HK ho hb
    go_wp2_with fail
    go_roundw
    case rel => exact ⟨C + 1, by omega, by go_num, HN2, HB2⟩
    case measure => simp [intOf]; omega
end Go.Proofs.YtdkcadckbjncjaaDoor
