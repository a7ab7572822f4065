/- Layer 14: the contract of Rules. -/
import Derived.Test.YthgomhmalmmhlaaDoorInC
import Derived.Test.YthgomhmalmmhlaaDoorRowPush
namespace Go.Proofs.YthgomhmalmmhlaaDoor
set_option linter.unusedVariables false
set_option linter.unusedSimpArgs false
set_option linter.unnecessarySimpa false
open Go.RowKit
theorem below_alloc14 (w : World) (o : Obj) : Below w.heap.size w (w.alloc o) := (Below.refl _ w).alloc (Nat.le_refl _) o
set_option maxRecDepth 100000 in
set_option maxHeartbeats 6400000 in
theorem inrules_any (w : World) (hT : TabI w) :
    Calls Tryd.prog 20 #[] w fun e w' => ∃ v, e = .returned v ∧ OwnRs w.heap.size w' v inR ∧ Below w.heap.size w w' := by
  have HT := Lib.hid hT
  clear hT
  go_enter Tryd.func20, Tryd.ntmps20
  go_wp2_with fail
  go_loopw [1, 11] (fun v i wr => ∃ C : Nat, C ≤ 128 ∧ i = .int .i64 C ∧ Hid (OwnRs w.heap.size wr v (inR.take C)) ∧ Hid (Below w.heap.size w wr)) (fun _ i _ => 128 - (intOf i).toNat)
  case atStart => exact ⟨0, by omega, rfl, OwnRs.nil _ _, Lib.hid (Below.refl _ _)⟩
  case round =>
    obtain ⟨C, hC, rfl, ho, hb⟩ := hrel
    by_cases hCn : C = 128
    · subst hCn
      obtain ⟨w1, rfl⟩ : ∃ w1 : World, w1 = wr := ⟨_, rfl⟩
      rw [← inA_zero] at ho
      rw [show ((128 : Nat) : Int) = 128 from rfl]
      go_wp2_with fail
      go_loopw [1, 24] (fun v i wr => ∃ K : Nat, K ≤ 256 ∧ i = .int .i64 K ∧ Hid (OwnRs w.heap.size wr v (inR.take (inA K))) ∧ Hid (Below w.heap.size w wr)) (fun _ i _ => 256 - (intOf i).toNat)
      case atStart => exact ⟨0, by omega, rfl, ho, hb⟩
      case round =>
        clear ho hb
        obtain ⟨K, hK, rfl, ho, hb⟩ := hrel
        by_cases hKn : K = 256
        · subst hKn
          obtain ⟨w2, rfl⟩ : ∃ w2 : World, w2 = wr := ⟨_, rfl⟩
          rw [inA_all] at ho
          rw [show ((256 : Nat) : Int) = 256 from rfl]
          go_wp2_with fail
          refine (nukta_any w2).mono ?_
          rintro e w3 ⟨rfl, rfl⟩
          have hs2 := hb.out.size
          have HQ := Lib.hid (Held.new w2 nkTab 39)
          have ho3 := Lib.hid (ho.out.below (below_alloc14 w2 (.cells nkTab 39)) (Nat.le_refl _))
          have hb3 := Lib.hid (hb.out.trans ((below_alloc14 w2 (.cells nkTab 39)).mono hs2))
          obtain ⟨W3, hW3⟩ : ∃ W3, w2.alloc (.cells nkTab 39) = W3 := ⟨_, rfl⟩
          obtain ⟨M, hM⟩ : ∃ M, w2.heap.size = M := ⟨_, rfl⟩
          rw [hW3] at HQ ho3 hb3 ⊢
          rw [hM] at HQ hs2 ⊢
          clear ho hb hW3 hM w2
          go_wp2_with fail
          go_loopw [1, 45] (fun v i wr => ∃ J : Nat, J ≤ 14 ∧ i = .int .i64 J ∧ Hid (OwnRs w.heap.size wr v (inR.take (210 + J))) ∧ Hid (Below w.heap.size w wr) ∧ Hid (Held wr M nkTab 39)) (fun _ i _ => 14 - (intOf i).toNat)
          case atStart => exact ⟨0, by omega, rfl, ho3, hb3, HQ⟩
          case round =>
            clear ho3 hb3 HQ
            obtain ⟨J, hJ, rfl, ho, hb, hq⟩ := hrel
            by_cases hJn : J = 14
            · subst hJn
              obtain ⟨w4, rfl⟩ : ∃ w4 : World, w4 = wr := ⟨_, rfl⟩
              rw [show ((14 : Nat) : Int) = 14 from rfl]
              clear hq
              go_wp2_with fail
              go_loopw [1, 60] (fun v i wr => ∃ S : Nat, S ≤ 9 ∧ i = .int .i64 S ∧ Hid (OwnRs w.heap.size wr v (inR.take (224 + S))) ∧ Hid (Below w.heap.size w wr)) (fun _ i _ => 9 - (intOf i).toNat)
              case atStart => exact ⟨0, by omega, rfl, ho, hb⟩
              case round =>
                clear ho hb
                obtain ⟨S, hS, rfl, ho, hb⟩ := hrel
                by_cases hSn : S = 9
                · subst hSn
                  rw [show 224 + 9 = 233 from rfl] at ho
                  obtain ⟨w5, rfl⟩ : ∃ w5 : World, w5 = wr := ⟨_, rfl⟩
                  have hs5 := hb.out.size
                  have hal := inR_takeLen 233 (by omega)
                  have HL := Lib.hid inR_last
                  obtain ⟨acc, hacc⟩ : ∃ acc, inR.take 233 = acc := ⟨_, rfl⟩
                  rw [hacc] at HL hal ho
                  obtain ⟨A3, c3, rfl, -⟩ := ho.out.form
                  have HAL := Lib.hid (show acc.length + inS.length ≤ 1048576 by rw [hal]; decide)
                  clear hal hacc
                  go_wp2_with fail
                  refine (single_any w5).mono ?_
                  rintro e w6 ⟨A6, xs, rfl, hr6, hl6, hb6⟩
                  have hs6 := hb6.size
                  have HR6 := Lib.hid hr6
                  have HL6 := Lib.hid (show Rls (fun b => (Value.slice A3 acc.length c3).ownBlock ≠ some b) w6 xs inS from hl6.step (Nat.le_refl _) fun b _ hx => ⟨fun e => by
                    obtain ⟨ys, h1, _⟩ := ho.out
                    have := own_lt h1 e; omega, rfl⟩)
                  have HO6 := Lib.hid (ho.out.below hb6 (Nat.le_refl _))
                  have HB6 := Lib.hid (hb.out.trans (hb6.mono hs5))
                  clear ho hb hr6 hl6 hb6
                  go_wp2_with (at_builtin; refine wpList_appRsN rfl _ _ rfl w.heap.size (.slice A3 acc.length c3) acc rfl HO6.out A6 7 7 xs inS rfl rfl _ HR6.out HL6.out HAL.out (by omega) ?_)
                  intro v7 w7 HN HBB
                  have HB7 := HBB.out w.heap.size w (Nat.le_refl _) HB6.out
                  go_wp2_with fail
                  go_ret
                  exact ⟨_, rfl, by have := HN.out; rwa [HL.out] at this, HB7⟩
                have hS' : S < 9 := by omega
                have k3 : (0 : Int) ≤ S := by omega
                have k4 : (S : Int) < 9 := by omega
                have hwr := hb.out.size
                have D1 := Lib.hid (code_at S wr hS' (HT.out.below hb.out))
                have HS := Lib.hid (inR_cod S hS')
                have hal := inR_takeLen (224 + S) (by omega)
                obtain ⟨acc, hacc⟩ : ∃ acc, inR.take (224 + S) = acc := ⟨_, rfl⟩
                obtain ⟨d, hd⟩ : ∃ d, cdC S = d := ⟨_, rfl⟩
                rw [hacc, hd] at HS
                rw [hacc] at hal ho
                rw [hd] at D1
                obtain ⟨A3, c3, rfl, -⟩ := ho.out.form
                have HAL := Lib.hid (show acc.length ≤ 1048576 by omega)
                clear hal hacc hSn hd
                go_wp2_with fail
                refine D1.out.mono ?_
                rintro e w8 ⟨rfl, rfl⟩
                go_wp2_with (at_builtin; refine wpList_appRlL rfl _ _ rfl w.heap.size (.slice A3 acc.length c3) acc [239, d] [4096 + (S : Int)] rfl ho.out 2 1 rfl rfl rfl rfl (by decide) (by decide) w8.heap.size rfl rfl HAL.out hwr ?_)
                intro v7 w7 HN HBB HTT
                have HB7 := Lib.hid (HBB.out w.heap.size w (Nat.le_refl _) hb.out)
                have HN2 : Hid (OwnRs w.heap.size w7 v7 (inR.take (224 + (S + 1)))) := by rw [HS.out]; exact HN
                clear HN HBB HTT
                go_wp2_with fail
                go_roundw
                case rel => exact ⟨S + 1, by omega, by go_num, HN2, HB7⟩
                case measure => simp [intOf]; omega
            have hJ' : J < 14 := by omega
            have k3 : (0 : Int) ≤ J := by omega
            have k4 : (J : Int) < 14 := by omega
            have hwr := hb.out.size
            have l0 := (hq.out.cell (J * 2)).trans (nkTab_at J hJ').1
            have l1 := (hq.out.cell (J * 2 + 1)).trans (nkTab_at J hJ').2
            have hMl := hq.out.lt
            have HS := Lib.hid (inR_nuk J hJ')
            have hal := inR_takeLen (210 + J) (by omega)
            obtain ⟨acc, hacc⟩ : ∃ acc, inR.take (210 + J) = acc := ⟨_, rfl⟩
            obtain ⟨b, hbe⟩ : ∃ b, nkB J = b := ⟨_, rfl⟩
            obtain ⟨p, hp⟩ : ∃ p, nkP J = p := ⟨_, rfl⟩
            rw [hacc, hbe, hp] at HS
            rw [hacc] at hal ho
            rw [hbe] at l0
            rw [hp] at l1
            obtain ⟨A3, c3, rfl, -⟩ := ho.out.form
            have HAL := Lib.hid (show acc.length ≤ 1048576 by omega)
            clear hal hacc hJn hbe hp
            have HO8 := Lib.hid (ho.out.below (below_alloc14 wr (.cells #[.int .i64 b, .int .i64 p] 39)) (Nat.le_refl _))
            have HB8 := Lib.hid (hb.out.trans ((below_alloc14 wr (.cells #[.int .i64 b, .int .i64 p] 39)).mono hwr))
            have HQ8 := Lib.hid (hq.out.alloc (.cells #[.int .i64 b, .int .i64 p] 39))
            have hs8 : w.heap.size ≤ (wr.alloc (.cells #[.int .i64 b, .int .i64 p] 39)).heap.size := HB8.out.size
            have c0 := (Held.new wr #[.int .i64 b, .int .i64 p] 39).cell 0
            have c1 := (Held.new wr #[.int .i64 b, .int .i64 p] 39).cell 1
            clear ho hb hq
            go_wp2_with (at_builtin; refine wpList_appRlL rfl _ _ rfl w.heap.size (.slice A3 acc.length c3) acc [b, 233] [p] rfl HO8.out 2 1 rfl rfl rfl rfl (by decide) (by decide) (wr.heap.size + 1) (by simp) rfl HAL.out hs8 ?_)
            intro v7 w7 HN HBB HTT
            have HB7 := Lib.hid (HBB.out w.heap.size w (Nat.le_refl _) HB8.out)
            have HN2 : Hid (OwnRs w.heap.size w7 v7 (inR.take (210 + (J + 1)))) := by rw [HS.out]; exact HN
            have HQ7 : Hid (Held w7 M nkTab 39) := Lib.hid (HTT.out M _ _ (by decide) HQ8.out)
            clear HN HBB HTT
            go_wp2_with fail
            go_roundw
            case rel => exact ⟨J + 1, by omega, by go_num, HN2, HB7, HQ7⟩
            case measure => simp [intOf]; omega
        have hK' : K < 256 := by omega
        have k3 : (0 : Int) ≤ K := by omega
        have k4 : (K : Int) < 256 := by omega
        have k5 : IntKind.u8.wrap (K : Int) = K := by rw [IntKind.wrap_u8]; omega
        have k6 : (K : Int) % 256 = K := by omega
        have hwr := hb.out.size
        have D1 := Lib.hid (place_any K wr hK' (HT.out.below hb.out))
        by_cases hp : inP K = 0
        · have HN2 := ho
          rw [← inA_no K hp] at HN2
          rw [hp, show ((0 : Int) != 0) = false from rfl] at D1
          clear ho hp hKn
          go_wp2_with fail
          refine D1.out.mono ?_
          rintro e w8 ⟨rfl, rfl⟩
          go_wp2_with fail
          go_roundw
          case rel => exact ⟨K + 1, by omega, by go_num, HN2, hb⟩
          case measure => simp [intOf]; omega
        · have HS := Lib.hid (inR_more K hK' hp)
          have hal := inR_takeLen (inA K) (by have := inA_le K (by omega); omega)
          have hale := inA_le K (by omega)
          have hpb : (inP K != 0) = true := by simpa using hp
          rw [hpb] at D1
          obtain ⟨acc, hacc⟩ : ∃ acc, inR.take (inA K) = acc := ⟨_, rfl⟩
          obtain ⟨p, hpe⟩ : ∃ p, inP K = p := ⟨_, rfl⟩
          rw [hacc, hpe] at HS
          rw [hacc] at hal ho
          rw [hpe] at D1
          obtain ⟨A3, c3, rfl, -⟩ := ho.out.form
          have HAL := Lib.hid (show acc.length ≤ 1048576 by omega)
          clear hal hale hacc hpe hpb hp hKn
          go_wp2_with fail
          refine D1.out.mono ?_
          rintro e w8 ⟨rfl, rfl⟩
          go_wp2_with (at_builtin; refine wpList_appRlN rfl _ _ rfl w.heap.size (.slice A3 acc.length c3) acc (K : Int) p rfl ho.out w8.heap.size rfl rfl HAL.out hwr ?_)
          intro v7 w7 HN HBB HTT
          have HB7 := Lib.hid (HBB.out w.heap.size w (Nat.le_refl _) hb.out)
          have HN2 : Hid (OwnRs w.heap.size w7 v7 (inR.take (inA (K + 1)))) := by rw [HS.out]; exact HN
          clear HN HBB HTT
          go_wp2_with fail
          go_roundw
          case rel => exact ⟨K + 1, by omega, by go_num, HN2, HB7⟩
          case measure => simp [intOf]; omega
    have hC' : C < 128 := by omega
    have k3 : (0 : Int) ≤ C := by omega
    have k4 : (C : Int) < 128 := by omega
    have hwr := hb.out.size
    have HS := Lib.hid (inR_low C hC')
    have hal := inR_takeLen C (by omega)
    obtain ⟨acc, hacc⟩ : ∃ acc, inR.take C = acc := ⟨_, rfl⟩
    rw [hacc] at HS hal ho
    obtain ⟨A3, c3, rfl, -⟩ := ho.out.form
    have HAL := Lib.hid (show acc.length ≤ 1048576 by omega)
    clear hal hacc hCn
    go_wp2_with (at_builtin; refine wpList_appRlN rfl _ _ rfl w.heap.size (.slice A3 acc.length c3) acc (C : Int) (8192 + (C : Int)) rfl ho.out wr.heap.size rfl rfl HAL.out hwr ?_)
    intro v7 w7 HN HBB HTT
    have HB7 := Lib.hid (HBB.out w.heap.size w (Nat.le_refl _) hb.out)
    have HN2 : Hid (OwnRs w.heap.size w7 v7 (inR.take (C + 1))) := by rw [HS.out]; exact HN
    clear HN HBB HTT
    go_wp2_with fail
    go_roundw
    case rel => exact ⟨C + 1, by omega, by go_num, HN2, HB7⟩
    case measure => simp [intOf]; omega
end Go.Proofs.YthgomhmalmmhlaaDoor
