/- TcvnRules: the walk. -/
import Derived.Test.YtojcmmjcafbngaaDoorTcE
import Derived.Test.YtojcmmjcafbngaaDoorTcL
import Derived.Test.YtojcmmjcafbngaaDoorSameR
import Derived.Test.YtojcmmjcafbngaaDoorRowPush
namespace Go.Proofs.YtojcmmjcafbngaaDoor
set_option linter.unusedVariables false
set_option linter.unusedSimpArgs false
set_option linter.unnecessarySimpa false
open Go.RowKit
/-- the law's rules behind K of its rows -/
def tcW (K : Nat) : List Rl := tcN 128 ++ singR (tcRowL.take K)
theorem tcW_len (K : Nat) (h : K ≤ 74) : (tcW K).length = 128 + K := by
  unfold tcW singR; rw [List.length_append, tcN_len, List.length_map, List.length_take, tcRowL_len]; omega
theorem tcW_zero : tcW 0 = tcN 128 := by simp [tcW, singR]
theorem tcW_all : tcW 74 = tcR := by
  unfold tcW; rw [List.take_of_length_le (by rw [tcRowL_len]; decide)]; exact tcR_is
theorem tcW_succ (K : Nat) (h : K < 74) (p q : Int) (hp : tcRowL.getD K (0, 0) = (p, q)) : tcW (K + 1) = tcW K ++ [([p], [q])] := by
  have hK : K < tcRowL.length := by rw [tcRowL_len]; exact h
  rw [List.getD_eq_getElem?_getD, List.getElem?_eq_getElem hK] at hp
  unfold tcW singR
  rw [List.take_succ_eq_append_getElem hK, show tcRowL[K] = (p, q) from hp, List.map_append, List.append_assoc]
  rfl

set_option maxRecDepth 100000 in
set_option maxHeartbeats 3200000 in
theorem tcvnRules_any (n : Int) (w : World) (hn : 0 ≤ n ∧ n ≤ 255) (hh : TcAt w) :
    Calls Tryd.prog 5 #[.int .u8 n] w fun e w' => e = .returned (.bool true) ∧ Below w.heap.size w w' := by
  have A0 := Lib.hid (awake12_any w hh)
  have HH := Lib.hid hh
  have n0 := hn.1
  have n1 := hn.2
  obtain ⟨N, hN⟩ : ∃ N : Nat, n % 128 = (N : Int) := ⟨(n % 128).toNat, by omega⟩
  have hN' : N < 128 := by omega
  have hNi : (0 : Int) ≤ N := by omega
  have hNl : (N : Int) < 202 := by omega
  have hw1 : IntKind.i64.wrap (N : Int) = N := by rw [IntKind.wrap_i64]; omega
  have HN := Lib.hid hN
  clear hh hn hN
  go_enter Tryd.func5, Tryd.ntmps5
  go_wp2_with fail
  refine A0.out.mono ?_
  rintro e w1 ⟨rfl, hb1⟩
  have HH1 := Lib.hid (HH.out.below hb1)
  have hs1 := hb1.size
  have HB1 := Lib.hid hb1
  clear hb1 A0 HH
  go_wp2_with fail
  go_loopw [3, 4] (fun v i wr => ∃ K : Nat, K ≤ 128 ∧ i = .int .i64 K ∧ Hid (OwnRs w1.heap.size wr v (tcN K)) ∧ Hid (Below w1.heap.size w1 wr)) (fun _ i _ => 128 - (intOf i).toNat)
  case atStart => exact ⟨0, by omega, rfl, OwnRs.nil _ _, Lib.hid (Below.refl _ _)⟩
  case round =>
    obtain ⟨K, hK, rfl, ho, hb⟩ := hrel
    by_cases hKn : K = 128
    · subst hKn
      have T1 := Lib.hid (tcrows_any wr)
      obtain ⟨wo, rfl⟩ : ∃ wo : World, wo = wr := ⟨_, rfl⟩
      go_wp2_with fail
      refine T1.out.mono ?_
      rintro e w3 ⟨rfl, hq, hb3⟩
      obtain ⟨g, hg⟩ : ∃ g, wo.heap.size = g := ⟨_, rfl⟩
      have hbo := hb.out.size
      have HQ := Lib.hid hq
      have HO3 := Lib.hid (show OwnRs w1.heap.size w3 _ (tcW 0) by rw [tcW_zero]; exact ho.out.below hb3 (Nat.le_refl _))
      have HB3 := Lib.hid (hb.out.trans (hb3.mono hbo))
      rw [hg] at HQ ⊢
      clear hq hb3 hg hb ho T1 hbo
      go_wp2_with fail
      go_loopw [3, 24] (fun v i wr => ∃ K : Nat, K ≤ 74 ∧ i = .int .i64 K ∧ Hid (OwnRs w1.heap.size wr v (tcW K)) ∧ Hid (Held wr g tcTab 37) ∧ Hid (Below w1.heap.size w1 wr)) (fun _ i _ => 74 - (intOf i).toNat)
      case atStart => exact ⟨0, by omega, rfl, HO3, HQ, HB3⟩
      case round =>
        clear HO3 HQ HB3
        obtain ⟨K, hK, rfl, ho, HQ, hb⟩ := hrel
        by_cases hKn : K = 74
        · subst hKn
          have HHr := Lib.hid (HH1.out.below hb.out)
          have R1 := Lib.hid (trules_any wr HHr.out)
          rw [tcW_all] at ho
          obtain ⟨A3, c3, rfl, hw1⟩ := ho.out.form
          rw [tcR_len] at hw1 ⊢
          go_wp2_with fail
          refine R1.out.mono ?_
          rintro e w4 ⟨v, rfl, hO, hb4⟩
          obtain ⟨A4, c4, rfl, hw2⟩ := hO.form
          rw [tcR_len] at hw2 ⊢
          have HB4 := Lib.hid (HB1.out.trans ((hb.out.trans (hb4.mono hb.out.size)).mono hs1))
          have S1 := Lib.hid (rsame_any 202 202 A4 A3 c4 c3 tcR _ _ w4 hw2 (hw1.below hb4 (Nat.le_refl _)))
          have HW := Lib.hid hw2
          clear hw1 hO hb4 R1 ho hb hw2 HB1 HH1 HQ HHr
          go_wp2_with fail
          refine S1.out.mono ?_
          rintro e w5 ⟨rfl, m, hm⟩
          obtain ⟨b, o, rfl, _, A1, k1, d1, A2, k2, d2, g1, g2, e1, _, _, e4, f1, _, _, f4⟩ := (show RsAt w5 _ A4 202 c4 tcR by rw [hm]; exact HW.out.drewN m).at (k := N) (by rw [tcR_len]; omega)
          have HB5 := Lib.hid (show Below w.heap.size w w5 by rw [hm]; exact HB4.out.trans ⟨rfl, rfl, rfl, Nat.le_refl _, fun _ _ => rfl⟩)
          rw [tcR_at N hN'] at f1 f4
          obtain ⟨b1, o1, rfl, _, hc1⟩ := rd_ints f4 (by simp)
          have hcell := hc1 0 (by simp)
          have f1' : k2 = 1 := by simpa using f1
          subst f1'
          simp only [List.getD_cons_zero, Nat.add_zero] at hcell
          have hN2 := HN.out
          clear hm e1 e4 f1 f4 hc1 S1 HW HB4 g1
          go_wp2_with fail
          go_ret
          exact ⟨ret_bool (by simp), HB5.out⟩
        have hK' : K < 74 := by omega
        have k3 : (0 : Int) ≤ K := by omega
        have k4 : (K : Int) < 74 := by omega
        have hwr := hb.out.size
        obtain ⟨t0, t1⟩ := tcTab_at K hK'
        have c0 := (HQ.out.cell (K * 2)).trans t0
        have c1 := (HQ.out.cell (K * 2 + 1)).trans t1
        obtain ⟨⟨p, q⟩, hp⟩ : ∃ r, tcRowL.getD K (0, 0) = r := ⟨_, rfl⟩
        rw [hp] at c0 c1
        have HS := Lib.hid (tcW_succ K hK' p q hp)
        have hal := tcW_len K hK
        obtain ⟨acc, hacc⟩ : ∃ acc, tcW K = acc := ⟨_, rfl⟩
        rw [hacc] at ho HS hal
        obtain ⟨A3, c3, rfl, _⟩ := ho.out.form
        have HAL := Lib.hid (show acc.length ≤ 1048576 by omega)
        have HOA := Lib.hid (ho.out.below ((Below.refl _ wr).alloc (Nat.le_refl _) (.cells #[.int .i64 p, .int .i64 q] 37)) (Nat.le_refl _))
        have HQA := Lib.hid (HQ.out.alloc (.cells #[.int .i64 p, .int .i64 q] 37))
        have HBA := Lib.hid (hb.out.alloc hwr (.cells #[.int .i64 p, .int .i64 q] 37))
        have HWA := Lib.hid (show w1.heap.size ≤ (wr.alloc (.cells #[.int .i64 p, .int .i64 q] 37)).heap.size by simp; omega)
        clear hacc hal hKn t0 t1 hp ho hb HQ
        go_wp2_with (at_builtin; refine wpList_appRlN rfl _ _ rfl w1.heap.size (.slice A3 acc.length c3) acc p q rfl HOA.out (wr.heap.size + 1) (by simp) rfl HAL.out HWA.out ?_)
        intro v' w4 HN1 HBB HTT
        have HB4 := Lib.hid (HBB.out w1.heap.size w1 (Nat.le_refl _) HBA.out)
        have HQ4 : Hid (Held w4 g tcTab 37) := Lib.hid (HTT.out g tcTab 37 (by decide) HQA.out)
        have HN2 : Hid (OwnRs w1.heap.size w4 v' (tcW (K + 1))) := by rw [HS.out]; exact HN1
        clear HN1 HBB HTT
        go_wp2_with fail
        go_roundw
        case rel => exact ⟨K + 1, by omega, by go_num, HN2, HQ4, HB4⟩
        case measure => simp [intOf]; omega
    have hK' : K < 128 := by omega
    have k3 : (0 : Int) ≤ K := by omega
    have k4 : (K : Int) < 128 := by omega
    have hwr := hb.out.size
    have HS := Lib.hid (tcN_succ K)
    obtain ⟨acc, hacc⟩ : ∃ acc, tcN K = acc := ⟨_, rfl⟩
    have hal := tcN_len K
    rw [hacc] at ho HS hal
    obtain ⟨A3, c3, rfl, _⟩ := ho.out.form
    have HAL := Lib.hid (show acc.length ≤ 1048576 by omega)
    clear hacc hal hKn
    go_wp2_with (at_builtin; refine wpList_appRl rfl _ _ rfl w1.heap.size (.slice A3 acc.length c3) acc (K : Int) (K : Int) rfl ho.out rfl HAL.out hwr ?_)
    intro v' w4 HN1 HBB
    have HB4 := Lib.hid (HBB.out w1.heap.size w1 (Nat.le_refl _) hb.out)
    have HN2 : Hid (OwnRs w1.heap.size w4 v' (tcN (K + 1))) := by rw [HS.out]; exact HN1
    clear HN1
    go_wp2_with fail
    go_roundw
    case rel => exact ⟨K + 1, by omega, by go_num, HN2, HB4⟩
    case measure => simp [intOf]; omega
end Go.Proofs.YtojcmmjcafbngaaDoor
