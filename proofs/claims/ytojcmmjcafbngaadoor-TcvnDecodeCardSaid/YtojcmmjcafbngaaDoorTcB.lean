/- Layer 12: the contract of Rules. -/
import Derived.Test.YtojcmmjcafbngaaDoorTcA
import Derived.Test.YtojcmmjcafbngaaDoorPairR
import Derived.Test.YtojcmmjcafbngaaDoorRuleS
namespace Go.Proofs.YtojcmmjcafbngaaDoor
set_option linter.unusedVariables false
set_option linter.unusedSimpArgs false
set_option linter.unnecessarySimpa false
open Go.RowKit
set_option maxRecDepth 100000 in
set_option maxHeartbeats 1600000 in
theorem trules_any (w : World) (hh : TcAt w) :
    Calls Tryd.prog 14 #[] w fun e w' => ∃ v, e = .returned v ∧ OwnRs w.heap.size w' v tcR ∧ Below w.heap.size w w' := by
  have HH := Lib.hid hh
  have hlt := hh.lt
  clear hh
  go_enter Tryd.func14, Tryd.ntmps14
  go_wp2_with fail
  go_loopw [1, 5] (fun v i wr => ∃ K : Nat, K ≤ 256 ∧ i = .int .i64 K ∧ Hid (PR wr w.heap.size v (tcP K)) ∧ Below w.heap.size w wr) (fun _ i _ => 256 - (intOf i).toNat)
  case atStart => exact ⟨0, by omega, rfl, PR.nil _ _, Below.refl _ _⟩
  case round =>
    obtain ⟨K, hK, rfl, ho, hb⟩ := hrel
    by_cases hKn : K = 256
    · subst hKn
      obtain ⟨A, c, rfl, _⟩ := ho.out.form
      have hrd := ho.out.rd
      have hsz := hb.size
      have S1 := Lib.hid (singles_any (tcP 256).length A c (tcP 256) wr.heap.size wr rfl hrd.2 (Nat.le_refl _) (by rw [tcP_len]; decide) tcR rfl)
      rw [tcP_len] at S1 ⊢
      have HB := Lib.hid hb
      clear ho hrd hb
      go_wp2_with fail
      refine S1.out.mono ?_
      rintro e w2 ⟨v, rfl, hO, hb2⟩
      obtain ⟨A2, c2, rfl, _⟩ := hO.form
      have HO := Lib.hid (show OwnRs w.heap.size w2 _ tcR from hO.low hsz)
      have HB2 := Lib.hid (HB.out.trans (hb2.mono hsz))
      clear hO hb2
      go_wp2_with fail
      go_ret
      exact ⟨_, rfl, HO.out, HB2.out⟩
    have hK' : K < 256 := by omega
    have k3 : (0 : Int) ≤ K := by omega
    have k4 : (K : Int) < 256 := by omega
    have k5 : IntKind.u8.wrap (K : Int) = K := by rw [IntKind.wrap_u8]; omega
    have k6 : (K : Int) % 256 = K := by omega
    have hwr := hb.size
    have D1 := Lib.hid (tdec_any K wr hK' (HH.out.belowB hlt hb))
    have HB := Lib.hid hb
    cases hkk : tcK K with
    | true =>
      have HS := Lib.hid (tcP_yes K hkk)
      obtain ⟨acc, hacc⟩ : ∃ acc, tcP K = acc := ⟨_, rfl⟩
      have hal := tcP_le K
      obtain ⟨d, hd⟩ : ∃ d, tcD K = d := ⟨_, rfl⟩
      rw [hacc] at ho HS hal
      rw [hd, hkk] at D1
      rw [hd] at HS
      obtain ⟨A3, c3, rfl, _⟩ := ho.out.form
      have HAL := Lib.hid (show acc.length ≤ 1048576 by omega)
      clear hacc hd hal hKn hb hkk
      go_wp2_with (first | (go_at_call 10; refine D1.out.mono ?_; rintro e w' ⟨rfl, rfl⟩) | (at_builtin; refine wpList_appP rfl _ _ rfl w.heap.size (.slice A3 acc.length c3) acc (K : Int) d rfl ho.out _ rfl rfl HAL.out hwr ?_))
      intro v' w4 HN HBB
      have HB4 := HBB.out w.heap.size w (Nat.le_refl _) HB.out
      have HN2 : Hid (PR w4 w.heap.size v' (tcP (K + 1))) := by rw [HS.out]; exact HN
      clear HN
      go_wp2_with fail
      go_roundw
      case rel => exact ⟨K + 1, by omega, by go_num, HN2, HB4⟩
      case measure => simp [intOf]; omega
    | false =>
      have HN2 := ho
      rw [← tcP_no K hkk] at HN2
      obtain ⟨d, hd⟩ : ∃ d, tcD K = d := ⟨_, rfl⟩
      rw [hd, hkk] at D1
      clear hd hKn hb hkk ho
      go_wp2_with (go_at_call 10; refine D1.out.mono ?_; rintro e w' ⟨rfl, rfl⟩)
      go_roundw
      case rel => exact ⟨K + 1, by omega, by go_num, HN2, HB.out⟩
      case measure => simp [intOf]; omega
end Go.Proofs.YtojcmmjcafbngaaDoor
