/- Texts of this seat, one behind the other: VisD, VisB, TcDl, TcB, TmAl. -/
import Derived.Test.YtncpokioagpclaaGreatDoorZ1
import Derived.Test.YtncpokioagpclaaGreatDoorProg
import Derived.Test.YtncpokioagpclaaGreatDoorZ5
import Derived.Lib.LaidTab
import Derived.Test.YtncpokioagpclaaGreatDoorZ6
import Derived.Test.YtncpokioagpclaaGreatDoorZ12
import Derived.Test.YtncpokioagpclaaGreatDoorZ4
namespace Go.Proofs.YtncpokioagpclaaGreatDoor
set_option linter.unusedVariables false
set_option linter.unusedSimpArgs false
set_option linter.unnecessarySimpa false
open Go.RowKit

/-- the program's table of the bytes from 80 on, as a world holds it -/
def HvAt (w : World) : Prop := Lib.TabIs Tryz.prog w "lontar/viscii.high" .u16 hiVL
theorem HvAt.cell {w : World} (h : HvAt w) (k : Nat) (hk : k < 128) : w.cell? ⟨1, k, none⟩ = some (.int .u16 (vsD (128 + k))) := by
  rw [← vsD_high k hk]; exact Lib.TabIs.cell h (by kernel_rfl) k (by rw [hiVL_len]; exact hk)

set_option maxRecDepth 100000 in
set_option maxHeartbeats 1600000 in
theorem vdec_any (c : Nat) (w : World) (h1 : c < 256) (hh : HvAt w) :
    Calls Tryz.prog 84 #[.int .u8 (c : Int)] w fun e w' => e = .returned (.int .i64 (vsD c)) ∧ w' = w := by
  by_cases ha : 128 ≤ c
  · obtain ⟨k, hk⟩ : ∃ k : Nat, c = 128 + k := ⟨c - 128, by omega⟩
    have hk' : k < 128 := by omega
    have hc := hh.cell k hk'
    rw [← hk] at hc
    have hr := vsD_range c
    obtain ⟨v, hv⟩ : ∃ v, vsD c = v := ⟨_, rfl⟩
    rw [hv] at hc hr ⊢
    obtain ⟨r0, r1⟩ := hr
    have e1 : (c : Int) - 128 = (k : Int) := by omega
    have hk0 : (0 : Int) ≤ k := by omega
    have hk96 : (k : Int) < 128 := by omega
    have hw1 : IntKind.i64.wrap v = v := by rw [IntKind.wrap_i64]; omega
    have hci : (128 : Int) ≤ (c : Int) := by omega
    obtain ⟨C, hC⟩ : ∃ C : Int, C = (c : Int) := ⟨_, rfl⟩
    have hC0 : 0 ≤ C ∧ C ≤ 255 := by omega
    rw [← hC] at e1 hci ⊢
    obtain ⟨hC1, hC2⟩ := hC0
    clear hv hh hk hC ha h1
    go_enter Tryz.func84, Tryz.ntmps84
    go_wp2
    go_ret
    exact ⟨rfl, rfl⟩
  · have hlow := vsD_low c (by omega)
    rcases (show c = 2 ∨ c = 5 ∨ c = 6 ∨ c = 20 ∨ c = 25 ∨ c = 30 ∨ (c ≠ 2 ∧ c ≠ 5 ∧ c ≠ 6 ∧ c ≠ 20 ∧ c ≠ 25 ∧ c ≠ 30) by omega) with h | h | h | h | h | h | ⟨n1, n2, n3, n4, n5, n6⟩
    all_goals try subst h
    case inr.inr.inr.inr.inr.inr =>
      rw [if_neg n1, if_neg n2, if_neg n3, if_neg n4, if_neg n5, if_neg n6] at hlow
      have HL := Lib.hid hlow
      obtain ⟨C, hC⟩ : ∃ C : Int, C = (c : Int) := ⟨_, rfl⟩
      have hC0 : 0 ≤ C := by omega
      have hC1 : C < 128 := by omega
      have b1 : (C == 2) = false := by simp; omega
      have b2 : (C == 5) = false := by simp; omega
      have b3 : (C == 6) = false := by simp; omega
      have b4 : (C == 20) = false := by simp; omega
      have b5 : (C == 25) = false := by simp; omega
      have b6 : (C == 30) = false := by simp; omega
      have hw1 : IntKind.i64.wrap C = C := by rw [IntKind.wrap_i64]; omega
      have HC := Lib.hid (show vsD c = C by rw [hlow, hC])
      rw [← hC]
      clear hlow hC n1 n2 n3 n4 n5 n6 ha h1 HL hh
      go_enter Tryz.func84, Tryz.ntmps84
      go_wp2
      go_ret
      exact ⟨ret_int HC.out, rfl⟩
    all_goals
      have HL := Lib.hid hlow
      clear hlow ha h1 hh
      go_enter Tryz.func84, Tryz.ntmps84
      go_wp2
      go_ret
      exact ⟨ret_int HL.out, rfl⟩

end Go.Proofs.YtncpokioagpclaaGreatDoor
namespace Go.Proofs.YtncpokioagpclaaGreatDoor
set_option linter.unusedVariables false
set_option linter.unusedSimpArgs false
set_option linter.unnecessarySimpa false
open Go.RowKit
theorem HvAt.stay {w w' : World} (h : HvAt w) (hb : Stay 1 w w') : HvAt w' := tab_block h (by kernel_rfl) hb
theorem HvAt.lt {w : World} (h : HvAt w) : 1 < w.heap.size := World.block_lt_of_cell? w _ (h.cell 0 (by decide))
theorem HvAt.below {w w' : World} (h : HvAt w) (hb : Below w.heap.size w w') : HvAt w' := h.stay (hb.block _ h.lt)
theorem HvAt.belowB {w w' : World} {B : Nat} (h : HvAt w) (hg : 1 < B) (hb : Below B w w') : HvAt w' := h.stay (hb.block _ hg)

set_option maxRecDepth 100000 in
set_option maxHeartbeats 1600000 in
theorem vrules_any (w : World) (hh : HvAt w) :
    Calls Tryz.prog 52 #[] w fun e w' => ∃ v, e = .returned v ∧ OwnRs w.heap.size w' v (vsR 256) ∧ Below w.heap.size w w' := by
  have HH := Lib.hid hh
  have hlt := hh.lt
  clear hh
  go_enter Tryz.func52, Tryz.ntmps52
  go_wp2_with fail
  go_loopw [1, 3] (fun v i wr => ∃ K : Nat, K ≤ 256 ∧ i = .int .i64 K ∧ Hid (OwnRs w.heap.size wr v (vsR K)) ∧ Below w.heap.size w wr) (fun _ i _ => 256 - (intOf i).toNat)
  case atStart => exact ⟨0, by omega, rfl, OwnRs.nil _ _, Below.refl _ _⟩
  case round =>
    obtain ⟨K, hK, rfl, ho, hb⟩ := hrel
    by_cases hKn : K = 256
    · subst hKn
      go_wp2_with fail
      go_ret
      exact ⟨_, rfl, ho.out, hb⟩
    have hK' : K < 256 := by omega
    have k3 : (0 : Int) ≤ K := by omega
    have k4 : (K : Int) < 256 := by omega
    have k5 : IntKind.u8.wrap (K : Int) = K := by rw [IntKind.wrap_u8]; omega
    have k6 : (K : Int) % 256 = K := by omega
    have hwr := hb.size
    have D1 := Lib.hid (vdec_any K (wr.alloc (.cells #[.int .i64 (K : Int)] 3)) hK' ((HH.out.belowB hlt hb).below ((Below.refl _ wr).alloc (Nat.le_refl _) _)))
    have HS := Lib.hid (vsR_succ K)
    have HB := Lib.hid hb
    obtain ⟨acc, hacc⟩ : ∃ acc, vsR K = acc := ⟨_, rfl⟩
    have hal := vsR_len K
    obtain ⟨d, hd⟩ : ∃ d, vsD K = d := ⟨_, rfl⟩
    rw [hacc] at ho HS hal
    rw [hd] at D1 HS
    have HO := ho.out.form
    obtain ⟨A3, c3, rfl, _⟩ := HO
    have HAL := Lib.hid (show acc.length ≤ 1048576 by omega)
    clear hacc hd hal hKn hb
    go_wp2_with (first | (go_at_call 84; refine D1.out.mono ?_; rintro e w' ⟨rfl, rfl⟩) | (at_builtin; refine wpList_appRl rfl _ _ rfl w.heap.size (.slice A3 acc.length c3) acc (K : Int) d rfl ho.out rfl HAL.out hwr ?_))
    intro v' w4 HN HBB
    have HB4 := HBB.out w.heap.size w (Nat.le_refl _) HB.out
    have HN2 : Hid (OwnRs w.heap.size w4 v' (vsR (K + 1))) := by rw [HS.out]; exact HN
    clear HN
    go_wp2_with fail
    go_roundw
    case rel => exact ⟨K + 1, by omega, by go_num, HN2, HB4⟩
    case measure => simp [intOf]; omega
end Go.Proofs.YtncpokioagpclaaGreatDoor
namespace Go.Proofs.YtncpokioagpclaaGreatDoor
set_option linter.unusedVariables false
set_option linter.unusedSimpArgs false
set_option linter.unnecessarySimpa false
open Go.RowKit

/-- the program's table of the bytes from a0 on, as a world holds it -/
def TcAt (w : World) : Prop := Lib.TabIs Tryz.prog w "lontar/tcvn.high" .u16 tcHL
theorem TcAt.cell {w : World} (h : TcAt w) (k : Nat) (hk : k < 96) : w.cell? ⟨2, k, none⟩ = some (.int .u16 (tcD (160 + k))) := by
  rw [tcD_high k hk]; exact Lib.TabIs.cell h (by kernel_rfl) k (by rw [tcHL_len]; exact hk)
theorem TcAt.stay {w w' : World} (h : TcAt w) (hb : Stay 2 w w') : TcAt w' := tab_block h (by kernel_rfl) hb
theorem TcAt.lt {w : World} (h : TcAt w) : 2 < w.heap.size := World.block_lt_of_cell? w _ (h.cell 0 (by decide))
theorem TcAt.below {w w' : World} (h : TcAt w) (hb : Below w.heap.size w w') : TcAt w' := h.stay (hb.block _ h.lt)
theorem TcAt.belowB {w w' : World} {B : Nat} (h : TcAt w) (hg : 2 < B) (hb : Below B w w') : TcAt w' := h.stay (hb.block _ hg)

set_option maxRecDepth 100000 in
set_option maxHeartbeats 1600000 in
theorem tdec_any (c : Nat) (w : World) (h1 : c < 256) (hh : TcAt w) :
    Calls Tryz.prog 85 #[.int .u8 (c : Int)] w fun e w' => e = .returned (.tuple #[.int .i64 (tcD c), .bool (tcK c)]) ∧ w' = w := by
  by_cases ha : 160 ≤ c
  · obtain ⟨k, hk⟩ : ∃ k : Nat, c = 160 + k := ⟨c - 160, by omega⟩
    have hk' : k < 96 := by omega
    have hc := hh.cell k hk'
    rw [← hk] at hc
    have hr := tcD_range c
    have hK := tcK_high c (by omega)
    obtain ⟨v, hv⟩ : ∃ v, tcD c = v := ⟨_, rfl⟩
    obtain ⟨b, hb⟩ : ∃ b, tcK c = b := ⟨_, rfl⟩
    rw [hv] at hc hr hK ⊢
    rw [hb] at hK ⊢
    obtain ⟨r0, r1⟩ := hr
    have e1 : (c : Int) - 160 = (k : Int) := by omega
    have hk0 : (0 : Int) ≤ k := by omega
    have hk96 : (k : Int) < 96 := by omega
    have hw1 : IntKind.i64.wrap v = v := by rw [IntKind.wrap_i64]; omega
    have hci : (160 : Int) ≤ (c : Int) := by omega
    have hne : (v != 0) = b := hK.symm
    obtain ⟨C, hC⟩ : ∃ C : Int, C = (c : Int) := ⟨_, rfl⟩
    have hC0 : 0 ≤ C ∧ C ≤ 255 := by omega
    rw [← hC] at e1 hci ⊢
    obtain ⟨hC1, hC2⟩ := hC0
    have n1 : ¬ C < 128 := by omega
    have n2 : ¬ C < 160 := by omega
    clear hv hh hk hC ha h1 hb hK
    go_enter Tryz.func85, Tryz.ntmps85
    go_wp2
    go_ret2
    exact ⟨rfl, rfl⟩
  by_cases hm : 128 ≤ c
  · have n1 : ¬ (c : Int) < 128 := by omega
    have n2 : (c : Int) < 160 := by omega
    rw [tcD_mid c hm (by omega), tcK_mid c hm (by omega)]
    clear ha hm hh h1
    go_enter Tryz.func85, Tryz.ntmps85
    go_wp2
    go_ret2
    exact ⟨rfl, rfl⟩
  · have n1 : (c : Int) < 128 := by omega
    have n0 : (0 : Int) ≤ c := by omega
    have hw1 : IntKind.i64.wrap (c : Int) = c := by rw [IntKind.wrap_i64]; omega
    rw [tcD_low c (by omega), tcK_low c (by omega)]
    clear ha hm hh h1
    go_enter Tryz.func85, Tryz.ntmps85
    go_wp2
    go_ret2
    exact ⟨rfl, rfl⟩

end Go.Proofs.YtncpokioagpclaaGreatDoor
namespace Go.Proofs.YtncpokioagpclaaGreatDoor
set_option linter.unusedVariables false
set_option linter.unusedSimpArgs false
set_option linter.unnecessarySimpa false
open Go.RowKit
set_option maxRecDepth 100000 in
set_option maxHeartbeats 1600000 in
theorem trules_any (w : World) (hh : TcAt w) :
    Calls Tryz.prog 53 #[] w fun e w' => ∃ v, e = .returned v ∧ OwnRs w.heap.size w' v tcR ∧ Below w.heap.size w w' := by
  have HH := Lib.hid hh
  have hlt := hh.lt
  clear hh
  go_enter Tryz.func53, Tryz.ntmps53
  go_wp2_with fail
  go_loopw [1, 5] (fun v i wr => ∃ K : Nat, K ≤ 256 ∧ i = .int .i64 K ∧ Hid (PR wr w.heap.size v (tcP K)) ∧ Below w.heap.size w wr) (fun _ i _ => 256 - (intOf i).toNat)
  case atStart => exact ⟨0, by omega, rfl, PR.nil _ _, Below.refl _ _⟩
  case round =>
    obtain ⟨K, hK, rfl, ho, hb⟩ := hrel
    by_cases hKn : K = 256
    · subst hKn
      obtain ⟨A, c, rfl, _⟩ := ho.out.form
      have hrd := ho.out.rd
      have hsz := hb.size
      have S1 := Lib.hid (singles_any (tcP 256).length A c (tcP 256) wr.heap.size wr rfl hrd.2 (Nat.le_refl _) (by rw [tcP_len]; decide) tcR rfl)
      rw [tcP_len] at S1 ⊢
      have HB := Lib.hid hb
      clear ho hrd hb
      go_wp2_with fail
      refine S1.out.mono ?_
      rintro e w2 ⟨v, rfl, hO, hb2⟩
      obtain ⟨A2, c2, rfl, _⟩ := hO.form
      have HO := Lib.hid (show OwnRs w.heap.size w2 _ tcR from hO.low hsz)
      have HB2 := Lib.hid (HB.out.trans (hb2.mono hsz))
      clear hO hb2
      go_wp2_with fail
      go_ret
      exact ⟨_, rfl, HO.out, HB2.out⟩
    have hK' : K < 256 := by omega
    have k3 : (0 : Int) ≤ K := by omega
    have k4 : (K : Int) < 256 := by omega
    have k5 : IntKind.u8.wrap (K : Int) = K := by rw [IntKind.wrap_u8]; omega
    have k6 : (K : Int) % 256 = K := by omega
    have hwr := hb.size
    have D1 := Lib.hid (tdec_any K wr hK' (HH.out.belowB hlt hb))
    have HB := Lib.hid hb
    cases hkk : tcK K with
    | true =>
      have HS := Lib.hid (tcP_yes K hkk)
      obtain ⟨acc, hacc⟩ : ∃ acc, tcP K = acc := ⟨_, rfl⟩
      have hal := tcP_le K
      obtain ⟨d, hd⟩ : ∃ d, tcD K = d := ⟨_, rfl⟩
      rw [hacc] at ho HS hal
      rw [hd, hkk] at D1
      rw [hd] at HS
      obtain ⟨A3, c3, rfl, _⟩ := ho.out.form
      have HAL := Lib.hid (show acc.length ≤ 1048576 by omega)
      clear hacc hd hal hKn hb hkk
      go_wp2_with (first | (go_at_call 85; refine D1.out.mono ?_; rintro e w' ⟨rfl, rfl⟩) | (at_builtin; refine wpList_appP rfl _ _ rfl w.heap.size (.slice A3 acc.length c3) acc (K : Int) d rfl ho.out _ rfl rfl HAL.out hwr ?_))
      intro v' w4 HN HBB
      have HB4 := HBB.out w.heap.size w (Nat.le_refl _) HB.out
      have HN2 : Hid (PR w4 w.heap.size v' (tcP (K + 1))) := by rw [HS.out]; exact HN
      clear HN
      go_wp2_with fail
      go_roundw
      case rel => exact ⟨K + 1, by omega, by go_num, HN2, HB4⟩
      case measure => simp [intOf]; omega
    | false =>
      have HN2 := ho
      rw [← tcP_no K hkk] at HN2
      obtain ⟨d, hd⟩ : ∃ d, tcD K = d := ⟨_, rfl⟩
      rw [hd, hkk] at D1
      clear hd hKn hb hkk ho
      go_wp2_with (go_at_call 85; refine D1.out.mono ?_; rintro e w' ⟨rfl, rfl⟩)
      go_roundw
      case rel => exact ⟨K + 1, by omega, by go_num, HN2, HB.out⟩
      case measure => simp [intOf]; omega
end Go.Proofs.YtncpokioagpclaaGreatDoor
namespace Go.Proofs.YtncpokioagpclaaGreatDoor
set_option linter.unusedVariables false
set_option linter.unusedSimpArgs false
set_option linter.unnecessarySimpa false
open Go.RowKit
/-- the program's table, as a world holds it -/
def TabC (w : World) : Prop := Lib.TabIs Tryz.prog w "lontar/tamil.consonants" .i64 tmC
theorem TabC.con {w : World} (h : TabC w) (k : Nat) (hk : k < 22) : w.cell? ⟨0, k, none⟩ = some (.int .i64 (tmCon k)) :=
  Lib.TabIs.cell h (by kernel_rfl) k (by rw [tmC_len]; exact hk)
theorem TabC.lt {w : World} (h : TabC w) : 0 < w.heap.size := World.block_lt_of_cell? w _ (h.con 0 (by decide))
theorem TabC.below {w w' : World} (h : TabC w) (hb : Below w.heap.size w w') : TabC w' := tab_block h (by kernel_rfl) (hb.block _ h.lt)
end Go.Proofs.YtncpokioagpclaaGreatDoor
