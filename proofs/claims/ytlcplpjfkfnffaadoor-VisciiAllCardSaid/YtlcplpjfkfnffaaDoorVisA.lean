/- Layer 11: contracts of Decode and Encode. -/
import Derived.Test.YtlcplpjfkfnffaaDoorVisM
import Derived.Test.YtlcplpjfkfnffaaDoorMixe
import Derived.Test.YtlcplpjfkfnffaaDoorProg
import Derived.Lib.LaidTab
namespace Go.Proofs.YtlcplpjfkfnffaaDoor
set_option linter.unusedVariables false
set_option linter.unusedSimpArgs false
set_option linter.unnecessarySimpa false
open Go.RowKit

/-- the program's table of the bytes from 80 on, as a world holds it -/
def HvAt (w : World) : Prop := Lib.TabIs Tryd.prog w "lontar/viscii.high" .u16 hiVL
theorem HvAt.cell {w : World} (h : HvAt w) (k : Nat) (hk : k < 128) : w.cell? ⟨0, k, none⟩ = some (.int .u16 (vsD (128 + k))) := by
  rw [← vsD_high k hk]; exact Lib.TabIs.cell h (by kernel_rfl) k (by rw [hiVL_len]; exact hk)

set_option maxRecDepth 100000 in
set_option maxHeartbeats 1600000 in
theorem vdec_any (c : Nat) (w : World) (h1 : c < 256) (hh : HvAt w) :
    Calls Tryd.prog 10 #[.int .u8 (c : Int)] w fun e w' => e = .returned (.int .i64 (vsD c)) ∧ w' = w := by
  by_cases ha : 128 ≤ c
  · obtain ⟨k, hk⟩ : ∃ k : Nat, c = 128 + k := ⟨c - 128, by omega⟩
    have hk' : k < 128 := by omega
    have hc := hh.cell k hk'
    rw [← hk] at hc
    have hr := vsD_range c
    obtain ⟨v, hv⟩ : ∃ v, vsD c = v := ⟨_, rfl⟩
    rw [hv] at hc hr ⊢
    obtain ⟨r0, r1⟩ := hr
    have e1 : (c : Int) - 128 = (k : Int) := by omega
    have hk0 : (0 : Int) ≤ k := by omega
    have hk96 : (k : Int) < 128 := by omega
    have hw1 : IntKind.i64.wrap v = v := by rw [IntKind.wrap_i64]; omega
    have hci : (128 : Int) ≤ (c : Int) := by omega
    obtain ⟨C, hC⟩ : ∃ C : Int, C = (c : Int) := ⟨_, rfl⟩
    have hC0 : 0 ≤ C ∧ C ≤ 255 := by omega
    rw [← hC] at e1 hci ⊢
    obtain ⟨hC1, hC2⟩ := hC0
    clear hv hh hk hC ha h1
    go_enter Tryd.func10, Tryd.ntmps10
    go_wp2
    go_ret
    exact ⟨rfl, rfl⟩
  · have hlow := vsD_low c (by omega)
    rcases (show c = 2 ∨ c = 5 ∨ c = 6 ∨ c = 20 ∨ c = 25 ∨ c = 30 ∨ (c ≠ 2 ∧ c ≠ 5 ∧ c ≠ 6 ∧ c ≠ 20 ∧ c ≠ 25 ∧ c ≠ 30) by omega) with h | h | h | h | h | h | ⟨n1, n2, n3, n4, n5, n6⟩
    all_goals try subst h
    case inr.inr.inr.inr.inr.inr =>
      rw [if_neg n1, if_neg n2, if_neg n3, if_neg n4, if_neg n5, if_neg n6] at hlow
      have HL := Lib.hid hlow
      obtain ⟨C, hC⟩ : ∃ C : Int, C = (c : Int) := ⟨_, rfl⟩
      have hC0 : 0 ≤ C := by omega
      have hC1 : C < 128 := by omega
      have b1 : (C == 2) = false := by simp; omega
      have b2 : (C == 5) = false := by simp; omega
      have b3 : (C == 6) = false := by simp; omega
      have b4 : (C == 20) = false := by simp; omega
      have b5 : (C == 25) = false := by simp; omega
      have b6 : (C == 30) = false := by simp; omega
      have hw1 : IntKind.i64.wrap C = C := by rw [IntKind.wrap_i64]; omega
      have HC := Lib.hid (show vsD c = C by rw [hlow, hC])
      rw [← hC]
      clear hlow hC n1 n2 n3 n4 n5 n6 ha h1 HL hh
      go_enter Tryd.func10, Tryd.ntmps10
      go_wp2
      go_ret
      exact ⟨ret_int HC.out, rfl⟩
    all_goals
      have HL := Lib.hid hlow
      clear hlow ha h1 hh
      go_enter Tryd.func10, Tryd.ntmps10
      go_wp2
      go_ret
      exact ⟨ret_int HL.out, rfl⟩

theorem ret_ib {k : IntKind} {a c : Int} {b d : Bool} (h1 : a = c) (h2 : b = d) : Ending.returned (.tuple #[.int k c, .bool d]) = .returned (.tuple #[.int k a, .bool b]) := by
  rw [h1, h2]

set_option maxRecDepth 100000 in
set_option maxHeartbeats 1600000 in
theorem venc_any (s : Int) (w : World) (hh : HvAt w) :
    Calls Tryd.prog 12 #[.int .i64 s] w fun e w' => e = .returned (.tuple #[.int .u8 (vsC s), .bool (vsE s).isSome]) ∧ w' = w := by
  have HH := Lib.hid hh
  clear hh
  go_enter Tryd.func12, Tryd.ntmps12
  go_wp2_with fail
  go_loopw [5] (fun i wr => ∃ K : Nat, K ≤ 256 ∧ i = .int .i64 K ∧ Hid (∀ k, k < K → vsD k ≠ s) ∧ wr = w) (fun i _ => 256 - (intOf i).toNat)
  case atStart => exact ⟨0, by omega, rfl, Lib.hid (fun k h => absurd h (by omega)), rfl⟩
  case round =>
    obtain ⟨K, hK, rfl, hn, rfl⟩ := hrel
    by_cases hK2 : K = 256
    · subst hK2
      have hE := Lib.hid (vsE_none hn.out)
      clear hn
      go_wp2_with fail
      go_ret2
      exact ⟨ret_ib (by unfold vsC; rw [hE.out]) (by rw [hE.out]; rfl), rfl⟩
    have hK' : K < 256 := by omega
    have k3 : (0 : Int) ≤ K := by omega
    have k4 : (K : Int) < 256 := by omega
    have D1 := Lib.hid (vdec_any K wr hK' HH.out)
    have k5 : IntKind.u8.wrap (K : Int) = K := by rw [IntKind.wrap_u8]; omega
    have k6 : (K : Int) % 256 = K := by omega
    by_cases hs : vsD K = s
    · have hE := Lib.hid (vsE_some hK' hs)
      have hb : (vsD K == s) = true := by simpa using hs
      obtain ⟨d, hd⟩ : ∃ d, vsD K = d := ⟨_, rfl⟩
      rw [hd] at D1 hb
      clear hs hd hn
      go_wp2_with (go_at_call 10; refine D1.out.mono ?_; rintro e w' ⟨rfl, rfl⟩)
      go_ret2
      exact ⟨ret_ib (by unfold vsC; rw [hE.out]) (by rw [hE.out]; rfl), rfl⟩
    · have hN := Lib.hid (show ∀ k, k < K + 1 → vsD k ≠ s from fun k hk => by
        rcases Nat.lt_or_ge k K with h | h
        · exact hn.out k h
        · obtain rfl : k = K := by omega
          exact hs)
      have hb : (vsD K == s) = false := by simpa using hs
      obtain ⟨d, hd⟩ : ∃ d, vsD K = d := ⟨_, rfl⟩
      rw [hd] at D1 hb
      clear hs hd hn
      go_wp2_with (go_at_call 10; refine D1.out.mono ?_; rintro e w' ⟨rfl, rfl⟩)
      go_roundw
      case rel => exact ⟨K + 1, by omega, by go_num, hN, by trivial⟩
      case measure => simp [intOf]; omega
end Go.Proofs.YtlcplpjfkfnffaaDoor
