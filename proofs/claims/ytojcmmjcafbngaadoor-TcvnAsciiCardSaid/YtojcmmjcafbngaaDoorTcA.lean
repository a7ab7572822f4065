/- Layer 12: contracts of Decode and Encode; what keeps the table. -/
import Derived.Test.YtojcmmjcafbngaaDoorTcM
import Derived.Test.YtojcmmjcafbngaaDoorMixe
import Derived.Test.YtojcmmjcafbngaaDoorGlob
import Derived.Test.YtojcmmjcafbngaaDoorProg
import Derived.Lib.LaidTab
namespace Go.Proofs.YtojcmmjcafbngaaDoor
set_option linter.unusedVariables false
set_option linter.unusedSimpArgs false
set_option linter.unnecessarySimpa false
open Go.RowKit

/-- the program's table of the bytes from a0 on, as a world holds it -/
def TcAt (w : World) : Prop := Lib.TabIs Tryd.prog w "lontar/tcvn.high" .u16 tcHL
theorem TcAt.cell {w : World} (h : TcAt w) (k : Nat) (hk : k < 96) : w.cell? ⟨0, k, none⟩ = some (.int .u16 (tcD (160 + k))) := by
  rw [tcD_high k hk]; exact Lib.TabIs.cell h (by kernel_rfl) k (by rw [tcHL_len]; exact hk)
theorem TcAt.stay {w w' : World} (h : TcAt w) (hb : Stay 0 w w') : TcAt w' := tab_block h (by kernel_rfl) hb
theorem TcAt.lt {w : World} (h : TcAt w) : 0 < w.heap.size := World.block_lt_of_cell? w _ (h.cell 0 (by decide))
theorem TcAt.below {w w' : World} (h : TcAt w) (hb : Below w.heap.size w w') : TcAt w' := h.stay (hb.block _ h.lt)
theorem TcAt.belowB {w w' : World} {B : Nat} (h : TcAt w) (hg : 0 < B) (hb : Below B w w') : TcAt w' := h.stay (hb.block _ hg)

theorem ret_ib {k : IntKind} {a c : Int} {b d : Bool} (h1 : a = c) (h2 : b = d) : Ending.returned (.tuple #[.int k c, .bool d]) = .returned (.tuple #[.int k a, .bool b]) := by
  rw [h1, h2]

set_option maxRecDepth 100000 in
set_option maxHeartbeats 1600000 in
theorem tdec_any (c : Nat) (w : World) (h1 : c < 256) (hh : TcAt w) :
    Calls Tryd.prog 10 #[.int .u8 (c : Int)] w fun e w' => e = .returned (.tuple #[.int .i64 (tcD c), .bool (tcK c)]) ∧ w' = w := by
  by_cases ha : 160 ≤ c
  · obtain ⟨k, hk⟩ : ∃ k : Nat, c = 160 + k := ⟨c - 160, by omega⟩
    have hk' : k < 96 := by omega
    have hc := hh.cell k hk'
    rw [← hk] at hc
    have hr := tcD_range c
    have hK := tcK_high c (by omega)
    obtain ⟨v, hv⟩ : ∃ v, tcD c = v := ⟨_, rfl⟩
    obtain ⟨b, hb⟩ : ∃ b, tcK c = b := ⟨_, rfl⟩
    rw [hv] at hc hr hK ⊢
    rw [hb] at hK ⊢
    obtain ⟨r0, r1⟩ := hr
    have e1 : (c : Int) - 160 = (k : Int) := by omega
    have hk0 : (0 : Int) ≤ k := by omega
    have hk96 : (k : Int) < 96 := by omega
    have hw1 : IntKind.i64.wrap v = v := by rw [IntKind.wrap_i64]; omega
    have hci : (160 : Int) ≤ (c : Int) := by omega
    have hne : (v != 0) = b := hK.symm
    obtain ⟨C, hC⟩ : ∃ C : Int, C = (c : Int) := ⟨_, rfl⟩
    have hC0 : 0 ≤ C ∧ C ≤ 255 := by omega
    rw [← hC] at e1 hci ⊢
    obtain ⟨hC1, hC2⟩ := hC0
    have n1 : ¬ C < 128 := by omega
    have n2 : ¬ C < 160 := by omega
    clear hv hh hk hC ha h1 hb hK
    go_enter Tryd.func10, Tryd.ntmps10
    go_wp2
    go_ret2
    exact ⟨rfl, rfl⟩
  by_cases hm : 128 ≤ c
  · have n1 : ¬ (c : Int) < 128 := by omega
    have n2 : (c : Int) < 160 := by omega
    rw [tcD_mid c hm (by omega), tcK_mid c hm (by omega)]
    clear ha hm hh h1
    go_enter Tryd.func10, Tryd.ntmps10
    go_wp2
    go_ret2
    exact ⟨rfl, rfl⟩
  · have n1 : (c : Int) < 128 := by omega
    have n0 : (0 : Int) ≤ c := by omega
    have hw1 : IntKind.i64.wrap (c : Int) = c := by rw [IntKind.wrap_i64]; omega
    rw [tcD_low c (by omega), tcK_low c (by omega)]
    clear ha hm hh h1
    go_enter Tryd.func10, Tryd.ntmps10
    go_wp2
    go_ret2
    exact ⟨rfl, rfl⟩

set_option maxRecDepth 100000 in
set_option maxHeartbeats 1600000 in
theorem tenc_any (s : Int) (w : World) (hh : TcAt w) :
    Calls Tryd.prog 12 #[.int .i64 s] w fun e w' => e = .returned (.tuple #[.int .u8 (tcC s), .bool (tcE s).isSome]) ∧ w' = w := by
  have HH := Lib.hid hh
  clear hh
  go_enter Tryd.func12, Tryd.ntmps12
  go_wp2_with fail
  go_loopw [7] (fun i wr => ∃ K : Nat, K ≤ 256 ∧ i = .int .i64 K ∧ Hid (∀ k, k < K → tcK k = true → tcD k ≠ s) ∧ wr = w) (fun i _ => 256 - (intOf i).toNat)
  case atStart => exact ⟨0, by omega, rfl, Lib.hid (fun k h => absurd h (by omega)), rfl⟩
  case round =>
    obtain ⟨K, hK, rfl, hn, rfl⟩ := hrel
    by_cases hK2 : K = 256
    · subst hK2
      have hE := Lib.hid (tcE_none hn.out)
      clear hn
      go_wp2_with fail
      go_ret2
      exact ⟨ret_ib (by unfold tcC; rw [hE.out]) (by rw [hE.out]; rfl), rfl⟩
    have hK' : K < 256 := by omega
    have k3 : (0 : Int) ≤ K := by omega
    have k4 : (K : Int) < 256 := by omega
    have D1 := Lib.hid (tdec_any K wr hK' HH.out)
    have k5 : IntKind.u8.wrap (K : Int) = K := by rw [IntKind.wrap_u8]; omega
    have k6 : (K : Int) % 256 = K := by omega
    by_cases hs : tcK K = true ∧ tcD K = s
    · have hE := Lib.hid (tcE_some hK' hs.1 hs.2)
      have hb : (tcD K == s) = true := by simpa using hs.2
      obtain ⟨d, hd⟩ : ∃ d, tcD K = d := ⟨_, rfl⟩
      rw [hd, hs.1] at D1
      rw [hd] at hb
      clear hs hd hn
      go_wp2_with (go_at_call 10; refine D1.out.mono ?_; rintro e w' ⟨rfl, rfl⟩)
      go_ret2
      exact ⟨ret_ib (by unfold tcC; rw [hE.out]) (by rw [hE.out]; rfl), rfl⟩
    · have hN := Lib.hid (show ∀ k, k < K + 1 → tcK k = true → tcD k ≠ s from fun k hk hkk => by
        rcases Nat.lt_or_ge k K with h | h
        · exact hn.out k h hkk
        · obtain rfl : k = K := by omega
          exact fun e => hs ⟨hkk, e⟩)
      cases hkk : tcK K with
      | true =>
        have hb : (tcD K == s) = false := by
          have : tcD K ≠ s := fun e => hs ⟨hkk, e⟩
          simpa using this
        obtain ⟨d, hd⟩ : ∃ d, tcD K = d := ⟨_, rfl⟩
        rw [hd, hkk] at D1
        rw [hd] at hb
        clear hs hd hn hkk
        go_wp2_with (go_at_call 10; refine D1.out.mono ?_; rintro e w' ⟨rfl, rfl⟩)
        go_roundw
        case rel => exact ⟨K + 1, by omega, by go_num, hN, by trivial⟩
        case measure => simp [intOf]; omega
      | false =>
        obtain ⟨d, hd⟩ : ∃ d, tcD K = d := ⟨_, rfl⟩
        rw [hd, hkk] at D1
        clear hs hd hn hkk
        go_wp2_with (go_at_call 10; refine D1.out.mono ?_; rintro e w' ⟨rfl, rfl⟩)
        go_roundw
        case rel => exact ⟨K + 1, by omega, by go_num, hN, by trivial⟩
        case measure => simp [intOf]; omega
end Go.Proofs.YtojcmmjcafbngaaDoor
