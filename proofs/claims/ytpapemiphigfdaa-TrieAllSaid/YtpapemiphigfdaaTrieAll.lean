/- TrieAll: the walk. -/
import Derived.Test.YtpapemiphigfdaaTrieE
import Derived.Test.YtpapemiphigfdaaTrieO
import Derived.Test.YtpapemiphigfdaaRuleK
namespace Go.Proofs.Ytpapemiphigfdaa
set_option linter.unusedVariables false
open Go.RowKit
set_option maxHeartbeats 3200000 in
theorem trieAll_any (n : Nat) (A : Option Addr) (c : Nat) (rows : List RowL) (w : World) (hr : RwAt w w.heap.size A n c rows) :
    Calls Try.prog 8 #[.slice A n c] w fun e w' => e = .returned (.bool true) ∧ Below w.heap.size w w' := by
  obtain ⟨rs, hrs⟩ : ∃ rs, rightR (rulesR rows) = rs := ⟨_, rfl⟩
  have hck := (right_rules rows).1
  have h40 := (right_rules rows).2
  rw [hrs] at hck h40
  obtain ⟨N, hN⟩ : ∃ N, N = rs.length := ⟨_, rfl⟩
  rw [← hN] at h40
  have HR := Lib.hid hr
  have HRS := Lib.hid hrs
  have HCK := Lib.hid hck
  have HG := Lib.hid (good_of hck)
  have HN := Lib.hid hN
  clear hr hrs hck hN
  go_enter Try.func8, Try.ntmps8
  go_wp2_with fail
  refine (tawake_any _).mono ?_
  rintro e w1 ⟨rfl, hb1⟩
  have hs1 := hb1.size
  go_wp2_with fail
  refine (right_any n A c rows w1.heap.size _ (HR.out.below hb1 hs1) (Nat.le_refl _) rs HRS.out).mono ?_
  rintro e w2 ⟨v2, rfl, ho2, hb2⟩
  have hs2 := hb2.size
  obtain ⟨A2, c2, rfl, hat2⟩ := ho2.form
  rw [← HN.out] at hat2 ⊢
  have HAT2 := Lib.hid hat2
  have hc2 := hat2.fits
  clear ho2 hat2
  go_wp2_with fail
  refine (of_good N A2 c2 rs w2.heap.size _ HAT2.out (Nat.le_refl _) HCK.out).mono ?_
  rintro e w3 ⟨T, ns, nV, oV, xs, ys, V, rfl, ho, ht, hb3⟩
  have hs3 := hb3.size
  have HTR := Lib.hid ho.at
  have HT := Lib.hid ht
  have HAT3 := Lib.hid (HAT2.out.below hb3 hs3)
  have hbE3 : Below w.heap.size w w3 := hb1.trans ((hb2.trans (hb3.mono hs2)).mono hs1)
  have hsE := hbE3.size
  clear ho ht hb1 hb2 hb3
  go_wp2
  go_loopw [31] (fun i wr => ∃ (K : Nat), K ≤ N ∧ i = .int .i64 K ∧ Below w3.heap.size w3 wr) (fun i _ => N - (intOf i).toNat)
  case atStart => exact ⟨0, by omega, rfl, Below.refl _ _⟩
  case round =>
    obtain ⟨K, hK, rfl, hb⟩ := hrel
    have hsz := hb.size
    by_cases hKn : K = N
    · have hK' : ¬ K < N := by omega
      obtain ⟨o, hlo⟩ := HG.out.none
      have HLO := Lib.hid hlo
      clear hKn hlo
      go_wp2_with fail
      refine (tlongest_any wr w3.heap.size T rs ns _ (HTR.out.below hb (Nat.le_refl _)) HT.out hsz (fun r hr => (HG.out.side r hr).1) (paths_le HG.out) 0 none 0 [] w3.heap.size rfl (.inl rfl) hsz (Nat.le_refl _) (by simp [maxLen]) (-1) 0 o HLO.out).mono ?_
      rintro e w4 ⟨rfl, hb4⟩
      have hbE := hbE3.trans ((hb.trans (hb4.mono hsz)).mono hsE)
      clear hb4
      go_wp2
      go_ret
      exact ⟨rfl, hbE⟩
    have hK' : K < N := by omega
    have hK1 : K < rs.length := by rw [← HN.out]; exact hK'
    obtain ⟨o, hlo⟩ := HG.out.own hK1
    obtain ⟨b, of_, rfl, hbB, A1, n1, c1, A3, n3, c3, g1, g2, e1, e2, e3, e4, f1, f2, f3, f4⟩ := HAT3.out.at hK1
    have k1 := (hb.cell (p := ⟨b, of_ + K * 2, none⟩) (by show b < _; omega)).trans g1
    have k2 := (hb.cell (p := ⟨b, of_ + K * 2 + 1, none⟩) (by show b < _; omega)).trans g2
    have k3 : (0 : Int) ≤ K := by omega
    have k4 : (K : Int) < N := by omega
    obtain ⟨In, hIn⟩ : ∃ In, In = rs[K].1 := ⟨_, rfl⟩
    rw [← hIn] at hlo e1 e4
    rw [← e1] at hlo
    have HLO := Lib.hid hlo
    have E1 := Lib.hid e1
    have hba : Below wr.heap.size wr (wr.alloc (.cells #[.slice A1 n1 c1, .slice A3 n3 c3] 41)) := (Below.refl _ _).alloc (Nat.le_refl _) _
    have E4 := Lib.hid (e4.below (hb.trans (hba.mono hsz)) (Nat.le_refl _))
    have hd : decide ((n1 : Int) ≠ n1) = false := by simp
    unfold maxLen at e3 f3
    clear g1 g2 e1 e4 f1 f4 hIn hlo hKn
    go_wp2_with fail
    refine (tlongest_any _ w3.heap.size T rs ns _ (HTR.out.below (hb.trans (hba.mono hsz)) (Nat.le_refl _)) HT.out (by simp; omega) (fun r hr => (HG.out.side r hr).1) (paths_le HG.out) n1 A1 c1 In w3.heap.size E1.out E4.out (by simp; omega) e2 (by unfold maxLen; omega) K n1 o HLO.out).mono ?_
    rintro e w4 ⟨rfl, hb4⟩
    have q0 : w4.cell? ⟨wr.heap.size, 0, none⟩ = some (.slice A1 n1 c1) := by rw [hb4.cell (p := ⟨wr.heap.size, 0, none⟩) (by simp)]; exact World.cell?_alloc_new (w := wr) _ _ 0
    have hbE := (hb.trans (hba.mono hsz)).trans (hb4.mono (by simp; omega))
    clear hb4 hba
    go_wp2
    go_roundw
    case rel => exact ⟨K + 1, by omega, by go_num, hbE⟩
    case measure => simp [intOf]; omega
end Go.Proofs.Ytpapemiphigfdaa
