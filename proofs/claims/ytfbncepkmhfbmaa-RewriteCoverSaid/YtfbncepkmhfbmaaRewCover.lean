/- RewriteCover: the walk. -/
import Derived.Test.YtfbncepkmhfbmaaRewE
import Derived.Test.YtfbncepkmhfbmaaTrieP
namespace Go.Proofs.Ytfbncepkmhfbmaa
set_option linter.unusedVariables false
open Go.RowKit
theorem chain_end {ts : List Tk} {K : Nat} {p q : Int} (h : chain p (ts.drop K) q) (hK : ts.length ≤ K) : p = q := by
  rw [List.drop_of_length_le hK] at h; exact h
theorem chain_next {ts : List Tk} {K : Nat} {p q : Int} (h : chain p (ts.drop K) q) (hK : K < ts.length) : ts[K].pos = p ∧ chain (p + ts[K].size) (ts.drop (K + 1)) q := by
  rw [List.drop_eq_getElem_cons hK] at h; exact h
theorem chain_le : ∀ {ts : List Tk} {p q : Int}, (∀ t ∈ ts, TkP t) → chain p ts q → p ≤ q
  | [], p, q, _, h => by have h : p = q := h; omega
  | t :: ts, p, q, hp, ⟨_, h⟩ => by
    have h1 := chain_le (fun t ht => hp t (by simp [ht])) h
    have h2 := (hp t (by simp)).lo
    omega
set_option maxHeartbeats 6400000 in
theorem rewriteCover_any (n : Nat) (A : Option Addr) (c : Nat) (rows : List RowL) (A' : Option Addr) (c' : Nat) (zs : List Int) (w : World) (hr : RwAt w w.heap.size A n c rows) (hz : Rd w w.heap.size A' (zs.map (Value.int .u8))) (hzr : ∀ z ∈ zs, 0 ≤ z ∧ z ≤ 255) (hzc : zs.length ≤ c') (hzm : c' ≤ maxLen) :
    Calls Try.prog 5 #[.slice A n c, .slice A' zs.length c'] w fun e w' => e = .returned (.bool true) ∧ Below w.heap.size w w' := by
  obtain ⟨rs, hrs⟩ : ∃ rs, rightR (rulesR rows) = rs := ⟨_, rfl⟩
  have hck := (right_rules rows).1
  have h40 := (right_rules rows).2
  rw [hrs] at hck h40
  obtain ⟨N, hN⟩ : ∃ N, N = rs.length := ⟨_, rfl⟩
  obtain ⟨Z, hZ⟩ : ∃ Z, Z = zs.length := ⟨_, rfl⟩
  obtain ⟨us, hus⟩ : ∃ us, somM zs = us := ⟨_, rfl⟩
  obtain ⟨M, hM⟩ : ∃ M, us.length = M := ⟨_, rfl⟩
  have hM60 : M ≤ 60 := by rw [← hM, ← hus]; exact somM_len zs
  obtain ⟨ts, hts⟩ : ∃ ts, rewA rs 0 us = ts := ⟨_, rfl⟩
  obtain ⟨L, hL⟩ : ∃ L, ts.length = L := ⟨_, rfl⟩
  have hg := good_of hck
  have hL60 : L ≤ 60 := by have := hg.rew_len us 0; rw [hts, hL] at this; omega
  have hch := hg.rew_chain us 0
  rw [hts, hM, Int.zero_add] at hch
  have htk := hg.rew_tk us 0
  rw [hts] at htk
  rw [← hZ] at hzc ⊢
  rw [← hN] at h40
  unfold maxLen at hzm
  have HR := Lib.hid hr
  have HRS := Lib.hid hrs
  have HCK := Lib.hid hck
  have HN := Lib.hid hN
  have HZ := Lib.hid hz
  have HZR := Lib.hid hzr
  have HZL := Lib.hid hZ
  have HUS := Lib.hid hus
  have HM := Lib.hid hM
  have HTS := Lib.hid hts
  have HL := Lib.hid hL
  have HCH := Lib.hid hch
  have HTK := Lib.hid htk
  clear hr hrs hck hN hz hzr hZ hus hM hts hL hch htk hg
  go_enter Try.func5, Try.ntmps5
  go_wp2_with fail
  refine (rawake5_any _).mono ?_
  rintro e w1 ⟨rfl, hb1⟩
  have hs1 := hb1.size
  go_wp2_with fail
  refine (right_any n A c rows w1.heap.size _ (HR.out.below hb1 hs1) (Nat.le_refl _) rs HRS.out).mono ?_
  rintro e w2 ⟨v2, rfl, ho2, hb2⟩
  have hs2 := hb2.size
  obtain ⟨A2, c2, rfl, hat2⟩ := ho2.form
  rw [← HN.out] at hat2 ⊢
  have HAT2 := Lib.hid hat2
  clear ho2 hat2
  go_wp2_with fail
  refine (of_ok N A2 c2 rs w2.heap.size _ HAT2.out (Nat.le_refl _) HCK.out).mono ?_
  rintro e w3 ⟨T, rfl, ho, hb3⟩
  have hs3 := hb3.size
  have HO := Lib.hid ho
  have hbE3 : Below w.heap.size w w3 := hb1.trans ((hb2.trans (hb3.mono hs2)).mono hs1)
  have hsE := hbE3.size
  clear ho hb1 hb2 hb3
  go_wp2_with fail
  refine (some_any Z A' c' zs w.heap.size w3 HZL.out (HZ.out.below hbE3 (Nat.le_refl _)) HZR.out hsE (by omega) hzc us M HUS.out HM.out).mono ?_
  rintro e w4 ⟨A5, c5, rfl, hu4, hb4⟩
  have hs4 := hb4.size
  obtain ⟨q1, q2, q3, q4⟩ := hu4.rd
  have HU4 := Lib.hid (q4.rd (Nat.le_refl w4.heap.size))
  clear hu4 q1 q4
  go_wp2_with fail
  refine (rew_any w4 w3.heap.size T rs (HO.out.below hb4 (Nat.le_refl _)) hs4 M A5 c5 us w4.heap.size HM.out.symm HU4.out (Nat.le_refl _) q2 q3 (by omega) ts HTS.out).mono ?_
  rintro e w5 ⟨v5, rfl, ho5, hb5⟩
  obtain ⟨A6, c6, rfl, hat⟩ := ho5.form
  rw [HL.out] at hat ⊢
  have hbE5 := hbE3.trans ((hb4.trans (hb5.mono hs4)).mono hsE)
  have hs5 := hbE5.size
  have hc6 := hat.fits
  have hc61 := hat.small
  have HAT := Lib.hid hat
  unfold maxLen at hc61
  clear hat ho5 hb4 hb5
  go_wp2
  go_loopw [8, 31] (fun p i wr => ∃ (K : Nat) (P : Int), K ≤ L ∧ i = .int .i64 K ∧ p = .int .i64 P ∧ 0 ≤ P ∧ Hid (chain P (ts.drop K) M) ∧ Below w5.heap.size w5 wr) (fun _ i _ => L - (intOf i).toNat)
  case atStart => exact ⟨0, 0, by omega, rfl, rfl, by omega, HCH, Below.refl _ _⟩
  case round =>
    obtain ⟨K, P, hK, rfl, rfl, hP0, hch, hb⟩ := hrel
    have hsz := hb.size
    have hPM : P ≤ M := chain_le (fun t ht => HTK.out t (List.mem_of_mem_drop ht)) hch.out
    by_cases hKL : K = L
    · have hK' : ¬ K < L := by omega
      have hPE := chain_end hch.out (by rw [HL.out]; omega)
      subst hPE
      have hbE := hbE5.trans (hb.mono hs5)
      clear hKL
      go_wp2
      go_ret
      exact ⟨rfl, hbE⟩
    have hK' : K < L := by omega
    have hK1 : K < ts.length := by rw [HL.out]; exact hK'
    obtain ⟨hp, hnx⟩ := chain_next hch.out hK1
    have hnM : P + ts[K].size ≤ M := chain_le (fun t ht => HTK.out t (List.mem_of_mem_drop ht)) hnx
    obtain ⟨hlo, herr, hlen⟩ := HTK.out _ (List.getElem_mem hK1)
    obtain ⟨b, o, rfl, hbB, A1, n1, c1, g1, g2, g3, g4, e1, e2, e3, e4⟩ := HAT.out.at hK1
    have hcl : ∀ o', wr.cell? ⟨b, o', none⟩ = w5.cell? ⟨b, o', none⟩ := fun o' => hb.cell (p := ⟨b, o', none⟩) (by show b < _; omega)
    have k1 := (hcl _).trans g1
    have k2 := (hcl _).trans g2
    have k5 := (hcl _).trans g3
    have k6 := (hcl _).trans g4
    have k3 : (0 : Int) ≤ K := by omega
    have k4 : (K : Int) < L := by omega
    rw [hp] at k1
    have E1 := Lib.hid e1
    rw [← e1] at herr hlen
    obtain ⟨S, hS⟩ : ∃ S, S = ts[K].size := ⟨_, rfl⟩
    obtain ⟨E, hE⟩ : ∃ E, E = ts[K].err := ⟨_, rfl⟩
    rw [← hS] at k2 hlo herr hnx hnM
    rw [← hE] at k6 herr
    have HNX := Lib.hid hnx
    have hbr : ∀ o, Below w5.heap.size w5 (wr.alloc o) := fun o => hb.alloc hsz o
    have HBR := Lib.hid hbr
    have d1 : (P != P) = false := by simp
    have d2 : decide (S < 1) = false := by simp; omega
    clear hp e1 e4 hS hE hnx g1 g2 g3 g4 hcl hKL hbr
    rcases herr with ⟨rfl, rfl, ho0⟩ | ⟨rfl, hn1⟩
    · have hn0 : n1 = 0 := by rw [E1.out, ho0]; rfl
      subst hn0
      go_wp2
      go_roundw
      case rel => exact ⟨K + 1, P + 1, by omega, by go_num, rfl, by omega, HNX, HBR.out _⟩
      case measure => simp [intOf]; omega
    · have d3 : decide ((n1 : Int) > 0) = true := by simp; omega
      go_wp2
      go_roundw
      case rel => exact ⟨K + 1, P + S, by omega, by go_num, rfl, by omega, HNX, HBR.out _⟩
      case measure => simp [intOf]; omega
end Go.Proofs.Ytfbncepkmhfbmaa
