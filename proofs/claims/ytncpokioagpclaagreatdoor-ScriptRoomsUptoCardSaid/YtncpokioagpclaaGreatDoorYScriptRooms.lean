/- Layer 22: the law ScriptRooms. -/
import Derived.Test.YtncpokioagpclaaGreatDoorZ8
namespace Go.Proofs.YtncpokioagpclaaGreatDoor
set_option linter.unusedVariables false
set_option linter.unusedSimpArgs false
set_option linter.unnecessarySimpa false
open Go.RowKit
theorem acSum_app : ∀ a b : List Ac, acSum (a ++ b) = acSum a + acSum b
  | [], b => by simp [acSum]
  | x :: a, b => by simp only [List.cons_append, acSum, acSum_app a b]; omega
set_option maxRecDepth 100000 in
set_option maxHeartbeats 6400000 in
theorem scriptRooms_any (I : ScrApi) (A0 : Option Addr) (c0 : Nat) (zs : List Int) (w : World) (hI : I.OK w) (hr : Rd w w.heap.size A0 (zs.map (Value.int .u8))) (hb : ∀ u ∈ zs, 0 ≤ u ∧ u ≤ 255) (hc : zs.length ≤ c0) (hm : c0 ≤ maxLen) (hl : zs.length ≤ 1048576) :
    Calls Tryz.prog 10 #[.slice A0 zs.length c0] w fun e w' => e = .returned (.bool true) ∧ Below w.heap.size w w' := by
  obtain ⟨n, hn⟩ : ∃ n, zs.length = n := ⟨_, rfl⟩
  obtain ⟨hok, hsum⟩ := acts_ok zs.length zs hb
  have hlen := acts_len zs.length zs
  obtain ⟨az, has⟩ : ∃ az, actsL zs = az := ⟨_, rfl⟩
  rw [show actsF zs.length zs = az from has] at hok hsum hlen
  rw [hn] at hc hl hsum hlen ⊢
  have HI := Lib.hid hI
  have HR := Lib.hid hr
  have HB := Lib.hid hb
  have HN := Lib.hid hn
  have HAS := Lib.hid has
  have HOK := Lib.hid hok
  have HSUM := Lib.hid hsum
  have HC := Lib.hid (show n ≤ c0 ∧ c0 ≤ maxLen ∧ n ≤ 1048576 from ⟨hc, hm, hl⟩)
  obtain ⟨M, hM⟩ : ∃ M, az.length = M := ⟨_, rfl⟩
  rw [hM] at hlen
  have HM := Lib.hid hM
  clear hI hr hb hn has hok hsum hc hm hM
  go_enter Tryz.func10, Tryz.ntmps10
  go_wp2_with fail
  refine (awake22_any I w HI.out).mono ?_
  rintro e w1 ⟨rfl, hb1⟩
  have HB1 := Lib.hid hb1
  have C2 := Lib.hid (I.acts w1 n A0 c0 zs w1.heap.size az (I.keep HI.out hb1) HN.out (HR.out.below hb1 hb1.size) (Nat.le_refl _) HC.out.1 HC.out.2.1 HC.out.2.2 HB.out HAS.out)
  clear hb1
  go_wp2_with fail
  refine C2.out.mono ?_
  rintro e w2 ⟨v2, rfl, ho2, hb2⟩
  have HB2 := Lib.hid (HB1.out.trans (hb2.mono HB1.out.size))
  obtain ⟨A2, c2, hv2, -⟩ := ho2.form
  rw [HM.out] at hv2
  subst hv2
  have HO2 := Lib.hid ho2
  clear ho2 hb2 C2
  go_wp2_with fail
  go_loopw [3, 11] (fun s i wr => ∃ K : Nat, K ≤ M ∧ i = .int .i64 K ∧ s = .int .i64 (acSum (az.take K) : Nat) ∧ Hid (Below w2.heap.size w2 wr)) (fun _ i _ => M - (intOf i).toNat)
  case atStart => exact ⟨0, by omega, rfl, by simp [acSum], Lib.hid (Below.refl _ _)⟩
  case round =>
    obtain ⟨K, hK, rfl, rfl, hbr⟩ := hrel
    obtain ⟨wa, rfl⟩ : ∃ wa : World, wa = wr := ⟨_, rfl⟩
    have hs0 : acSum (az.take K) ≤ n := by
      have h1 := HSUM.out
      rw [← List.take_append_drop K az, acSum_app] at h1
      omega
    by_cases hKn : K = M
    · have hK' : ¬ K < M := by omega
      obtain ⟨S0, hS0⟩ : ∃ S, acSum (az.take K) = S := ⟨_, rfl⟩
      rw [hS0] at hs0 ⊢
      have hd : decide ((S0 : Int) ≤ n) = true := by simpa using hs0
      have HBB := Lib.hid (HB2.out.trans (hbr.out.mono HB2.out.size))
      clear hKn hS0
      go_wp2_with fail
      go_ret
      exact ⟨rfl, HBB.out⟩
    have hK' : K < M := by omega
    have hK1 : K < az.length := by rw [HM.out]; exact hK'
    have k3 : (0 : Int) ≤ K := by omega
    have k4 : (K : Int) < M := by omega
    obtain ⟨g, t, rfl, q0, q1, q2, hu⟩ := (HO2.out.below hbr.out).cells HM.out hK'
    obtain ⟨o1, o2, o3, o4, o5, o6⟩ := HOK.out _ (List.getElem_mem hK1)
    have htk : acSum (az.take (K + 1)) = acSum (az.take K) + (1 + (az[K]).text.length) := by
      rw [List.take_succ_eq_append_getElem hK1, acSum_app]; simp [acSum]
    have hs1 : acSum (az.take (K + 1)) ≤ n := by
      have h1 := HSUM.out
      rw [← List.take_append_drop (K + 1) az, acSum_app] at h1
      omega
    obtain ⟨a, haa⟩ : ∃ a, az[K] = a := ⟨_, rfl⟩
    rw [haa] at q0 q1 hu o1 o2 o3 o4 o5 o6 htk
    obtain ⟨kd, rm, tx⟩ := a
    simp only at q0 q1 hu o1 o2 o3 o4 o5 o6 htk
    obtain ⟨A3, c3, rfl, -, -, -⟩ := hu
    obtain ⟨m3, hm3⟩ : ∃ m, tx.length = m := ⟨_, rfl⟩
    rw [hm3] at q2 o3 htk
    have d1 : decide (rm < 12) = false := by simp; omega
    have d2 : decide (rm > 43) = false := by simp; omega
    have d3 : decide ((m3 : Int) > 31) = false := by simp; omega
    have d4 : decide (kd < 0) = false := by simp; omega
    have d5 : decide (kd > 2) = false := by simp; omega
    have HK0 := Lib.hid (show kd ≠ 0 → m3 = 0 from fun h => by rw [← hm3, o6 h]; rfl)
    obtain ⟨S0, hS0⟩ : ∃ S, acSum (az.take K) = S := ⟨_, rfl⟩
    rw [hS0] at htk hs0 ⊢
    have HTK := Lib.hid htk
    have HS1 := Lib.hid hs1
    have hb5 := below_allocT wa (.cells #[.int .i64 kd, .int .i64 rm, .slice A3 m3 c3] 81)
    have HBB := Lib.hid (hbr.out.trans (hb5.mono hbr.out.size))
    clear o6 haa hm3 htk hs1 hS0 hb5 hbr hKn hK1
    have hn9 : n ≤ 1048576 := HC.out.2.2
    by_cases hkd : kd = 0
    · subst hkd
      go_wp2_with fail
      go_roundw
      case rel => exact ⟨K + 1, by omega, by go_num, by rw [HTK.out]; go_num, HBB⟩
      case measure => simp [intOf]; omega
    · have dk : (kd != 0) = true := by simpa using hkd
      obtain rfl := HK0.out hkd
      have d6 : decide (((0 : Nat) : Int) > 0) = false := by decide
      go_wp2_with fail
      go_roundw
      case rel => exact ⟨K + 1, by omega, by go_num, by rw [HTK.out]; go_num, HBB⟩
      case measure => simp [intOf]; omega
end Go.Proofs.YtncpokioagpclaaGreatDoor
