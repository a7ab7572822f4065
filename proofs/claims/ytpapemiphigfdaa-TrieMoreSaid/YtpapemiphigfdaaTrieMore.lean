/- TrieMore: the walk. -/
import Derived.Test.YtpapemiphigfdaaTrieP
namespace Go.Proofs.Ytpapemiphigfdaa
set_option linter.unusedVariables false
open Go.RowKit
set_option maxHeartbeats 3200000 in
theorem trieMore_any (n : Nat) (A : Option Addr) (c : Nat) (rows : List RowL) (A' : Option Addr) (c' : Nat) (zs : List Int) (w : World) (hr : RwAt w w.heap.size A n c rows) (hz : Rd w w.heap.size A' (zs.map (Value.int .u8))) (hzr : ∀ z ∈ zs, 0 ≤ z ∧ z ≤ 255) (hzc : zs.length ≤ c') (hzm : c' ≤ maxLen) :
    Calls Try.prog 7 #[.slice A n c, .slice A' zs.length c'] w fun e w' => e = .returned (.bool true) ∧ Below w.heap.size w w' := by
  obtain ⟨rs, hrs⟩ : ∃ rs, rightR (rulesR rows) = rs := ⟨_, rfl⟩
  have hck := (right_rules rows).1
  have h40 := (right_rules rows).2
  rw [hrs] at hck h40
  obtain ⟨N, hN⟩ : ∃ N, N = rs.length := ⟨_, rfl⟩
  obtain ⟨Z, hZ⟩ : ∃ Z, Z = zs.length := ⟨_, rfl⟩
  obtain ⟨us, hus⟩ : ∃ us, somM zs = us := ⟨_, rfl⟩
  obtain ⟨M, hM⟩ : ∃ M, us.length = M := ⟨_, rfl⟩
  have hM60 : M ≤ 60 := by rw [← hM, ← hus]; exact somM_len zs
  rw [← hZ] at hzc ⊢
  rw [← hN] at h40
  unfold maxLen at hzm
  have HR := Lib.hid hr
  have HRS := Lib.hid hrs
  have HCK := Lib.hid hck
  have HG := Lib.hid (good_of hck)
  have HN := Lib.hid hN
  have HZ := Lib.hid hz
  have HZR := Lib.hid hzr
  have HZL := Lib.hid hZ
  have HUS := Lib.hid hus
  have HM := Lib.hid hM
  clear hr hrs hck hN hz hzr hZ hus hM
  go_enter Try.func7, Try.ntmps7
  go_wp2_with fail
  refine (tawake_any _).mono ?_
  rintro e w1 ⟨rfl, hb1⟩
  have hs1 := hb1.size
  go_wp2_with fail
  refine (right_any n A c rows w1.heap.size _ (HR.out.below hb1 hs1) (Nat.le_refl _) rs HRS.out).mono ?_
  rintro e w2 ⟨v2, rfl, ho2, hb2⟩
  have hs2 := hb2.size
  obtain ⟨A2, c2, rfl, hat2⟩ := ho2.form
  rw [← HN.out] at hat2 ⊢
  have HAT2 := Lib.hid hat2
  clear ho2 hat2
  go_wp2_with fail
  refine (of_good N A2 c2 rs w2.heap.size _ HAT2.out (Nat.le_refl _) HCK.out).mono ?_
  rintro e w3 ⟨T, ns, nV, oV, xs, ys, V, rfl, ho, ht, hb3⟩
  have hs3 := hb3.size
  have HTR := Lib.hid ho.at
  have HT := Lib.hid ht
  have hbE3 : Below w.heap.size w w3 := hb1.trans ((hb2.trans (hb3.mono hs2)).mono hs1)
  have hsE := hbE3.size
  clear ho ht hb1 hb2 hb3
  go_wp2_with fail
  refine (some_any Z A' c' zs w.heap.size w3 HZL.out (HZ.out.below hbE3 (Nat.le_refl _)) HZR.out hsE (by omega) hzc us M HUS.out HM.out).mono ?_
  rintro e w4 ⟨A5, c5, rfl, hu4, hb4⟩
  have hs4 := hb4.size
  obtain ⟨q1, q2, q3, q4⟩ := hu4.rd
  have HU4 := Lib.hid (q4.rd (Nat.le_refl w4.heap.size))
  unfold maxLen at q3
  obtain ⟨o0, hlo⟩ := HG.out.none
  have HLO := Lib.hid hlo
  clear hu4 q1 q4 hlo
  go_wp2_with fail
  refine (tlongest_any w4 w3.heap.size T rs ns _ (HTR.out.below hb4 (Nat.le_refl _)) HT.out hs4 (fun r hr => (HG.out.side r hr).1) (paths_le HG.out) 0 none 0 [] w3.heap.size rfl (.inl rfl) hs4 (Nat.le_refl _) (by simp [maxLen]) (-1) 0 o0 HLO.out).mono ?_
  rintro e w5 ⟨rfl, hb5⟩
  have hs5 := hb5.size
  have hb35 := hb4.trans (hb5.mono hs4)
  have HU5 := Lib.hid (HU4.out.below hb5 (Nat.le_refl _))
  clear hb4
  go_wp2
  go_loopw [8, 9, 10, 39] (fun sk sn so i wr => ∃ (J : Nat) (k n0 : Int) (o : Bool), J ≤ M ∧ i = .int .i64 J ∧ sk = .int .i64 k ∧ sn = .int .i64 n0 ∧ so = .bool o ∧ Hid (longL rs (us.take J) = (k, n0, o)) ∧ Below w5.heap.size w5 wr) (fun _ _ _ i _ => M - (intOf i).toNat)
  case atStart => exact ⟨0, -1, 0, o0, by omega, rfl, rfl, rfl, rfl, by rw [List.take_zero]; exact HLO, Below.refl _ _⟩
  case round =>
    obtain ⟨J, k0, n0, o, hJ, rfl, rfl, rfl, rfl, hlk, hb⟩ := hrel
    have hsz := hb.size
    by_cases hJn : J = M
    · have hJ' : ¬ J < M := by omega
      clear hJn
      have hbE := hbE3.trans ((hb35.trans (hb.mono (by omega))).mono hsE)
      go_wp2
      go_ret
      exact ⟨rfl, hbE⟩
    have hJ' : J < M := by omega
    have hJ1 : J < us.length := by rw [HM.out]; exact hJ'
    obtain ⟨a, b, cc, hl2, _⟩ := HG.out.long (us.take (J + 1))
    obtain ⟨m1, m2, m3⟩ := HG.out.more hJ1 hlk.out hl2
    have HL2 := Lib.hid hl2
    have hl1 : (us.take (J + 1)).length = J + 1 := by simp; omega
    have HTK := Lib.hid hl1
    have k5 : (0 : Int) ≤ (J : Int) + 1 := by omega
    have k6 : J + 1 ≤ c5 := by omega
    have k7 : (J : Int) + 1 ≤ M := by omega
    have hbd := hb35.trans (hb.mono (by omega))
    clear hJn hl2 hl1
    go_wp2_with fail
    refine (tlongest_any wr w3.heap.size T rs ns _ (HTR.out.below hbd (Nat.le_refl _)) HT.out (by omega) (fun r hr => (HG.out.side r hr).1) (paths_le HG.out) (J + 1) A5 c5 (us.take (J + 1)) w5.heap.size HTK.out.symm (by
      have := (HU5.out.below (hb.mono hs5) hs5).take (J + 1)
      rw [← List.map_take] at this; exact this) hsz k6 (by unfold maxLen; omega) a b cc HL2.out).mono ?_
    rintro e w6 ⟨rfl, hb6⟩
    have hbE := hb.trans (hb6.mono hsz)
    clear hb6
    have g1 : decide (b < n0) = false := by simp; omega
    have g2 : decide (b > (J : Int) + 1) = false := by simp; omega
    cases o with
    | true =>
      go_wp2
      go_roundw
      case rel => exact ⟨J + 1, a, b, cc, by omega, by go_num, rfl, rfl, rfl, HL2, hbE⟩
      case measure => simp [intOf]; omega
    | false =>
      obtain ⟨rfl, rfl, rfl⟩ := m3 rfl
      go_wp2
      go_roundw
      case rel => exact ⟨J + 1, a, b, false, by omega, by go_num, rfl, rfl, rfl, HL2, hbE⟩
      case measure => simp [intOf]; omega
end Go.Proofs.Ytpapemiphigfdaa
