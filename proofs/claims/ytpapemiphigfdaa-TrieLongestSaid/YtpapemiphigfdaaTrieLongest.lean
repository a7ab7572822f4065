/- TrieLongest: the walk. -/
import Derived.Test.YtpapemiphigfdaaTrieQ
namespace Go.Proofs.Ytpapemiphigfdaa
set_option linter.unusedVariables false
open Go.RowKit
set_option maxHeartbeats 6400000 in
theorem trieLongest_any (n : Nat) (A : Option Addr) (c : Nat) (rows : List RowL) (A' : Option Addr) (c' : Nat) (zs : List Int) (A7 : Option Addr) (c7 : Nat) (ws : List Int) (w : World) (hr : RwAt w w.heap.size A n c rows) (hz : Rd w w.heap.size A' (zs.map (Value.int .u8))) (hzr : ∀ z ∈ zs, 0 ≤ z ∧ z ≤ 255) (hzc : zs.length ≤ c') (hzm : c' ≤ maxLen)
    (hw : Rd w w.heap.size A7 (ws.map (Value.int .i64))) (hwc : ws.length ≤ c7) (hwm : c7 ≤ maxLen) :
    Calls Try.prog 3 #[.slice A n c, .slice A' zs.length c', .slice A7 ws.length c7] w fun e w' => e = .returned (.bool true) ∧ Below w.heap.size w w' := by
  obtain ⟨rs, hrs⟩ : ∃ rs, rightR (rulesR rows) = rs := ⟨_, rfl⟩
  have hck := (right_rules rows).1
  have h40 := (right_rules rows).2
  rw [hrs] at hck h40
  obtain ⟨N, hN⟩ : ∃ N, N = rs.length := ⟨_, rfl⟩
  obtain ⟨Z, hZ⟩ : ∃ Z, Z = zs.length := ⟨_, rfl⟩
  obtain ⟨W7, hW7⟩ : ∃ W7, W7 = ws.length := ⟨_, rfl⟩
  obtain ⟨us, hus⟩ : ∃ us, somM zs = us := ⟨_, rfl⟩
  obtain ⟨M, hM⟩ : ∃ M, us.length = M := ⟨_, rfl⟩
  have hM60 : M ≤ 60 := by rw [← hM, ← hus]; exact somM_len zs
  rw [← hZ] at hzc ⊢
  rw [← hW7] at hwc ⊢
  rw [← hN] at h40
  unfold maxLen at hzm hwm
  have HR := Lib.hid hr
  have HRS := Lib.hid hrs
  have HCK := Lib.hid hck
  have HG := Lib.hid (good_of hck)
  have HN := Lib.hid hN
  have HZ := Lib.hid hz
  have HZR := Lib.hid hzr
  have HZL := Lib.hid hZ
  have HUS := Lib.hid hus
  have HM := Lib.hid hM
  have HW := Lib.hid hw
  have HWL := Lib.hid hW7
  clear hr hrs hck hN hz hzr hZ hus hM hw hW7
  go_enter Try.func3, Try.ntmps3
  go_wp2_with fail
  refine (tawake_any _).mono ?_
  rintro e w1 ⟨rfl, hb1⟩
  have hs1 := hb1.size
  go_wp2_with fail
  refine (right_any n A c rows w1.heap.size _ (HR.out.below hb1 hs1) (Nat.le_refl _) rs HRS.out).mono ?_
  rintro e w2 ⟨v2, rfl, ho2, hb2⟩
  have hs2 := hb2.size
  obtain ⟨A2, c2, rfl, hat2⟩ := ho2.form
  rw [← HN.out] at hat2 ⊢
  have HAT2 := Lib.hid hat2
  have hc2 := hat2.fits
  clear ho2 hat2
  go_wp2_with fail
  refine (of_good N A2 c2 rs w2.heap.size _ HAT2.out (Nat.le_refl _) HCK.out).mono ?_
  rintro e w3 ⟨T, ns, nV, oV, xs, ys, V, rfl, ho, ht, hb3⟩
  have hs3 := hb3.size
  have HTR := Lib.hid ho.at
  have HT := Lib.hid ht
  have HAT3 := Lib.hid (HAT2.out.below hb3 hs3)
  have hbE3 : Below w.heap.size w w3 := hb1.trans ((hb2.trans (hb3.mono hs2)).mono hs1)
  have hsE := hbE3.size
  clear ho ht hb1 hb2 hb3
  go_wp2_with fail
  refine (some_any Z A' c' zs w.heap.size w3 HZL.out (HZ.out.below hbE3 (Nat.le_refl _)) HZR.out hsE (by omega) hzc us M HUS.out HM.out).mono ?_
  rintro e w4 ⟨A5, c5, rfl, hu4, hb4⟩
  have hs4 := hb4.size
  obtain ⟨q1, q2, q3, q4⟩ := hu4.rd
  have HU4 := Lib.hid (q4.rd (Nat.le_refl w4.heap.size))
  have hbE4 := hbE3.trans (hb4.mono hsE)
  have HW4 := Lib.hid (HW.out.below hbE4 (Nat.le_refl _))
  have hsE4 := hbE4.size
  unfold maxLen at q3
  clear hu4 q1 q4
  obtain ⟨G, hG⟩ : ∃ G, G = w4.heap.size := ⟨_, rfl⟩
  obtain ⟨W5, hW5⟩ : ∃ W5, W5 = w4.alloc (.cells #[.slice A5 M c5, .slice A7 W7 c7, .slice none 0 0] 24) := ⟨_, rfl⟩
  have hba : Below w4.heap.size w4 W5 := by rw [hW5]; exact (Below.refl _ _).alloc (Nat.le_refl _) _
  have hq : W5.heap[G]? = some (.cells #[.slice A5 M c5, .slice A7 W7 c7, .slice none 0 0] 24 (0, 0)) := by rw [hW5, hG]; exact heap_alloc_new w4 _
  have hGs : W5.heap.size = G + 1 := by rw [hW5, hG]; simp
  have hx : ∀ K, K < 3 → ∃ Ax nx cx, ∃ vs : List Int, W5.cell? ⟨G, K, none⟩ = some (.slice Ax nx cx) ∧ nx = vs.length ∧ nx ≤ cx ∧ cx ≤ maxLen ∧ Rd W5 W5.heap.size Ax (vs.map (Value.int .i64)) := by
    intro K hK
    match K with
    | 0 => exact ⟨A5, M, c5, us, by rw [cell_of_row _ _ _ _ _ _ hq]; rfl, HM.out.symm, q2, by unfold maxLen; omega, HU4.out.below hba hba.size⟩
    | 1 => exact ⟨A7, W7, c7, ws, by rw [cell_of_row _ _ _ _ _ _ hq]; rfl, HWL.out, hwc, by unfold maxLen; omega, HW4.out.below (hba.mono hsE4) (by have := hba.size; omega)⟩
    | 2 => exact ⟨none, 0, 0, [], by rw [cell_of_row _ _ _ _ _ _ hq]; rfl, rfl, Nat.le_refl _, by simp [maxLen], .inl rfl⟩
    | K + 3 => omega
  have hb5 := hbE4.trans (hba.mono hsE4)
  have HX := Lib.hid hx
  have HTR5 := Lib.hid (HTR.out.below ((hb4.trans (hba.mono hs4)) : Below w3.heap.size w3 W5) (Nat.le_refl _))
  have HAT5 := Lib.hid (HAT3.out.below ((hb4.trans (hba.mono hs4)) : Below w3.heap.size w3 W5) (Nat.le_refl _))
  have h35 : w3.heap.size ≤ W5.heap.size := by have := hba.size; omega
  have hs5 := hb5.size
  have HW5 := Lib.hid hW5
  have HGG := Lib.hid hG
  clear hW5 hba hq hx hG
  go_wp2
  rw [← HGG.out, ← HW5.out]
  go_loopw [39] (fun i wr => ∃ (K : Nat), K ≤ 3 ∧ i = .int .i64 K ∧ Below W5.heap.size W5 wr) (fun i _ => 3 - (intOf i).toNat)
  case atStart => exact ⟨0, by omega, rfl, Below.refl _ _⟩
  case round =>
    obtain ⟨K, hK, rfl, hb⟩ := hrel
    have hsz := hb.size
    by_cases hKn : K = 3
    · subst hKn
      have hbE := hb5.trans (hb.mono hs5)
      go_wp2
      go_ret
      exact ⟨rfl, hbE⟩
    have hK' : K < 3 := by omega
    obtain ⟨Ax, nx, cx, vs, x1, x2, x3, x4, x5⟩ := HX.out K hK'
    have x6 := (hb.cell (p := ⟨G, K, none⟩) (by show G < _; omega)).trans x1
    have k3 : (0 : Int) ≤ K := by omega
    have k4 : (K : Int) < 3 := by omega
    have X2 := Lib.hid x2
    have X5 := Lib.hid x5
    unfold maxLen at x4
    clear x1 x2 x5 hKn
    obtain ⟨wo, rfl⟩ : ∃ wo : World, wo = wr := ⟨_, rfl⟩
    go_wp2
    go_loopw [12] (fun i wr => ∃ (J : Nat), J ≤ 12 ∧ i = .int .i64 J ∧ Below W5.heap.size W5 wr) (fun i _ => 12 - (intOf i).toNat)
    case atStart => exact ⟨0, by omega, rfl, hb⟩
    case round =>
      obtain ⟨J, hJ, rfl, hb'⟩ := hrel
      have hsz' := hb'.size
      by_cases hJ1 : J ≤ nx
      · by_cases hJ2 : J < 12
        · have hd1 : decide ((J : Int) ≤ (nx : Int)) = true := by simp; omega
          have hd2 : decide ((J : Int) < 12) = true := by simp; omega
          obtain ⟨a, b, o, hl, _⟩ := HG.out.long (vs.take J)
          have HL := Lib.hid hl
          have hln : J = (vs.take J).length := by simp; have := X2.out; omega
          have HLN := Lib.hid hln
          have k5 : (0 : Int) ≤ J := by omega
          have k6 : J ≤ cx := by omega
          have k7 : (J : Int) ≤ nx := by omega
          clear hl hln
          go_wp2_with fail
          refine (tlongest_any wr w3.heap.size T rs ns _ (HTR5.out.below (hb'.mono h35) (Nat.le_refl _)) HT.out (by omega) (fun r hr => (HG.out.side r hr).1) (paths_le HG.out) J Ax cx (vs.take J) W5.heap.size HLN.out (rd_tk J (X5.out.below hb' (Nat.le_refl _))) hsz' k6 (by unfold maxLen; omega) a b o HL.out).mono ?_
          rintro e w6 ⟨rfl, hb6⟩
          have hb7 := hb'.trans (hb6.mono hsz')
          have hs7 := hb7.size
          clear hb6
          go_wp2_with fail
          refine (llongest_any N J A2 Ax c2 cx rs (vs.take J) w3.heap.size W5.heap.size w6 (HAT5.out.below (hb7.mono h35) (Nat.le_refl _)) HLN.out (rd_tk J (X5.out.below hb7 (Nat.le_refl _))) k6 (by unfold maxLen; omega) (by omega) hs7 a b o HL.out).mono ?_
          rintro e w8 ⟨rfl, hb8⟩
          have hbE := hb7.trans (hb8.mono hs7)
          clear hb8
          cases o with
          | true =>
            go_wp2
            go_roundw
            case rel => exact ⟨J + 1, by omega, by go_num, hbE⟩
            case measure => simp [intOf]; omega
          | false =>
            go_wp2
            go_roundw
            case rel => exact ⟨J + 1, by omega, by go_num, hbE⟩
            case measure => simp [intOf]; omega
        · have hd1 : decide ((J : Int) ≤ (nx : Int)) = true := by simp; omega
          have hd2 : decide ((J : Int) < 12) = false := by simp; omega
          go_wp2
          go_roundw
          case rel => exact ⟨K + 1, by omega, by go_num, hb'⟩
          case measure => simp [intOf]; omega
      · have hd1 : decide ((J : Int) ≤ (nx : Int)) = false := by simp; omega
        go_wp2
        go_roundw
        case rel => exact ⟨K + 1, by omega, by go_num, hb'⟩
        case measure => simp [intOf]; omega
end Go.Proofs.Ytpapemiphigfdaa
