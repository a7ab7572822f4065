/- Layer 1: the law's own begins. -/
import Derived.Test.YtbigbkplhlmbmaaSame
import Derived.Test.YtbigbkplhlmbmaaBegM
namespace Go.Proofs.Ytbigbkplhlmbmaa
set_option linter.unusedVariables false
open Go.RowKit

theorem _root_.Go.RowKit.Below.drewN {B : Nat} {a w : World} (h : Below B a w) (n : Nat) : Below B a (w.drewN n) := ⟨h.os, h.tape, h.output, h.size, h.block⟩
def RetBeg (y : List Int) (w : World) (e : Ending) (w' : World) : Prop := ∃ r : Bool, e = .returned (.bool r) ∧ (r = true ↔ begP y) ∧ Below w.heap.size w w'

theorem begN_range (y : List Int) (n0 : Int) (h0 : 0 ≤ n0 ∧ n0 < 32) (hy : ∀ c ∈ y.drop 1, 128 ≤ c ∧ c ≤ 191) : ∀ j, j ≤ 3 → 0 ≤ begN y n0 j ∧ begN y n0 j ≤ 32 * 64 ^ j - 1
  | 0, _ => by show 0 ≤ n0 ∧ n0 ≤ 32 * 1 - 1; omega
  | j + 1, hj => by
    have ih := begN_range y n0 h0 hy j (by omega)
    have e : begN y n0 (j + 1) = begN y n0 j * 64 + (if j + 1 < y.length then y.getD (j + 1) 0 - 128 else 0) := rfl
    have hc : 0 ≤ (if j + 1 < y.length then y.getD (j + 1) 0 - 128 else 0) ∧ (if j + 1 < y.length then y.getD (j + 1) 0 - 128 else 0) ≤ 63 := by
      split
      · rename_i h
        have h1 := hy (y.getD (j + 1) 0) (by
          rw [List.getD_eq_getElem?_getD, List.getElem?_eq_getElem h]
          have := List.getElem_mem (l := y.drop 1) (n := j) (by simp; omega)
          simpa [Nat.add_comm] using this)
        omega
      · omega
    rw [e, Int.pow_succ]
    omega
theorem begN_big (y : List Int) (n0 : Int) (h0 : 0 ≤ n0 ∧ n0 < 32) (hy : ∀ c ∈ y.drop 1, 128 ≤ c ∧ c ≤ 191) (j : Nat) (hj : j ≤ 3) : 0 ≤ begN y n0 j ∧ begN y n0 j ≤ 8388607 := by
  have h := begN_range y n0 h0 hy j hj
  have : j = 0 ∨ j = 1 ∨ j = 2 ∨ j = 3 := by omega
  rcases this with rfl | rfl | rfl | rfl
  · have h' : begN y n0 0 ≤ 31 := h.2; omega
  · have h' : begN y n0 1 ≤ 2047 := h.2; omega
  · have h' : begN y n0 2 ≤ 131071 := h.2; omega
  · have h' : begN y n0 3 ≤ 8388607 := h.2; omega
theorem pow_step (k : Nat) (hk : k ≤ 3) : (64 : Int) ^ (k + 1) = 64 ^ k * 64 ∧ 1 ≤ (64 : Int) ^ k ∧ (64 : Int) ^ k ≤ 262144 := by
  have : k = 0 ∨ k = 1 ∨ k = 2 ∨ k = 3 := by omega
  rcases this with rfl | rfl | rfl | rfl <;> decide
theorem drop1_of {y : List Int} {P : Int → Prop} (h : ∀ j, j < y.length - 1 → P (y.getD (j + 1) 0)) : ∀ c ∈ y.drop 1, P c := by
  intro c hc
  obtain ⟨j, hj, rfl⟩ := List.getElem_of_mem hc
  rw [List.length_drop] at hj
  have := h j hj
  rw [List.getD_eq_getElem?_getD, List.getElem?_eq_getElem (by omega)] at this
  simpa [Nat.add_comm] using this
theorem beg_not {y : List Int} {j : Nat} (hj : j + 1 < y.length) (h : ¬ (128 ≤ y.getD (j + 1) 0 ∧ y.getD (j + 1) 0 ≤ 191)) : ¬ begP y := fun hp => h (hp.1 _ (by
  rw [List.getD_eq_getElem?_getD, List.getElem?_eq_getElem hj]
  have := List.getElem_mem (l := y.drop 1) (n := j) (by simp; omega)
  simpa [Nat.add_comm] using this))

set_option maxHeartbeats 1600000 in
theorem begins_low (b o m cap : Nat) (y : List Int) (w : World) (hm : m = y.length) (hy1 : 1 ≤ m) (hy4 : m ≤ 4) (hcl : ∀ j, j < y.length → w.cell? ⟨b, o + j, none⟩ = some (.int .u8 (y.getD j 0))) (hb : b < w.heap.size) (hr : ∀ z ∈ y, 0 ≤ z ∧ z ≤ 255)
    (hc : m ≤ cap) (hcap : ¬ cap = 1) (hcls : y.getD 0 0 < 192) :
    Calls Try.prog 29 #[.slice (some ⟨b, o, none⟩) m cap] w (RetBeg y w) := by
  obtain ⟨a, ha⟩ : ∃ a, a = y.getD 0 0 := ⟨_, rfl⟩
  rw [← ha] at hcls
  have k0 := hcl 0 (by omega)
  rw [← ha, Nat.add_zero] at k0
  have hra := getD_range hr 0 (by omega)
  rw [← ha] at hra
  have HA := Lib.hid ha
  have HCL := Lib.hid hcl
  have HM := Lib.hid hm
  have HR := Lib.hid hr
  clear ha hcl hm hr
  have f1 : ¬ (192 : Int) ≤ a := by omega
  have f2 : ¬ (224 : Int) ≤ a := by omega
  have f3 : ¬ (240 : Int) ≤ a := by omega
  go_enter Try.func29, Try.ntmps29
  go_wp2
  go_loop [15] (fun i => ∃ K : Nat, K ≤ m - 1 ∧ i = .int .i64 K ∧ ∀ j, j < K → 128 ≤ y.getD (j + 1) 0 ∧ y.getD (j + 1) 0 ≤ 191) (fun i => (m - 1) - (intOf i).toNat)
  case atStart => exact ⟨0, by omega, rfl, fun j hj => by omega⟩
  case round =>
    obtain ⟨K, hK, rfl, hok⟩ := hrel
    have HOK := Lib.hid hok
    clear hok
    by_cases hKm : K = m - 1
    · have hall : ∀ c ∈ y.drop 1, 128 ≤ c ∧ c ≤ 191 := drop1_of (fun j hj => HOK.out j (by have := HM.out; omega))
      have HALL := Lib.hid hall
      have hKm' : ¬ K < m - 1 := by omega
      clear hall hKm HOK
      go_wp2
      go_ret
      refine ⟨false, rfl, ?_, Below.refl _ _⟩
      simp only [Bool.false_eq_true, false_iff]
      intro hp
      have h2 := hp.2.1
      rw [← HA.out] at h2
      have := begSize_cases a
      omega
    have hKm' : K < m - 1 := by omega
    have k1 := HCL.out (K + 1) (by have := HM.out; omega)
    rw [show o + (K + 1) = o + 1 + K from by omega] at k1
    obtain ⟨c, hcz⟩ : ∃ c, c = y.getD (K + 1) 0 := ⟨_, rfl⟩
    rw [← hcz] at k1
    have HCZ := Lib.hid hcz
    have e4 : (0 : Int) ≤ K := by omega
    have e5 : (K : Int) < ((m - 1 : Nat) : Int) := by omega
    clear hcz hKm
    by_cases h1 : c < 128
    · have hne := beg_not (y := y) (j := K) (by have := HM.out; omega) (by rw [← HCZ.out]; omega)
      have HNE := Lib.hid hne
      clear hne
      go_wp2
      go_ret
      exact ⟨false, rfl, by simp [HNE.out], Below.refl _ _⟩
    by_cases h2 : 191 < c
    · have hne := beg_not (y := y) (j := K) (by have := HM.out; omega) (by rw [← HCZ.out]; omega)
      have HNE := Lib.hid hne
      clear hne
      go_wp2
      go_ret
      exact ⟨false, rfl, by simp [HNE.out], Below.refl _ _⟩
    have hok2 : ∀ j, j < K + 1 → 128 ≤ y.getD (j + 1) 0 ∧ y.getD (j + 1) 0 ≤ 191 := fun j hj => by
      by_cases e : j = K
      · rw [e, ← HCZ.out]; omega
      · exact HOK.out j (by omega)
    have HOK2 := Lib.hid hok2
    clear hok2
    go_wp2
    go_round
    case rel => exact ⟨K + 1, by omega, by go_num, HOK2.out⟩
    case measure => simp [intOf]; omega

set_option maxHeartbeats 1600000 in
theorem begins_s2 (b o m cap : Nat) (y : List Int) (w : World) (hm : m = y.length) (hy1 : 1 ≤ m) (hy4 : m ≤ 4) (hcl : ∀ j, j < y.length → w.cell? ⟨b, o + j, none⟩ = some (.int .u8 (y.getD j 0))) (hb : b < w.heap.size) (hr : ∀ z ∈ y, 0 ≤ z ∧ z ≤ 255)
    (hc : m ≤ cap) (hcap : ¬ cap = 1) (hcls : 192 ≤ y.getD 0 0 ∧ y.getD 0 0 < 224) :
    Calls Try.prog 29 #[.slice (some ⟨b, o, none⟩) m cap] w (RetBeg y w) := by
  obtain ⟨a, ha⟩ : ∃ a, a = y.getD 0 0 := ⟨_, rfl⟩
  rw [← ha] at hcls
  have k0 := hcl 0 (by omega)
  rw [← ha, Nat.add_zero] at k0
  have hra := getD_range hr 0 (by omega)
  rw [← ha] at hra
  have HA := Lib.hid ha
  have HCL := Lib.hid hcl
  have HM := Lib.hid hm
  have HR := Lib.hid hr
  clear ha hcl hm hr
  have f1 : (192 : Int) ≤ a := by omega
  have f2 : a < 224 := by omega
  go_enter Try.func29, Try.ntmps29
  go_wp2
  go_loop [15] (fun i => ∃ K : Nat, K ≤ m - 1 ∧ i = .int .i64 K ∧ ∀ j, j < K → 128 ≤ y.getD (j + 1) 0 ∧ y.getD (j + 1) 0 ≤ 191) (fun i => (m - 1) - (intOf i).toNat)
  case atStart => exact ⟨0, by omega, rfl, fun j hj => by omega⟩
  case round =>
    obtain ⟨K, hK, rfl, hok⟩ := hrel
    have HOK := Lib.hid hok
    clear hok
    by_cases hKm : K = m - 1
    · have hall : ∀ c ∈ y.drop 1, 128 ≤ c ∧ c ≤ 191 := drop1_of (fun j hj => HOK.out j (by have := HM.out; omega))
      have HALL := Lib.hid hall
      have hKm' : ¬ K < m - 1 := by omega
      clear hall hKm HOK
      by_cases hms : m < 2
      · have hn0 : 0 ≤ a - 192 ∧ a - 192 < 32 := by omega
        have HBIG := Lib.hid (begN_big y (a - 192) hn0 HALL.out)
        clear hn0
        go_wp2
        go_quiet (fail)
        obtain ⟨W, hW⟩ : ∃ W, W = w.drewN nq := ⟨_, rfl⟩
        have HCW := Lib.hid (show ∀ j, j < y.length → W.cell? ⟨b, o + j, none⟩ = some (.int .u8 (y.getD j 0)) by rw [hW]; exact HCL.out)
        have hbW : Below w.heap.size w W := by rw [hW]; exact (Below.refl _ _).drewN nq
        rw [← hW]
        clear hW k0
        go_wp2
        go_loop [6, 7] (fun n k => ∃ j : Nat, j ≤ 1 ∧ k = .int .i64 ((j : Int) + 1) ∧ n = .int .i64 (begN y (a - 192) j)) (fun _ k => 2 - (intOf k).toNat)
        case atStart => exact ⟨0, by omega, rfl, rfl⟩
        case round =>
          obtain ⟨j, hj, rfl, rfl⟩ := hrel
          have hbg := HBIG.out j (by omega)
          by_cases hjS : j = 1
          · have hjS' : ¬ (j : Int) + 1 < 2 := by omega
            obtain ⟨N, hN⟩ : ∃ N, N = begN y (a - 192) j := ⟨_, rfl⟩
            rw [← hN] at hbg ⊢
            have HN := Lib.hid (show N = begN y (a - 192) 1 by rw [hN, hjS])
            clear hN hjS
            go_wp2
            go_loop [8, 9] (fun d k => ∃ i : Nat, m + i ≤ 2 ∧ k = .int .i64 ((m : Int) + i) ∧ d = .int .i64 (64 ^ i)) (fun _ k => 2 - (intOf k).toNat)
            case atStart => exact ⟨0, by omega, by simp, rfl⟩
            case round =>
              obtain ⟨i, hi, rfl, rfl⟩ := hrel
              have hpw := pow_step i (by omega)
              obtain ⟨D, hD⟩ : ∃ D, D = (64 : Int) ^ i := ⟨_, rfl⟩
              rw [← hD] at hpw ⊢
              have HPW := Lib.hid hpw.1
              have hd1 : 1 ≤ D ∧ D ≤ 262144 := hpw.2
              by_cases hiS : m + i = 2
              · have hiS' : ¬ (m : Int) + i < 2 := by omega
                have HD' := Lib.hid (show D = 64 ^ (2 - m) by rw [hD, show 2 - m = i from by omega])
                clear hD hpw hiS
                obtain ⟨X, hX⟩ : ∃ X, X = max N 128 := ⟨_, rfl⟩
                have hmx : (if N < 128 then (128 : Int) else N) = X := by rw [hX]; split <;> omega
                have HX := Lib.hid hX
                have hXb : 0 ≤ X ∧ X ≤ 8388607 := by omega
                clear hX
                have hiff : begP y ↔ begAny 2 N D := by
                  unfold begP
                  have hs := begSize_cases a
                  have hsz : begSize a = 2 := by omega
                  have hn0 : begN0 a = a - 192 := by omega
                  rw [← HA.out, hsz, hn0, ← HM.out, ← HD'.out, show 2 - 1 = 1 from rfl, ← HN.out]
                  exact ⟨fun h => h.2.2, fun h => ⟨HALL.out, hms, h⟩⟩
                have HIFF := Lib.hid hiff
                obtain ⟨cs, hcs⟩ : ∃ cs, cs = [N, N + D - 1, X] := ⟨_, rfl⟩
                have HCS := Lib.hid hcs
                clear hiff hcs
                go_wp2
                obtain ⟨W3, hW3⟩ : ∃ W3, W3 = (W.alloc (.cells #[.int .i64 0, .int .i64 0, .int .i64 128, .int .i64 2048, .int .i64 65536] 3)).alloc (.cells #[.int .i64 N, .int .i64 (N + D - 1), .int .i64 X] 3) := ⟨_, rfl⟩
                obtain ⟨g, hg⟩ : ∃ g, g = W.heap.size + 1 := ⟨_, rfl⟩
                rw [← hW3, ← hg]
                have hc3 : ∀ j, j < 3 → W3.cell? ⟨g, j, none⟩ = some (.int .i64 (cs.getD j 0)) := by
                  have hnw : W3.heap[g]? = some (.cells #[.int .i64 N, .int .i64 (N + D - 1), .int .i64 X] 3 (0, 0)) := by
                    rw [hW3, hg]
                    have := heap_alloc_new (W.alloc (.cells #[.int .i64 0, .int .i64 0, .int .i64 128, .int .i64 2048, .int .i64 65536] 3)) (.cells #[.int .i64 N, .int .i64 (N + D - 1), .int .i64 X] 3)
                    simpa using this
                  intro j hj
                  rw [cell_of_row _ _ _ _ _ _ hnw, HCS.out]
                  have : j = 0 ∨ j = 1 ∨ j = 2 := by omega
                  rcases this with rfl | rfl | rfl <;> rfl
                have hg3 : g < W3.heap.size := by rw [hW3, hg]; simp
                have hb3 : Below w.heap.size w W3 := by rw [hW3]; exact (hbW.alloc hbW.size _).alloc (by have := hbW.size; simp; omega) _
                have HC3 := Lib.hid hc3
                clear hW3 hg hc3 hbW
                go_loopw [119] (fun i wr => ∃ k : Nat, k ≤ 3 ∧ i = .int .i64 k ∧ (∀ j, j < k → ¬ begPass 2 N D (cs.getD j 0)) ∧ Below W3.heap.size W3 wr) (fun i _ => 3 - (intOf i).toNat)
                case atStart => exact ⟨0, by omega, rfl, fun j hj => by omega, Below.refl _ _⟩
                case round =>
                  obtain ⟨k, hk, rfl, hno, hbr⟩ := hrel
                  have HNO := Lib.hid hno
                  clear hno
                  have hbz := hb3.trans (hbr.mono hb3.size)
                  by_cases hk3 : k = 3
                  · have hk3' : ¬ (k : Int) < 3 := by omega
                    have hno : ¬ begP y := by
                      rw [HIFF.out]
                      have q0 := HNO.out 0 (by omega)
                      have q1 := HNO.out 1 (by omega)
                      have q2 := HNO.out 2 (by omega)
                      rw [HCS.out] at q0 q1 q2
                      have e2 : X = max N (begMin 2) := HX.out
                      intro h
                      rcases h with h | h | h
                      · exact q0 h
                      · exact q1 h
                      · exact q2 (by rw [← e2] at h; exact h)
                    have HNP := Lib.hid hno
                    clear hno hk3
                    go_wp2
                    go_ret
                    exact ⟨false, rfl, by simp [HNP.out], hbz⟩
                  have hk3' : (k : Int) < 3 := by omega
                  have hkn : k < 3 := by omega
                  have k1 := (hbr.cell (p := ⟨g, k, none⟩) hg3).trans (HC3.out k hkn)
                  obtain ⟨s, hs⟩ : ∃ s, s = cs.getD k 0 := ⟨_, rfl⟩
                  rw [← hs] at k1
                  have HS := Lib.hid hs
                  have e6 : (0 : Int) ≤ k := by omega
                  have hnext : ¬ begPass 2 N D s → ∀ j, j < k + 1 → ¬ begPass 2 N D (cs.getD j 0) := fun hn j hj => by
                    by_cases e : j = k
                    · rw [e, ← HS.out]; exact hn
                    · exact HNO.out j (by omega)
                  have HNX := Lib.hid hnext
                  clear hs hk3 hnext
                  rcases (show s < N ∨ N ≤ s by omega) with p1 | p1
                  · have HQ := Lib.hid (HNX.out (fun h => by have := h.1; omega))
                    have p1' : ¬ N ≤ s := by omega
                    go_wp2
                    go_roundw
                    case rel => exact ⟨k + 1, by omega, by go_num, HQ.out, hbr⟩
                    case measure => simp [intOf]; omega
                  rcases (show N + D ≤ s ∨ s < N + D by omega) with p2 | p2
                  · have HQ := Lib.hid (HNX.out (fun h => by have := h.2.1; omega))
                    have p2' : ¬ s < N + D := by omega
                    go_wp2
                    go_roundw
                    case rel => exact ⟨k + 1, by omega, by go_num, HQ.out, hbr⟩
                    case measure => simp [intOf]; omega
                  cases p3 : scB s
                  · have HQ := Lib.hid (HNX.out (fun h => by have := h.2.2.1; rw [p3] at this; cases this))
                    go_wp2_with fail
                    refine (scalarL s _).mono ?_
                    rintro e w' ⟨rfl, rfl⟩
                    go_wp2
                    go_roundw
                    case rel => exact ⟨k + 1, by omega, by go_num, HQ.out, hbr⟩
                    case measure => simp [intOf]; omega
                  · have hsize : (strOfNums (encL s)).size = (encL s).length := strOfNums_size _
                    have hszi := encL_sz s p3
                    have P3 := Lib.hid p3
                    by_cases p4 : szI s = 2
                    · have hpass : begP y := by
                        rw [HIFF.out]
                        have hq : begPass 2 N D s := ⟨p1, p2, p3, p4⟩
                        have e2 : X = max N (begMin 2) := HX.out
                        have : k = 0 ∨ k = 1 ∨ k = 2 := by omega
                        rw [HS.out, HCS.out] at hq
                        rcases this with rfl | rfl | rfl
                        · exact .inl hq
                        · exact .inr (.inl hq)
                        · exact .inr (.inr (by rw [← e2]; exact hq))
                      have HPS := Lib.hid hpass
                      have heq : (((strOfNums (encL s)).size : Int) == 2) = true := by rw [hsize, hszi, p4]; rfl
                      clear hsize hszi p4 hpass
                      go_wp2_with fail
                      refine (scalarL s _).mono ?_
                      rintro e w' ⟨rfl, rfl⟩
                      go_wp2_with fail
                      refine (bytesL s _ P3.out).mono ?_
                      rintro e w' ⟨rfl, hb4⟩
                      go_wp2
                      go_ret
                      exact ⟨true, rfl, by simp [HPS.out], hbz.trans (hb4.mono hbz.size)⟩
                    · have HQ := Lib.hid (HNX.out (fun h => p4 h.2.2.2))
                      have heq : (((strOfNums (encL s)).size : Int) == 2) = false := by rw [hsize, hszi]; exact beq_eq_false_iff_ne.2 p4
                      clear hsize hszi p4
                      go_wp2_with fail
                      refine (scalarL s _).mono ?_
                      rintro e w' ⟨rfl, rfl⟩
                      go_wp2_with fail
                      refine (bytesL s _ P3.out).mono ?_
                      rintro e w' ⟨rfl, hb4⟩
                      go_wp2
                      go_roundw
                      case rel => exact ⟨k + 1, by omega, by go_num, HQ.out, hbr.trans (hb4.mono hbr.size)⟩
                      case measure => simp [intOf]; omega
              have hiS' : (m : Int) + i < 2 := by omega
              clear hpw hiS hD
              go_wp2
              go_round
              case rel => exact ⟨i + 1, by omega, by go_num, by rw [HPW.out]⟩
              case measure => simp [intOf]; omega
          have hjS' : (j : Int) + 1 < 2 := by omega
          clear hjS
          by_cases hjm : j + 1 < m
          · have k1 := HCW.out (j + 1) (by have := HM.out; omega)
            have hcb := HALL.out (y.getD (j + 1) 0) (by
              have hl : j + 1 < y.length := by have := HM.out; omega
              rw [List.getD_eq_getElem?_getD, List.getElem?_eq_getElem hl]
              have := List.getElem_mem (l := y.drop 1) (n := j) (by simp; omega)
              simpa [Nat.add_comm] using this)
            have HST := Lib.hid (show begN y (a - 192) (j + 1) = begN y (a - 192) j * 64 + (y.getD (j + 1) 0 - 128) by
              show begN y (a - 192) j * 64 + (if j + 1 < y.length then y.getD (j + 1) 0 - 128 else 0) = _
              rw [if_pos (by have := HM.out; omega)])
            obtain ⟨c, hcz⟩ : ∃ c, c = y.getD (j + 1) 0 := ⟨_, rfl⟩
            rw [← hcz] at k1 hcb HST
            have hjm' : (j : Int) + 1 < m := by omega
            have e6 : ((j : Int) + 1).toNat = j + 1 := by omega
            have e7 : (0 : Int) ≤ (j : Int) + 1 := by omega
            clear hcz
            go_wp2
            go_round
            case rel => exact ⟨j + 1, by omega, by go_num, by rw [HST.out]⟩
            case measure => simp [intOf]; omega
          · have hjm' : ¬ (j : Int) + 1 < m := by omega
            have HST := Lib.hid (show begN y (a - 192) (j + 1) = begN y (a - 192) j * 64 by
              show begN y (a - 192) j * 64 + (if j + 1 < y.length then y.getD (j + 1) 0 - 128 else 0) = _
              rw [if_neg (by have := HM.out; omega)]; omega)
            clear hjm
            go_wp2
            go_round
            case rel => exact ⟨j + 1, by omega, by go_num, by rw [HST.out]⟩
            case measure => simp [intOf]; omega
      · have hms' : (2 : Int) ≤ m := by omega
        go_wp2
        go_quiet (fail)
        go_wp2
        go_ret
        refine ⟨false, rfl, ?_, (Below.refl w.heap.size w).drewN _⟩
        simp only [Bool.false_eq_true, false_iff]
        intro hp
        have h2 := hp.2.1
        rw [← HA.out, ← HM.out] at h2
        have := begSize_cases a
        omega
    have hKm' : K < m - 1 := by omega
    have k1 := HCL.out (K + 1) (by have := HM.out; omega)
    rw [show o + (K + 1) = o + 1 + K from by omega] at k1
    obtain ⟨c, hcz⟩ : ∃ c, c = y.getD (K + 1) 0 := ⟨_, rfl⟩
    rw [← hcz] at k1
    have HCZ := Lib.hid hcz
    have e4 : (0 : Int) ≤ K := by omega
    have e5 : (K : Int) < ((m - 1 : Nat) : Int) := by omega
    clear hcz hKm
    by_cases h1 : c < 128
    · have hne := beg_not (y := y) (j := K) (by have := HM.out; omega) (by rw [← HCZ.out]; omega)
      have HNE := Lib.hid hne
      clear hne
      go_wp2
      go_ret
      exact ⟨false, rfl, by simp [HNE.out], Below.refl _ _⟩
    by_cases h2 : 191 < c
    · have hne := beg_not (y := y) (j := K) (by have := HM.out; omega) (by rw [← HCZ.out]; omega)
      have HNE := Lib.hid hne
      clear hne
      go_wp2
      go_ret
      exact ⟨false, rfl, by simp [HNE.out], Below.refl _ _⟩
    have hok2 : ∀ j, j < K + 1 → 128 ≤ y.getD (j + 1) 0 ∧ y.getD (j + 1) 0 ≤ 191 := fun j hj => by
      by_cases e : j = K
      · rw [e, ← HCZ.out]; omega
      · exact HOK.out j (by omega)
    have HOK2 := Lib.hid hok2
    clear hok2
    go_wp2
    go_round
    case rel => exact ⟨K + 1, by omega, by go_num, HOK2.out⟩
    case measure => simp [intOf]; omega

set_option maxHeartbeats 1600000 in
theorem begins_s3 (b o m cap : Nat) (y : List Int) (w : World) (hm : m = y.length) (hy1 : 1 ≤ m) (hy4 : m ≤ 4) (hcl : ∀ j, j < y.length → w.cell? ⟨b, o + j, none⟩ = some (.int .u8 (y.getD j 0))) (hb : b < w.heap.size) (hr : ∀ z ∈ y, 0 ≤ z ∧ z ≤ 255)
    (hc : m ≤ cap) (hcap : ¬ cap = 1) (hcls : 224 ≤ y.getD 0 0 ∧ y.getD 0 0 < 240) :
    Calls Try.prog 29 #[.slice (some ⟨b, o, none⟩) m cap] w (RetBeg y w) := by
  obtain ⟨a, ha⟩ : ∃ a, a = y.getD 0 0 := ⟨_, rfl⟩
  rw [← ha] at hcls
  have k0 := hcl 0 (by omega)
  rw [← ha, Nat.add_zero] at k0
  have hra := getD_range hr 0 (by omega)
  rw [← ha] at hra
  have HA := Lib.hid ha
  have HCL := Lib.hid hcl
  have HM := Lib.hid hm
  have HR := Lib.hid hr
  clear ha hcl hm hr
  have f1 : (192 : Int) ≤ a := by omega
  have f2 : ¬ a < 224 := by omega
  have f3 : (224 : Int) ≤ a := by omega
  have f4 : a < 240 := by omega
  go_enter Try.func29, Try.ntmps29
  go_wp2
  go_loop [15] (fun i => ∃ K : Nat, K ≤ m - 1 ∧ i = .int .i64 K ∧ ∀ j, j < K → 128 ≤ y.getD (j + 1) 0 ∧ y.getD (j + 1) 0 ≤ 191) (fun i => (m - 1) - (intOf i).toNat)
  case atStart => exact ⟨0, by omega, rfl, fun j hj => by omega⟩
  case round =>
    obtain ⟨K, hK, rfl, hok⟩ := hrel
    have HOK := Lib.hid hok
    clear hok
    by_cases hKm : K = m - 1
    · have hall : ∀ c ∈ y.drop 1, 128 ≤ c ∧ c ≤ 191 := drop1_of (fun j hj => HOK.out j (by have := HM.out; omega))
      have HALL := Lib.hid hall
      have hKm' : ¬ K < m - 1 := by omega
      clear hall hKm HOK
      by_cases hms : m < 3
      · have hn0 : 0 ≤ a - 224 ∧ a - 224 < 32 := by omega
        have HBIG := Lib.hid (begN_big y (a - 224) hn0 HALL.out)
        clear hn0
        go_wp2
        go_quiet (fail)
        obtain ⟨W, hW⟩ : ∃ W, W = w.drewN nq := ⟨_, rfl⟩
        have HCW := Lib.hid (show ∀ j, j < y.length → W.cell? ⟨b, o + j, none⟩ = some (.int .u8 (y.getD j 0)) by rw [hW]; exact HCL.out)
        have hbW : Below w.heap.size w W := by rw [hW]; exact (Below.refl _ _).drewN nq
        rw [← hW]
        clear hW k0
        go_wp2
        go_loop [6, 7] (fun n k => ∃ j : Nat, j ≤ 2 ∧ k = .int .i64 ((j : Int) + 1) ∧ n = .int .i64 (begN y (a - 224) j)) (fun _ k => 3 - (intOf k).toNat)
        case atStart => exact ⟨0, by omega, rfl, rfl⟩
        case round =>
          obtain ⟨j, hj, rfl, rfl⟩ := hrel
          have hbg := HBIG.out j (by omega)
          by_cases hjS : j = 2
          · have hjS' : ¬ (j : Int) + 1 < 3 := by omega
            obtain ⟨N, hN⟩ : ∃ N, N = begN y (a - 224) j := ⟨_, rfl⟩
            rw [← hN] at hbg ⊢
            have HN := Lib.hid (show N = begN y (a - 224) 2 by rw [hN, hjS])
            clear hN hjS
            go_wp2
            go_loop [8, 9] (fun d k => ∃ i : Nat, m + i ≤ 3 ∧ k = .int .i64 ((m : Int) + i) ∧ d = .int .i64 (64 ^ i)) (fun _ k => 3 - (intOf k).toNat)
            case atStart => exact ⟨0, by omega, by simp, rfl⟩
            case round =>
              obtain ⟨i, hi, rfl, rfl⟩ := hrel
              have hpw := pow_step i (by omega)
              obtain ⟨D, hD⟩ : ∃ D, D = (64 : Int) ^ i := ⟨_, rfl⟩
              rw [← hD] at hpw ⊢
              have HPW := Lib.hid hpw.1
              have hd1 : 1 ≤ D ∧ D ≤ 262144 := hpw.2
              by_cases hiS : m + i = 3
              · have hiS' : ¬ (m : Int) + i < 3 := by omega
                have HD' := Lib.hid (show D = 64 ^ (3 - m) by rw [hD, show 3 - m = i from by omega])
                clear hD hpw hiS
                obtain ⟨X, hX⟩ : ∃ X, X = max N 2048 := ⟨_, rfl⟩
                have hmx : (if N < 2048 then (2048 : Int) else N) = X := by rw [hX]; split <;> omega
                have HX := Lib.hid hX
                have hXb : 0 ≤ X ∧ X ≤ 8388607 := by omega
                clear hX
                have hiff : begP y ↔ begAny 3 N D := by
                  unfold begP
                  have hs := begSize_cases a
                  have hsz : begSize a = 3 := by omega
                  have hn0 : begN0 a = a - 224 := by omega
                  rw [← HA.out, hsz, hn0, ← HM.out, ← HD'.out, show 3 - 1 = 2 from rfl, ← HN.out]
                  exact ⟨fun h => h.2.2, fun h => ⟨HALL.out, hms, h⟩⟩
                have HIFF := Lib.hid hiff
                obtain ⟨cs, hcs⟩ : ∃ cs, cs = [N, N + D - 1, X] := ⟨_, rfl⟩
                have HCS := Lib.hid hcs
                clear hiff hcs
                go_wp2
                obtain ⟨W3, hW3⟩ : ∃ W3, W3 = (W.alloc (.cells #[.int .i64 0, .int .i64 0, .int .i64 128, .int .i64 2048, .int .i64 65536] 3)).alloc (.cells #[.int .i64 N, .int .i64 (N + D - 1), .int .i64 X] 3) := ⟨_, rfl⟩
                obtain ⟨g, hg⟩ : ∃ g, g = W.heap.size + 1 := ⟨_, rfl⟩
                rw [← hW3, ← hg]
                have hc3 : ∀ j, j < 3 → W3.cell? ⟨g, j, none⟩ = some (.int .i64 (cs.getD j 0)) := by
                  have hnw : W3.heap[g]? = some (.cells #[.int .i64 N, .int .i64 (N + D - 1), .int .i64 X] 3 (0, 0)) := by
                    rw [hW3, hg]
                    have := heap_alloc_new (W.alloc (.cells #[.int .i64 0, .int .i64 0, .int .i64 128, .int .i64 2048, .int .i64 65536] 3)) (.cells #[.int .i64 N, .int .i64 (N + D - 1), .int .i64 X] 3)
                    simpa using this
                  intro j hj
                  rw [cell_of_row _ _ _ _ _ _ hnw, HCS.out]
                  have : j = 0 ∨ j = 1 ∨ j = 2 := by omega
                  rcases this with rfl | rfl | rfl <;> rfl
                have hg3 : g < W3.heap.size := by rw [hW3, hg]; simp
                have hb3 : Below w.heap.size w W3 := by rw [hW3]; exact (hbW.alloc hbW.size _).alloc (by have := hbW.size; simp; omega) _
                have HC3 := Lib.hid hc3
                clear hW3 hg hc3 hbW
                go_loopw [119] (fun i wr => ∃ k : Nat, k ≤ 3 ∧ i = .int .i64 k ∧ (∀ j, j < k → ¬ begPass 3 N D (cs.getD j 0)) ∧ Below W3.heap.size W3 wr) (fun i _ => 3 - (intOf i).toNat)
                case atStart => exact ⟨0, by omega, rfl, fun j hj => by omega, Below.refl _ _⟩
                case round =>
                  obtain ⟨k, hk, rfl, hno, hbr⟩ := hrel
                  have HNO := Lib.hid hno
                  clear hno
                  have hbz := hb3.trans (hbr.mono hb3.size)
                  by_cases hk3 : k = 3
                  · have hk3' : ¬ (k : Int) < 3 := by omega
                    have hno : ¬ begP y := by
                      rw [HIFF.out]
                      have q0 := HNO.out 0 (by omega)
                      have q1 := HNO.out 1 (by omega)
                      have q2 := HNO.out 2 (by omega)
                      rw [HCS.out] at q0 q1 q2
                      have e2 : X = max N (begMin 3) := HX.out
                      intro h
                      rcases h with h | h | h
                      · exact q0 h
                      · exact q1 h
                      · exact q2 (by rw [← e2] at h; exact h)
                    have HNP := Lib.hid hno
                    clear hno hk3
                    go_wp2
                    go_ret
                    exact ⟨false, rfl, by simp [HNP.out], hbz⟩
                  have hk3' : (k : Int) < 3 := by omega
                  have hkn : k < 3 := by omega
                  have k1 := (hbr.cell (p := ⟨g, k, none⟩) hg3).trans (HC3.out k hkn)
                  obtain ⟨s, hs⟩ : ∃ s, s = cs.getD k 0 := ⟨_, rfl⟩
                  rw [← hs] at k1
                  have HS := Lib.hid hs
                  have e6 : (0 : Int) ≤ k := by omega
                  have hnext : ¬ begPass 3 N D s → ∀ j, j < k + 1 → ¬ begPass 3 N D (cs.getD j 0) := fun hn j hj => by
                    by_cases e : j = k
                    · rw [e, ← HS.out]; exact hn
                    · exact HNO.out j (by omega)
                  have HNX := Lib.hid hnext
                  clear hs hk3 hnext
                  rcases (show s < N ∨ N ≤ s by omega) with p1 | p1
                  · have HQ := Lib.hid (HNX.out (fun h => by have := h.1; omega))
                    have p1' : ¬ N ≤ s := by omega
                    go_wp2
                    go_roundw
                    case rel => exact ⟨k + 1, by omega, by go_num, HQ.out, hbr⟩
                    case measure => simp [intOf]; omega
                  rcases (show N + D ≤ s ∨ s < N + D by omega) with p2 | p2
                  · have HQ := Lib.hid (HNX.out (fun h => by have := h.2.1; omega))
                    have p2' : ¬ s < N + D := by omega
                    go_wp2
                    go_roundw
                    case rel => exact ⟨k + 1, by omega, by go_num, HQ.out, hbr⟩
                    case measure => simp [intOf]; omega
                  cases p3 : scB s
                  · have HQ := Lib.hid (HNX.out (fun h => by have := h.2.2.1; rw [p3] at this; cases this))
                    go_wp2_with fail
                    refine (scalarL s _).mono ?_
                    rintro e w' ⟨rfl, rfl⟩
                    go_wp2
                    go_roundw
                    case rel => exact ⟨k + 1, by omega, by go_num, HQ.out, hbr⟩
                    case measure => simp [intOf]; omega
                  · have hsize : (strOfNums (encL s)).size = (encL s).length := strOfNums_size _
                    have hszi := encL_sz s p3
                    have P3 := Lib.hid p3
                    by_cases p4 : szI s = 3
                    · have hpass : begP y := by
                        rw [HIFF.out]
                        have hq : begPass 3 N D s := ⟨p1, p2, p3, p4⟩
                        have e2 : X = max N (begMin 3) := HX.out
                        have : k = 0 ∨ k = 1 ∨ k = 2 := by omega
                        rw [HS.out, HCS.out] at hq
                        rcases this with rfl | rfl | rfl
                        · exact .inl hq
                        · exact .inr (.inl hq)
                        · exact .inr (.inr (by rw [← e2]; exact hq))
                      have HPS := Lib.hid hpass
                      have heq : (((strOfNums (encL s)).size : Int) == 3) = true := by rw [hsize, hszi, p4]; rfl
                      clear hsize hszi p4 hpass
                      go_wp2_with fail
                      refine (scalarL s _).mono ?_
                      rintro e w' ⟨rfl, rfl⟩
                      go_wp2_with fail
                      refine (bytesL s _ P3.out).mono ?_
                      rintro e w' ⟨rfl, hb4⟩
                      go_wp2
                      go_ret
                      exact ⟨true, rfl, by simp [HPS.out], hbz.trans (hb4.mono hbz.size)⟩
                    · have HQ := Lib.hid (HNX.out (fun h => p4 h.2.2.2))
                      have heq : (((strOfNums (encL s)).size : Int) == 3) = false := by rw [hsize, hszi]; exact beq_eq_false_iff_ne.2 p4
                      clear hsize hszi p4
                      go_wp2_with fail
                      refine (scalarL s _).mono ?_
                      rintro e w' ⟨rfl, rfl⟩
                      go_wp2_with fail
                      refine (bytesL s _ P3.out).mono ?_
                      rintro e w' ⟨rfl, hb4⟩
                      go_wp2
                      go_roundw
                      case rel => exact ⟨k + 1, by omega, by go_num, HQ.out, hbr.trans (hb4.mono hbr.size)⟩
                      case measure => simp [intOf]; omega
              have hiS' : (m : Int) + i < 3 := by omega
              clear hpw hiS hD
              go_wp2
              go_round
              case rel => exact ⟨i + 1, by omega, by go_num, by rw [HPW.out]⟩
              case measure => simp [intOf]; omega
          have hjS' : (j : Int) + 1 < 3 := by omega
          clear hjS
          by_cases hjm : j + 1 < m
          · have k1 := HCW.out (j + 1) (by have := HM.out; omega)
            have hcb := HALL.out (y.getD (j + 1) 0) (by
              have hl : j + 1 < y.length := by have := HM.out; omega
              rw [List.getD_eq_getElem?_getD, List.getElem?_eq_getElem hl]
              have := List.getElem_mem (l := y.drop 1) (n := j) (by simp; omega)
              simpa [Nat.add_comm] using this)
            have HST := Lib.hid (show begN y (a - 224) (j + 1) = begN y (a - 224) j * 64 + (y.getD (j + 1) 0 - 128) by
              show begN y (a - 224) j * 64 + (if j + 1 < y.length then y.getD (j + 1) 0 - 128 else 0) = _
              rw [if_pos (by have := HM.out; omega)])
            obtain ⟨c, hcz⟩ : ∃ c, c = y.getD (j + 1) 0 := ⟨_, rfl⟩
            rw [← hcz] at k1 hcb HST
            have hjm' : (j : Int) + 1 < m := by omega
            have e6 : ((j : Int) + 1).toNat = j + 1 := by omega
            have e7 : (0 : Int) ≤ (j : Int) + 1 := by omega
            clear hcz
            go_wp2
            go_round
            case rel => exact ⟨j + 1, by omega, by go_num, by rw [HST.out]⟩
            case measure => simp [intOf]; omega
          · have hjm' : ¬ (j : Int) + 1 < m := by omega
            have HST := Lib.hid (show begN y (a - 224) (j + 1) = begN y (a - 224) j * 64 by
              show begN y (a - 224) j * 64 + (if j + 1 < y.length then y.getD (j + 1) 0 - 128 else 0) = _
              rw [if_neg (by have := HM.out; omega)]; omega)
            clear hjm
            go_wp2
            go_round
            case rel => exact ⟨j + 1, by omega, by go_num, by rw [HST.out]⟩
            case measure => simp [intOf]; omega
      · have hms' : (3 : Int) ≤ m := by omega
        go_wp2
        go_quiet (fail)
        go_wp2
        go_ret
        refine ⟨false, rfl, ?_, (Below.refl w.heap.size w).drewN _⟩
        simp only [Bool.false_eq_true, false_iff]
        intro hp
        have h2 := hp.2.1
        rw [← HA.out, ← HM.out] at h2
        have := begSize_cases a
        omega
    have hKm' : K < m - 1 := by omega
    have k1 := HCL.out (K + 1) (by have := HM.out; omega)
    rw [show o + (K + 1) = o + 1 + K from by omega] at k1
    obtain ⟨c, hcz⟩ : ∃ c, c = y.getD (K + 1) 0 := ⟨_, rfl⟩
    rw [← hcz] at k1
    have HCZ := Lib.hid hcz
    have e4 : (0 : Int) ≤ K := by omega
    have e5 : (K : Int) < ((m - 1 : Nat) : Int) := by omega
    clear hcz hKm
    by_cases h1 : c < 128
    · have hne := beg_not (y := y) (j := K) (by have := HM.out; omega) (by rw [← HCZ.out]; omega)
      have HNE := Lib.hid hne
      clear hne
      go_wp2
      go_ret
      exact ⟨false, rfl, by simp [HNE.out], Below.refl _ _⟩
    by_cases h2 : 191 < c
    · have hne := beg_not (y := y) (j := K) (by have := HM.out; omega) (by rw [← HCZ.out]; omega)
      have HNE := Lib.hid hne
      clear hne
      go_wp2
      go_ret
      exact ⟨false, rfl, by simp [HNE.out], Below.refl _ _⟩
    have hok2 : ∀ j, j < K + 1 → 128 ≤ y.getD (j + 1) 0 ∧ y.getD (j + 1) 0 ≤ 191 := fun j hj => by
      by_cases e : j = K
      · rw [e, ← HCZ.out]; omega
      · exact HOK.out j (by omega)
    have HOK2 := Lib.hid hok2
    clear hok2
    go_wp2
    go_round
    case rel => exact ⟨K + 1, by omega, by go_num, HOK2.out⟩
    case measure => simp [intOf]; omega

set_option maxHeartbeats 1600000 in
theorem begins_s4 (b o m cap : Nat) (y : List Int) (w : World) (hm : m = y.length) (hy1 : 1 ≤ m) (hy4 : m ≤ 4) (hcl : ∀ j, j < y.length → w.cell? ⟨b, o + j, none⟩ = some (.int .u8 (y.getD j 0))) (hb : b < w.heap.size) (hr : ∀ z ∈ y, 0 ≤ z ∧ z ≤ 255)
    (hc : m ≤ cap) (hcap : ¬ cap = 1) (hcls : 240 ≤ y.getD 0 0 ∧ y.getD 0 0 < 248) :
    Calls Try.prog 29 #[.slice (some ⟨b, o, none⟩) m cap] w (RetBeg y w) := by
  obtain ⟨a, ha⟩ : ∃ a, a = y.getD 0 0 := ⟨_, rfl⟩
  rw [← ha] at hcls
  have k0 := hcl 0 (by omega)
  rw [← ha, Nat.add_zero] at k0
  have hra := getD_range hr 0 (by omega)
  rw [← ha] at hra
  have HA := Lib.hid ha
  have HCL := Lib.hid hcl
  have HM := Lib.hid hm
  have HR := Lib.hid hr
  clear ha hcl hm hr
  have f1 : (192 : Int) ≤ a := by omega
  have f2 : ¬ a < 224 := by omega
  have f3 : (224 : Int) ≤ a := by omega
  have f4 : ¬ a < 240 := by omega
  have f5 : (240 : Int) ≤ a := by omega
  have f6 : a < 248 := by omega
  go_enter Try.func29, Try.ntmps29
  go_wp2
  go_loop [15] (fun i => ∃ K : Nat, K ≤ m - 1 ∧ i = .int .i64 K ∧ ∀ j, j < K → 128 ≤ y.getD (j + 1) 0 ∧ y.getD (j + 1) 0 ≤ 191) (fun i => (m - 1) - (intOf i).toNat)
  case atStart => exact ⟨0, by omega, rfl, fun j hj => by omega⟩
  case round =>
    obtain ⟨K, hK, rfl, hok⟩ := hrel
    have HOK := Lib.hid hok
    clear hok
    by_cases hKm : K = m - 1
    · have hall : ∀ c ∈ y.drop 1, 128 ≤ c ∧ c ≤ 191 := drop1_of (fun j hj => HOK.out j (by have := HM.out; omega))
      have HALL := Lib.hid hall
      have hKm' : ¬ K < m - 1 := by omega
      clear hall hKm HOK
      by_cases hms : m < 4
      · have hn0 : 0 ≤ a - 240 ∧ a - 240 < 32 := by omega
        have HBIG := Lib.hid (begN_big y (a - 240) hn0 HALL.out)
        clear hn0
        go_wp2
        go_quiet (fail)
        obtain ⟨W, hW⟩ : ∃ W, W = w.drewN nq := ⟨_, rfl⟩
        have HCW := Lib.hid (show ∀ j, j < y.length → W.cell? ⟨b, o + j, none⟩ = some (.int .u8 (y.getD j 0)) by rw [hW]; exact HCL.out)
        have hbW : Below w.heap.size w W := by rw [hW]; exact (Below.refl _ _).drewN nq
        rw [← hW]
        clear hW k0
        go_wp2
        go_loop [6, 7] (fun n k => ∃ j : Nat, j ≤ 3 ∧ k = .int .i64 ((j : Int) + 1) ∧ n = .int .i64 (begN y (a - 240) j)) (fun _ k => 4 - (intOf k).toNat)
        case atStart => exact ⟨0, by omega, rfl, rfl⟩
        case round =>
          obtain ⟨j, hj, rfl, rfl⟩ := hrel
          have hbg := HBIG.out j (by omega)
          by_cases hjS : j = 3
          · have hjS' : ¬ (j : Int) + 1 < 4 := by omega
            obtain ⟨N, hN⟩ : ∃ N, N = begN y (a - 240) j := ⟨_, rfl⟩
            rw [← hN] at hbg ⊢
            have HN := Lib.hid (show N = begN y (a - 240) 3 by rw [hN, hjS])
            clear hN hjS
            go_wp2
            go_loop [8, 9] (fun d k => ∃ i : Nat, m + i ≤ 4 ∧ k = .int .i64 ((m : Int) + i) ∧ d = .int .i64 (64 ^ i)) (fun _ k => 4 - (intOf k).toNat)
            case atStart => exact ⟨0, by omega, by simp, rfl⟩
            case round =>
              obtain ⟨i, hi, rfl, rfl⟩ := hrel
              have hpw := pow_step i (by omega)
              obtain ⟨D, hD⟩ : ∃ D, D = (64 : Int) ^ i := ⟨_, rfl⟩
              rw [← hD] at hpw ⊢
              have HPW := Lib.hid hpw.1
              have hd1 : 1 ≤ D ∧ D ≤ 262144 := hpw.2
              by_cases hiS : m + i = 4
              · have hiS' : ¬ (m : Int) + i < 4 := by omega
                have HD' := Lib.hid (show D = 64 ^ (4 - m) by rw [hD, show 4 - m = i from by omega])
                clear hD hpw hiS
                obtain ⟨X, hX⟩ : ∃ X, X = max N 65536 := ⟨_, rfl⟩
                have hmx : (if N < 65536 then (65536 : Int) else N) = X := by rw [hX]; split <;> omega
                have HX := Lib.hid hX
                have hXb : 0 ≤ X ∧ X ≤ 8388607 := by omega
                clear hX
                have hiff : begP y ↔ begAny 4 N D := by
                  unfold begP
                  have hs := begSize_cases a
                  have hsz : begSize a = 4 := by omega
                  have hn0 : begN0 a = a - 240 := by omega
                  rw [← HA.out, hsz, hn0, ← HM.out, ← HD'.out, show 4 - 1 = 3 from rfl, ← HN.out]
                  exact ⟨fun h => h.2.2, fun h => ⟨HALL.out, hms, h⟩⟩
                have HIFF := Lib.hid hiff
                obtain ⟨cs, hcs⟩ : ∃ cs, cs = [N, N + D - 1, X] := ⟨_, rfl⟩
                have HCS := Lib.hid hcs
                clear hiff hcs
                go_wp2
                obtain ⟨W3, hW3⟩ : ∃ W3, W3 = (W.alloc (.cells #[.int .i64 0, .int .i64 0, .int .i64 128, .int .i64 2048, .int .i64 65536] 3)).alloc (.cells #[.int .i64 N, .int .i64 (N + D - 1), .int .i64 X] 3) := ⟨_, rfl⟩
                obtain ⟨g, hg⟩ : ∃ g, g = W.heap.size + 1 := ⟨_, rfl⟩
                rw [← hW3, ← hg]
                have hc3 : ∀ j, j < 3 → W3.cell? ⟨g, j, none⟩ = some (.int .i64 (cs.getD j 0)) := by
                  have hnw : W3.heap[g]? = some (.cells #[.int .i64 N, .int .i64 (N + D - 1), .int .i64 X] 3 (0, 0)) := by
                    rw [hW3, hg]
                    have := heap_alloc_new (W.alloc (.cells #[.int .i64 0, .int .i64 0, .int .i64 128, .int .i64 2048, .int .i64 65536] 3)) (.cells #[.int .i64 N, .int .i64 (N + D - 1), .int .i64 X] 3)
                    simpa using this
                  intro j hj
                  rw [cell_of_row _ _ _ _ _ _ hnw, HCS.out]
                  have : j = 0 ∨ j = 1 ∨ j = 2 := by omega
                  rcases this with rfl | rfl | rfl <;> rfl
                have hg3 : g < W3.heap.size := by rw [hW3, hg]; simp
                have hb3 : Below w.heap.size w W3 := by rw [hW3]; exact (hbW.alloc hbW.size _).alloc (by have := hbW.size; simp; omega) _
                have HC3 := Lib.hid hc3
                clear hW3 hg hc3 hbW
                go_loopw [119] (fun i wr => ∃ k : Nat, k ≤ 3 ∧ i = .int .i64 k ∧ (∀ j, j < k → ¬ begPass 4 N D (cs.getD j 0)) ∧ Below W3.heap.size W3 wr) (fun i _ => 3 - (intOf i).toNat)
                case atStart => exact ⟨0, by omega, rfl, fun j hj => by omega, Below.refl _ _⟩
                case round =>
                  obtain ⟨k, hk, rfl, hno, hbr⟩ := hrel
                  have HNO := Lib.hid hno
                  clear hno
                  have hbz := hb3.trans (hbr.mono hb3.size)
                  by_cases hk3 : k = 3
                  · have hk3' : ¬ (k : Int) < 3 := by omega
                    have hno : ¬ begP y := by
                      rw [HIFF.out]
                      have q0 := HNO.out 0 (by omega)
                      have q1 := HNO.out 1 (by omega)
                      have q2 := HNO.out 2 (by omega)
                      rw [HCS.out] at q0 q1 q2
                      have e2 : X = max N (begMin 4) := HX.out
                      intro h
                      rcases h with h | h | h
                      · exact q0 h
                      · exact q1 h
                      · exact q2 (by rw [← e2] at h; exact h)
                    have HNP := Lib.hid hno
                    clear hno hk3
                    go_wp2
                    go_ret
                    exact ⟨false, rfl, by simp [HNP.out], hbz⟩
                  have hk3' : (k : Int) < 3 := by omega
                  have hkn : k < 3 := by omega
                  have k1 := (hbr.cell (p := ⟨g, k, none⟩) hg3).trans (HC3.out k hkn)
                  obtain ⟨s, hs⟩ : ∃ s, s = cs.getD k 0 := ⟨_, rfl⟩
                  rw [← hs] at k1
                  have HS := Lib.hid hs
                  have e6 : (0 : Int) ≤ k := by omega
                  have hnext : ¬ begPass 4 N D s → ∀ j, j < k + 1 → ¬ begPass 4 N D (cs.getD j 0) := fun hn j hj => by
                    by_cases e : j = k
                    · rw [e, ← HS.out]; exact hn
                    · exact HNO.out j (by omega)
                  have HNX := Lib.hid hnext
                  clear hs hk3 hnext
                  rcases (show s < N ∨ N ≤ s by omega) with p1 | p1
                  · have HQ := Lib.hid (HNX.out (fun h => by have := h.1; omega))
                    have p1' : ¬ N ≤ s := by omega
                    go_wp2
                    go_roundw
                    case rel => exact ⟨k + 1, by omega, by go_num, HQ.out, hbr⟩
                    case measure => simp [intOf]; omega
                  rcases (show N + D ≤ s ∨ s < N + D by omega) with p2 | p2
                  · have HQ := Lib.hid (HNX.out (fun h => by have := h.2.1; omega))
                    have p2' : ¬ s < N + D := by omega
                    go_wp2
                    go_roundw
                    case rel => exact ⟨k + 1, by omega, by go_num, HQ.out, hbr⟩
                    case measure => simp [intOf]; omega
                  cases p3 : scB s
                  · have HQ := Lib.hid (HNX.out (fun h => by have := h.2.2.1; rw [p3] at this; cases this))
                    go_wp2_with fail
                    refine (scalarL s _).mono ?_
                    rintro e w' ⟨rfl, rfl⟩
                    go_wp2
                    go_roundw
                    case rel => exact ⟨k + 1, by omega, by go_num, HQ.out, hbr⟩
                    case measure => simp [intOf]; omega
                  · have hsize : (strOfNums (encL s)).size = (encL s).length := strOfNums_size _
                    have hszi := encL_sz s p3
                    have P3 := Lib.hid p3
                    by_cases p4 : szI s = 4
                    · have hpass : begP y := by
                        rw [HIFF.out]
                        have hq : begPass 4 N D s := ⟨p1, p2, p3, p4⟩
                        have e2 : X = max N (begMin 4) := HX.out
                        have : k = 0 ∨ k = 1 ∨ k = 2 := by omega
                        rw [HS.out, HCS.out] at hq
                        rcases this with rfl | rfl | rfl
                        · exact .inl hq
                        · exact .inr (.inl hq)
                        · exact .inr (.inr (by rw [← e2]; exact hq))
                      have HPS := Lib.hid hpass
                      have heq : (((strOfNums (encL s)).size : Int) == 4) = true := by rw [hsize, hszi, p4]; rfl
                      clear hsize hszi p4 hpass
                      go_wp2_with fail
                      refine (scalarL s _).mono ?_
                      rintro e w' ⟨rfl, rfl⟩
                      go_wp2_with fail
                      refine (bytesL s _ P3.out).mono ?_
                      rintro e w' ⟨rfl, hb4⟩
                      go_wp2
                      go_ret
                      exact ⟨true, rfl, by simp [HPS.out], hbz.trans (hb4.mono hbz.size)⟩
                    · have HQ := Lib.hid (HNX.out (fun h => p4 h.2.2.2))
                      have heq : (((strOfNums (encL s)).size : Int) == 4) = false := by rw [hsize, hszi]; exact beq_eq_false_iff_ne.2 p4
                      clear hsize hszi p4
                      go_wp2_with fail
                      refine (scalarL s _).mono ?_
                      rintro e w' ⟨rfl, rfl⟩
                      go_wp2_with fail
                      refine (bytesL s _ P3.out).mono ?_
                      rintro e w' ⟨rfl, hb4⟩
                      go_wp2
                      go_roundw
                      case rel => exact ⟨k + 1, by omega, by go_num, HQ.out, hbr.trans (hb4.mono hbr.size)⟩
                      case measure => simp [intOf]; omega
              have hiS' : (m : Int) + i < 4 := by omega
              clear hpw hiS hD
              go_wp2
              go_round
              case rel => exact ⟨i + 1, by omega, by go_num, by rw [HPW.out]⟩
              case measure => simp [intOf]; omega
          have hjS' : (j : Int) + 1 < 4 := by omega
          clear hjS
          by_cases hjm : j + 1 < m
          · have k1 := HCW.out (j + 1) (by have := HM.out; omega)
            have hcb := HALL.out (y.getD (j + 1) 0) (by
              have hl : j + 1 < y.length := by have := HM.out; omega
              rw [List.getD_eq_getElem?_getD, List.getElem?_eq_getElem hl]
              have := List.getElem_mem (l := y.drop 1) (n := j) (by simp; omega)
              simpa [Nat.add_comm] using this)
            have HST := Lib.hid (show begN y (a - 240) (j + 1) = begN y (a - 240) j * 64 + (y.getD (j + 1) 0 - 128) by
              show begN y (a - 240) j * 64 + (if j + 1 < y.length then y.getD (j + 1) 0 - 128 else 0) = _
              rw [if_pos (by have := HM.out; omega)])
            obtain ⟨c, hcz⟩ : ∃ c, c = y.getD (j + 1) 0 := ⟨_, rfl⟩
            rw [← hcz] at k1 hcb HST
            have hjm' : (j : Int) + 1 < m := by omega
            have e6 : ((j : Int) + 1).toNat = j + 1 := by omega
            have e7 : (0 : Int) ≤ (j : Int) + 1 := by omega
            clear hcz
            go_wp2
            go_round
            case rel => exact ⟨j + 1, by omega, by go_num, by rw [HST.out]⟩
            case measure => simp [intOf]; omega
          · have hjm' : ¬ (j : Int) + 1 < m := by omega
            have HST := Lib.hid (show begN y (a - 240) (j + 1) = begN y (a - 240) j * 64 by
              show begN y (a - 240) j * 64 + (if j + 1 < y.length then y.getD (j + 1) 0 - 128 else 0) = _
              rw [if_neg (by have := HM.out; omega)]; omega)
            clear hjm
            go_wp2
            go_round
            case rel => exact ⟨j + 1, by omega, by go_num, by rw [HST.out]⟩
            case measure => simp [intOf]; omega
      · have hms' : (4 : Int) ≤ m := by omega
        go_wp2
        go_quiet (fail)
        go_wp2
        go_ret
        refine ⟨false, rfl, ?_, (Below.refl w.heap.size w).drewN _⟩
        simp only [Bool.false_eq_true, false_iff]
        intro hp
        have h2 := hp.2.1
        rw [← HA.out, ← HM.out] at h2
        have := begSize_cases a
        omega
    have hKm' : K < m - 1 := by omega
    have k1 := HCL.out (K + 1) (by have := HM.out; omega)
    rw [show o + (K + 1) = o + 1 + K from by omega] at k1
    obtain ⟨c, hcz⟩ : ∃ c, c = y.getD (K + 1) 0 := ⟨_, rfl⟩
    rw [← hcz] at k1
    have HCZ := Lib.hid hcz
    have e4 : (0 : Int) ≤ K := by omega
    have e5 : (K : Int) < ((m - 1 : Nat) : Int) := by omega
    clear hcz hKm
    by_cases h1 : c < 128
    · have hne := beg_not (y := y) (j := K) (by have := HM.out; omega) (by rw [← HCZ.out]; omega)
      have HNE := Lib.hid hne
      clear hne
      go_wp2
      go_ret
      exact ⟨false, rfl, by simp [HNE.out], Below.refl _ _⟩
    by_cases h2 : 191 < c
    · have hne := beg_not (y := y) (j := K) (by have := HM.out; omega) (by rw [← HCZ.out]; omega)
      have HNE := Lib.hid hne
      clear hne
      go_wp2
      go_ret
      exact ⟨false, rfl, by simp [HNE.out], Below.refl _ _⟩
    have hok2 : ∀ j, j < K + 1 → 128 ≤ y.getD (j + 1) 0 ∧ y.getD (j + 1) 0 ≤ 191 := fun j hj => by
      by_cases e : j = K
      · rw [e, ← HCZ.out]; omega
      · exact HOK.out j (by omega)
    have HOK2 := Lib.hid hok2
    clear hok2
    go_wp2
    go_round
    case rel => exact ⟨K + 1, by omega, by go_num, HOK2.out⟩
    case measure => simp [intOf]; omega

set_option maxHeartbeats 1600000 in
theorem begins_high (b o m cap : Nat) (y : List Int) (w : World) (hm : m = y.length) (hy1 : 1 ≤ m) (hy4 : m ≤ 4) (hcl : ∀ j, j < y.length → w.cell? ⟨b, o + j, none⟩ = some (.int .u8 (y.getD j 0))) (hb : b < w.heap.size) (hr : ∀ z ∈ y, 0 ≤ z ∧ z ≤ 255)
    (hc : m ≤ cap) (hcap : ¬ cap = 1) (hcls : 248 ≤ y.getD 0 0) :
    Calls Try.prog 29 #[.slice (some ⟨b, o, none⟩) m cap] w (RetBeg y w) := by
  obtain ⟨a, ha⟩ : ∃ a, a = y.getD 0 0 := ⟨_, rfl⟩
  rw [← ha] at hcls
  have k0 := hcl 0 (by omega)
  rw [← ha, Nat.add_zero] at k0
  have hra := getD_range hr 0 (by omega)
  rw [← ha] at hra
  have HA := Lib.hid ha
  have HCL := Lib.hid hcl
  have HM := Lib.hid hm
  have HR := Lib.hid hr
  clear ha hcl hm hr
  have f1 : (192 : Int) ≤ a := by omega
  have f2 : ¬ a < 224 := by omega
  have f3 : (224 : Int) ≤ a := by omega
  have f4 : ¬ a < 240 := by omega
  have f5 : (240 : Int) ≤ a := by omega
  have f6 : ¬ a < 248 := by omega
  go_enter Try.func29, Try.ntmps29
  go_wp2
  go_loop [15] (fun i => ∃ K : Nat, K ≤ m - 1 ∧ i = .int .i64 K ∧ ∀ j, j < K → 128 ≤ y.getD (j + 1) 0 ∧ y.getD (j + 1) 0 ≤ 191) (fun i => (m - 1) - (intOf i).toNat)
  case atStart => exact ⟨0, by omega, rfl, fun j hj => by omega⟩
  case round =>
    obtain ⟨K, hK, rfl, hok⟩ := hrel
    have HOK := Lib.hid hok
    clear hok
    by_cases hKm : K = m - 1
    · have hall : ∀ c ∈ y.drop 1, 128 ≤ c ∧ c ≤ 191 := drop1_of (fun j hj => HOK.out j (by have := HM.out; omega))
      have HALL := Lib.hid hall
      have hKm' : ¬ K < m - 1 := by omega
      clear hall hKm HOK
      go_wp2
      go_ret
      refine ⟨false, rfl, ?_, Below.refl _ _⟩
      simp only [Bool.false_eq_true, false_iff]
      intro hp
      have h2 := hp.2.1
      rw [← HA.out] at h2
      have := begSize_cases a
      omega
    have hKm' : K < m - 1 := by omega
    have k1 := HCL.out (K + 1) (by have := HM.out; omega)
    rw [show o + (K + 1) = o + 1 + K from by omega] at k1
    obtain ⟨c, hcz⟩ : ∃ c, c = y.getD (K + 1) 0 := ⟨_, rfl⟩
    rw [← hcz] at k1
    have HCZ := Lib.hid hcz
    have e4 : (0 : Int) ≤ K := by omega
    have e5 : (K : Int) < ((m - 1 : Nat) : Int) := by omega
    clear hcz hKm
    by_cases h1 : c < 128
    · have hne := beg_not (y := y) (j := K) (by have := HM.out; omega) (by rw [← HCZ.out]; omega)
      have HNE := Lib.hid hne
      clear hne
      go_wp2
      go_ret
      exact ⟨false, rfl, by simp [HNE.out], Below.refl _ _⟩
    by_cases h2 : 191 < c
    · have hne := beg_not (y := y) (j := K) (by have := HM.out; omega) (by rw [← HCZ.out]; omega)
      have HNE := Lib.hid hne
      clear hne
      go_wp2
      go_ret
      exact ⟨false, rfl, by simp [HNE.out], Below.refl _ _⟩
    have hok2 : ∀ j, j < K + 1 → 128 ≤ y.getD (j + 1) 0 ∧ y.getD (j + 1) 0 ≤ 191 := fun j hj => by
      by_cases e : j = K
      · rw [e, ← HCZ.out]; omega
      · exact HOK.out j (by omega)
    have HOK2 := Lib.hid hok2
    clear hok2
    go_wp2
    go_round
    case rel => exact ⟨K + 1, by omega, by go_num, HOK2.out⟩
    case measure => simp [intOf]; omega

end Go.Proofs.Ytbigbkplhlmbmaa
