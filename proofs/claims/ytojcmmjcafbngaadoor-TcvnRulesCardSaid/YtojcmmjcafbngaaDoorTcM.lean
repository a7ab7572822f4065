/- Layer 12: the bytes of TCVN3 in plain words: the table of the document; what Decode and Encode answer. -/
import Derived.Test.YtojcmmjcafbngaaDoorVietM
import Derived.Test.YtojcmmjcafbngaaDoorFlatP
namespace Go.Proofs.YtojcmmjcafbngaaDoor
set_option linter.unusedVariables false
set_option linter.unusedSimpArgs false
set_option linter.unnecessarySimpa false
open Go.RowKit

/-- the scalars of the bytes from a0 on, as the program lists them -/
def tcHL : List Int := [0, 0x102, 0xc2, 0xca, 0xd4, 0x1a0, 0x1af, 0x110, 0x103, 0xe2, 0xea, 0xf4, 0x1a1, 0x1b0, 0x111, 0, 0, 0, 0, 0, 0, 0xe0, 0x1ea3, 0xe3, 0xe1, 0x1ea1, 0, 0x1eb1, 0x1eb3, 0x1eb5, 0x1eaf, 0, 0, 0, 0, 0, 0, 0, 0x1eb7, 0x1ea7, 0x1ea9, 0x1eab, 0x1ea5, 0x1ead, 0xe8, 0, 0x1ebb, 0x1ebd, 0xe9, 0x1eb9, 0x1ec1, 0x1ec3, 0x1ec5, 0x1ebf, 0x1ec7, 0xec, 0x1ec9, 0, 0, 0, 0x129, 0xed, 0x1ecb, 0xf2, 0, 0x1ecf, 0xf5, 0xf3, 0x1ecd, 0x1ed3, 0x1ed5, 0x1ed7, 0x1ed1, 0x1ed9, 0x1edd, 0x1edf, 0x1ee1, 0x1edb, 0x1ee3, 0xf9, 0, 0x1ee7, 0x169, 0xfa, 0x1ee5, 0x1eeb, 0x1eed, 0x1eef, 0x1ee9, 0x1ef1, 0x1ef3, 0x1ef7, 0x1ef9, 0xfd, 0x1ef5, 0]
/-- the document's rows -/
def tcRowL : List (Int × Int) := [(0xa1, 0x102), (0xa2, 0xc2), (0xa3, 0xca), (0xa4, 0xd4), (0xa5, 0x1a0), (0xa6, 0x1af), (0xa7, 0x110), (0xa8, 0x103), (0xa9, 0xe2), (0xaa, 0xea), (0xab, 0xf4), (0xac, 0x1a1), (0xad, 0x1b0), (0xae, 0x111), (0xb5, 0xe0), (0xb6, 0x1ea3), (0xb7, 0xe3), (0xb8, 0xe1), (0xb9, 0x1ea1), (0xbb, 0x1eb1), (0xbc, 0x1eb3), (0xbd, 0x1eb5), (0xbe, 0x1eaf), (0xc6, 0x1eb7), (0xc7, 0x1ea7), (0xc8, 0x1ea9), (0xc9, 0x1eab), (0xca, 0x1ea5), (0xcb, 0x1ead), (0xcc, 0xe8), (0xce, 0x1ebb), (0xcf, 0x1ebd), (0xd0, 0xe9), (0xd1, 0x1eb9), (0xd2, 0x1ec1), (0xd3, 0x1ec3), (0xd4, 0x1ec5), (0xd5, 0x1ebf), (0xd6, 0x1ec7), (0xd7, 0xec), (0xd8, 0x1ec9), (0xdc, 0x129), (0xdd, 0xed), (0xde, 0x1ecb), (0xdf, 0xf2), (0xe1, 0x1ecf), (0xe2, 0xf5), (0xe3, 0xf3), (0xe4, 0x1ecd), (0xe5, 0x1ed3), (0xe6, 0x1ed5), (0xe7, 0x1ed7), (0xe8, 0x1ed1), (0xe9, 0x1ed9), (0xea, 0x1edd), (0xeb, 0x1edf), (0xec, 0x1ee1), (0xed, 0x1edb), (0xee, 0x1ee3), (0xef, 0xf9), (0xf1, 0x1ee7), (0xf2, 0x169), (0xf3, 0xfa), (0xf4, 0x1ee5), (0xf5, 0x1eeb), (0xf6, 0x1eed), (0xf7, 0x1eef), (0xf8, 0x1ee9), (0xf9, 0x1ef1), (0xfa, 0x1ef3), (0xfb, 0x1ef7), (0xfc, 0x1ef9), (0xfd, 0xfd), (0xfe, 0x1ef5)]
/-- a byte's scalar, 0 where there is none -/
def tcD (k : Nat) : Int := if k < 128 then (k : Int) else if k < 160 then 0 else tcHL.getD (k - 160) 0
/-- it has one -/
def tcK (k : Nat) : Bool := decide (k < 128) || tcD k != 0
/-- a scalar's byte -/
def tcE (s : Int) : Option Nat := (List.range 256).find? fun k => tcK k && tcD k == s
/-- what Encode answers -/
def tcC (s : Int) : Int := match tcE s with | some k => (k : Int) | none => 0
/-- the first n bytes that have scalars, with them -/
def tcP (n : Nat) : List (Int × Int) := ((List.range n).filter tcK).map fun k : Nat => ((k : Int), tcD k)
/-- the rules -/
def tcR : List Rl := singR (tcP 256)
/-- those of the first n bytes of ASCII, as the law has them -/
def tcN (n : Nat) : List Rl := (List.range n).map fun k : Nat => ([(k : Int)], [(k : Int)])
theorem tcHL_len : tcHL.length = 96 := by decide +kernel
theorem tcRowL_len : tcRowL.length = 74 := by decide +kernel
theorem tcD_low (k : Nat) (h : k < 128) : tcD k = (k : Int) := by unfold tcD; rw [if_pos h]
theorem tcK_low (k : Nat) (h : k < 128) : tcK k = true := by unfold tcK; simp [h]
theorem tcD_mid (k : Nat) (h : 128 ≤ k) (h1 : k < 160) : tcD k = 0 := by unfold tcD; rw [if_neg (by omega), if_pos h1]
theorem tcK_mid (k : Nat) (h : 128 ≤ k) (h1 : k < 160) : tcK k = false := by unfold tcK; rw [tcD_mid k h h1]; simp; omega
theorem tcD_high (k : Nat) (h : k < 96) : tcD (160 + k) = tcHL.getD k 0 := by
  unfold tcD; rw [if_neg (by omega), if_neg (by omega), show 160 + k - 160 = k by omega]
theorem tcK_high (k : Nat) (h : 128 ≤ k) : tcK k = (tcD k != 0) := by unfold tcK; rw [show decide (k < 128) = false by simp; omega]; rfl
theorem tcK_no {k : Nat} (h : tcK k = false) : tcD k = 0 := by
  unfold tcK at h; simp at h; exact h.2
theorem tcD_range (k : Nat) : 0 ≤ tcD k ∧ tcD k ≤ 7930 := by
  by_cases h : k < 256
  · have := all_range (show (List.range 256).all (fun k => decide (0 ≤ tcD k ∧ tcD k ≤ 7930)) = true by decide +kernel) k h
    simpa using this
  · unfold tcD; rw [if_neg (by omega), if_neg (by omega), List.getD_eq_getElem?_getD, List.getElem?_eq_none (by rw [tcHL_len]; omega)]; decide
theorem tcE_self (k : Nat) (h : k < 256) (hk : tcK k = true) : tcE (tcD k) = some k := by
  have := all_range (show (List.range 256).all (fun k => !tcK k || tcE (tcD k) == some k) = true by decide +kernel) k h
  simpa [hk] using this
theorem tcD_inj {a b : Nat} (ha : a < 256) (hb : b < 256) (ka : tcK a = true) (kb : tcK b = true) (h : tcD a = tcD b) : a = b := by
  have h1 := tcE_self a ha ka
  rw [h, tcE_self b hb kb] at h1
  exact (Option.some.inj h1).symm
theorem tcE_some {s : Int} {k : Nat} (hk : k < 256) (hK : tcK k = true) (h : tcD k = s) : tcE s = some k := by rw [← h]; exact tcE_self k hk hK
theorem tcE_none {s : Int} (h : ∀ k, k < 256 → tcK k = true → tcD k ≠ s) : tcE s = none := by
  unfold tcE
  rw [List.find?_eq_none]
  intro k hk
  have := h k (List.mem_range.1 hk)
  cases e : tcK k with
  | false => simp
  | true => simpa using this e
theorem tcE_spec {s : Int} {k : Nat} (h : tcE s = some k) : k < 256 ∧ tcK k = true ∧ tcD k = s := by
  unfold tcE at h
  have h1 := List.find?_some h
  simp only [Bool.and_eq_true, beq_iff_eq] at h1
  exact ⟨List.mem_range.1 (List.mem_of_find?_eq_some h), h1.1, h1.2⟩
theorem tcC_spec (s : Int) : 0 ≤ tcC s ∧ tcC s ≤ 255 := by
  unfold tcC
  cases e : tcE s with
  | none => decide
  | some k => have := (tcE_spec e).1; simp only; omega
/-- row K of the document's -/
theorem tcRow_at (K : Nat) (h : K < 74) : ∃ k : Nat, tcRowL.getD K (0, 0) = ((k : Int), tcD k) ∧ 128 ≤ k ∧ k < 256 ∧ tcK k = true := by
  have := all_range (show (List.range 74).all (fun K => decide (tcRowL.getD K (0, 0) = (((tcRowL.getD K (0, 0)).1.toNat : Int), tcD (tcRowL.getD K (0, 0)).1.toNat) ∧ 128 ≤ (tcRowL.getD K (0, 0)).1.toNat ∧ (tcRowL.getD K (0, 0)).1.toNat < 256 ∧ tcK (tcRowL.getD K (0, 0)).1.toNat = true)) = true by decide +kernel) K h
  exact ⟨_, of_decide_eq_true this⟩
theorem tcRow_has (k : Nat) (h : k < 256) (h1 : 128 ≤ k) (hk : tcK k = true) : ∃ K, K < 74 ∧ (tcRowL.getD K (0, 0)).1 = (k : Int) := by
  have := all_range (show (List.range 256).all (fun k => decide (128 ≤ k → tcK k = true → (tcRowL.any fun r => r.1 == (k : Int)) = true)) = true by decide +kernel) k h
  have h2 := of_decide_eq_true this h1 hk
  rw [List.any_eq_true] at h2
  obtain ⟨r, hr, he⟩ := h2
  obtain ⟨K, hK, rfl⟩ := List.getElem_of_mem hr
  refine ⟨K, by rw [tcRowL_len] at hK; exact hK, ?_⟩
  rw [List.getD_eq_getElem?_getD, List.getElem?_eq_getElem hK]
  simpa using he
theorem tcP_yes (n : Nat) (h : tcK n = true) : tcP (n + 1) = tcP n ++ [((n : Int), tcD n)] := by
  unfold tcP; rw [List.range_succ, List.filter_append, List.map_append]; simp [h]
theorem tcP_no (n : Nat) (h : tcK n = false) : tcP (n + 1) = tcP n := by
  unfold tcP; rw [List.range_succ, List.filter_append, List.map_append]; simp [h]
theorem tcP_le (n : Nat) : (tcP n).length ≤ n := by
  unfold tcP; rw [List.length_map]; exact Nat.le_trans (List.length_filter_le _ _) (by simp)
theorem tcP_len : (tcP 256).length = 202 := by decide +kernel
theorem tcR_len : tcR.length = 202 := by unfold tcR singR; rw [List.length_map]; exact tcP_len
theorem tcN_len (n : Nat) : (tcN n).length = n := by simp [tcN]
theorem tcN_succ (n : Nat) : tcN (n + 1) = tcN n ++ [([(n : Int)], [(n : Int)])] := by simp [tcN, List.range_succ]
theorem tcR_is : tcN 128 ++ singR tcRowL = tcR := by decide +kernel
theorem tcR_at (k : Nat) (h : k < 128) : tcR[k]'(by rw [tcR_len]; omega) = ([(k : Int)], [(k : Int)]) := by
  have h2 : k < (tcN 128).length := by rw [tcN_len]; exact h
  have : (tcN 128 ++ singR tcRowL)[k]'(by rw [List.length_append]; omega) = ([(k : Int)], [(k : Int)]) := by
    rw [List.getElem_append_left h2]; simp [tcN]
  simpa only [tcR_is] using this
/-- the letters -/
theorem tcE_letter (k : Nat) (h : k < 148) : (tcE (LS k)).isSome = (decide (k < 74) || LT k == 0) := by
  have := all_range (show (List.range 148).all (fun k => (tcE (LS k)).isSome == (decide (k < 74) || LT k == 0)) = true by decide +kernel) k h
  simpa using this
theorem tcD_letter (k : Nat) (h : k < 256) (h1 : 128 ≤ k) (hk : tcK k = true) : (findP (spP (tcD k))).isSome = true ∧ 127 < tcD k := by
  have := all_range (show (List.range 256).all (fun k => decide (128 ≤ k → tcK k = true → (findP (spP (tcD k))).isSome = true ∧ 127 < tcD k)) = true by decide +kernel) k h
  exact of_decide_eq_true this h1 hk
end Go.Proofs.YtojcmmjcafbngaaDoor
