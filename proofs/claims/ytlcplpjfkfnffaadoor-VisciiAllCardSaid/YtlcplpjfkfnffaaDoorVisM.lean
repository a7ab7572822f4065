/- Layer 11: the bytes of VISCII in plain words: the table of the document; what Decode and Encode answer. -/
import Derived.Test.YtlcplpjfkfnffaaDoorVietM
namespace Go.Proofs.YtlcplpjfkfnffaaDoor
set_option linter.unusedVariables false
set_option linter.unusedSimpArgs false
set_option linter.unnecessarySimpa false
open Go.RowKit

/-- the scalars of the bytes from 80 on, as the program lists them -/
def hiVL : List Int := [0x1ea0, 0x1eae, 0x1eb0, 0x1eb6, 0x1ea4, 0x1ea6, 0x1ea8, 0x1eac, 0x1ebc, 0x1eb8, 0x1ebe, 0x1ec0, 0x1ec2, 0x1ec4, 0x1ec6, 0x1ed0, 0x1ed2, 0x1ed4, 0x1ed6, 0x1ed8, 0x1ee2, 0x1eda, 0x1edc, 0x1ede, 0x1eca, 0x1ece, 0x1ecc, 0x1ec8, 0x1ee6, 0x168, 0x1ee4, 0x1ef2, 0xd5, 0x1eaf, 0x1eb1, 0x1eb7, 0x1ea5, 0x1ea7, 0x1ea9, 0x1ead, 0x1ebd, 0x1eb9, 0x1ebf, 0x1ec1, 0x1ec3, 0x1ec5, 0x1ec7, 0x1ed1, 0x1ed3, 0x1ed5, 0x1ed7, 0x1ee0, 0x1a0, 0x1ed9, 0x1edd, 0x1edf, 0x1ecb, 0x1ef0, 0x1ee8, 0x1eea, 0x1eec, 0x1a1, 0x1edb, 0x1af, 0xc0, 0xc1, 0xc2, 0xc3, 0x1ea2, 0x102, 0x1eb3, 0x1eb5, 0xc8, 0xc9, 0xca, 0x1eba, 0xcc, 0xcd, 0x128, 0x1ef3, 0x110, 0x1ee9, 0xd2, 0xd3, 0xd4, 0x1ea1, 0x1ef7, 0x1eeb, 0x1eed, 0xd9, 0xda, 0x1ef9, 0x1ef5, 0xdd, 0x1ee1, 0x1b0, 0xe0, 0xe1, 0xe2, 0xe3, 0x1ea3, 0x103, 0x1eef, 0x1eab, 0xe8, 0xe9, 0xea, 0x1ebb, 0xec, 0xed, 0x129, 0x1ec9, 0x111, 0x1ef1, 0xf2, 0xf3, 0xf4, 0xf5, 0x1ecf, 0x1ecd, 0x1ee5, 0xf9, 0xfa, 0x169, 0x1ee7, 0xfd, 0x1ee3, 0x1eee]
/-- the scalars of all bytes -/
def visL : List Int := (List.range 128).map (fun k : Nat => if k = 2 then 0x1eb2 else if k = 5 then 0x1eb4 else if k = 6 then 0x1eaa else if k = 20 then 0x1ef6 else if k = 25 then 0x1ef8 else if k = 30 then 0x1ef4 else (k : Int)) ++ hiVL
/-- a byte's scalar -/
def vsD (k : Nat) : Int := visL.getD k 0
/-- a scalar's byte -/
def vsE (s : Int) : Option Nat := (List.range 256).find? fun k => vsD k == s
/-- what Encode answers -/
def vsC (s : Int) : Int := match vsE s with | some k => (k : Int) | none => 0
theorem hiVL_len : hiVL.length = 128 := by decide +kernel
theorem visL_len : visL.length = 256 := by decide +kernel
theorem visL_nodup : visL.Nodup := by decide +kernel
theorem vsD_at (k : Nat) (h : k < 256) : visL[k]'(by rw [visL_len]; exact h) = vsD k := by
  unfold vsD; rw [List.getD_eq_getElem?_getD, List.getElem?_eq_getElem (by rw [visL_len]; exact h)]; rfl
theorem vsD_inj (a b : Nat) (ha : a < 256) (hb : b < 256) (h : vsD a = vsD b) : a = b := by
  rw [← vsD_at a ha, ← vsD_at b hb] at h
  have hp := List.pairwise_iff_getElem.1 visL_nodup
  rcases Nat.lt_trichotomy a b with hl | hl | hl
  · exact absurd h (hp a b _ _ hl)
  · exact hl
  · exact absurd h.symm (hp b a _ _ hl)
theorem vsD_high (k : Nat) (h : k < 128) : hiVL.getD k 0 = vsD (128 + k) := by
  unfold vsD visL
  rw [List.getD_eq_getElem?_getD, List.getD_eq_getElem?_getD, List.getElem?_append_right (by simp)]
  simp
theorem vsD_low (k : Nat) (h : k < 128) : vsD k = if k = 2 then 0x1eb2 else if k = 5 then 0x1eb4 else if k = 6 then 0x1eaa else if k = 20 then 0x1ef6 else if k = 25 then 0x1ef8 else if k = 30 then 0x1ef4 else (k : Int) := by
  unfold vsD visL
  rw [List.getD_eq_getElem?_getD, List.getElem?_append_left (by simpa using h)]
  simp [h]
theorem vsD_range (k : Nat) : 0 ≤ vsD k ∧ vsD k ≤ 7930 := by
  by_cases h : k < 256
  · have := all_range (show (List.range 256).all (fun k => decide (0 ≤ vsD k ∧ vsD k ≤ 7930)) = true by decide +kernel) k h
    simpa using this
  · unfold vsD; rw [List.getD_eq_getElem?_getD, List.getElem?_eq_none (by rw [visL_len]; omega)]; decide
theorem vsE_some {s : Int} {k : Nat} (hk : k < 256) (h : vsD k = s) : vsE s = some k := by
  unfold vsE
  cases e : (List.range 256).find? (fun k => vsD k == s) with
  | some j =>
    have hj := List.mem_range.1 (List.mem_of_find?_eq_some e)
    have := List.find?_some e
    rw [vsD_inj j k hj hk (by rw [h]; simpa using this)]
  | none =>
    rw [List.find?_eq_none] at e
    exact absurd (by simpa using h) (e k (List.mem_range.2 hk))
theorem vsE_none {s : Int} (h : ∀ k, k < 256 → vsD k ≠ s) : vsE s = none := by
  unfold vsE
  rw [List.find?_eq_none]
  intro k hk
  simpa using h k (List.mem_range.1 hk)
theorem vsE_self (k : Nat) (h : k < 256) : vsE (vsD k) = some k := vsE_some h rfl
theorem vsE_spec {s : Int} {k : Nat} (h : vsE s = some k) : k < 256 ∧ vsD k = s := by
  unfold vsE at h
  exact ⟨List.mem_range.1 (List.mem_of_find?_eq_some h), by simpa using List.find?_some h⟩
theorem vsE_letter (k : Nat) (h : k < 148) : (vsE (LS k)).isSome = true ∧ vsD ((vsE (LS k)).getD 0) = LS k := by
  have := all_range (show (List.range 148).all (fun k => visL.contains (LS k)) = true by decide +kernel) k h
  rw [List.contains_iff_mem] at this
  obtain ⟨j, hj, he⟩ := List.getElem_of_mem this
  rw [visL_len] at hj
  rw [vsD_at j hj] at he
  rw [vsE_some hj he]
  exact ⟨rfl, he⟩
/-- bytes of ASCII -/
theorem vsE_ascii (k : Nat) (h : k < 128) : if 127 < vsD k then vsE (k : Int) = none ∧ k < 32 else vsE (k : Int) = some k := by
  split
  · rename_i h1
    have h2 := vsD_low k h
    have h6 : k = 2 ∨ k = 5 ∨ k = 6 ∨ k = 20 ∨ k = 25 ∨ k = 30 := by
      rw [h2] at h1
      (repeat' split at h1) <;> first | omega | simp_all
    rcases h6 with rfl | rfl | rfl | rfl | rfl | rfl <;> exact ⟨by decide +kernel, by decide⟩
  · rename_i h1
    have h2 := vsD_low k h
    refine vsE_some (by omega) ?_
    rw [h2] at h1 ⊢
    (repeat' split at h1) <;> simp_all
theorem vsD_above (k : Nat) (h : k < 256) (h1 : 128 ≤ k) : 127 < vsD k := by
  have := all_range (show (List.range 256).all (fun k => decide (128 ≤ k → 127 < vsD k)) = true by decide +kernel) k h
  exact of_decide_eq_true this h1
end Go.Proofs.YtlcplpjfkfnffaaDoor
