/- Layer 8, plainly: the kinds, what may stand behind what, the first place that may not. -/
import Derived.Test.YtgeecngpmcjdpaaDoorThaiG
namespace Go.Proofs.YtgeecngpmcjdpaaDoor
set_option linter.unusedVariables false
open Go.RowKit

def kdR : List (List UInt8) := [[88, 65, 65, 65, 65, 65, 65, 82, 82, 82, 82, 82, 82, 82, 82, 82, 82],
  [88, 65, 65, 65, 83, 83, 65, 82, 82, 82, 82, 82, 82, 82, 82, 82, 82],
  [88, 65, 65, 65, 65, 83, 65, 67, 67, 67, 67, 67, 67, 67, 67, 67, 67],
  [88, 83, 65, 83, 83, 83, 83, 82, 82, 82, 82, 82, 82, 82, 82, 82, 82],
  [88, 83, 65, 83, 65, 83, 65, 82, 82, 82, 82, 82, 82, 82, 82, 82, 82],
  [88, 65, 65, 65, 65, 83, 65, 82, 82, 82, 82, 82, 82, 82, 82, 82, 82],
  [88, 65, 65, 65, 83, 65, 83, 82, 82, 82, 82, 82, 82, 82, 82, 82, 82],
  [88, 65, 65, 65, 65, 83, 65, 82, 82, 82, 67, 67, 82, 82, 82, 82, 82],
  [88, 65, 65, 65, 83, 83, 65, 82, 82, 82, 67, 82, 82, 82, 82, 82, 82],
  [88, 65, 65, 65, 83, 83, 65, 82, 82, 82, 82, 82, 82, 82, 82, 82, 82],
  [88, 65, 65, 65, 65, 65, 65, 82, 82, 82, 82, 82, 82, 82, 82, 82, 82],
  [88, 65, 65, 65, 83, 83, 65, 82, 82, 82, 82, 82, 82, 82, 82, 82, 82],
  [88, 65, 65, 65, 83, 83, 65, 82, 82, 82, 82, 82, 82, 82, 82, 82, 82],
  [88, 65, 65, 65, 83, 83, 65, 82, 82, 82, 82, 82, 82, 82, 82, 82, 82],
  [88, 65, 65, 65, 83, 83, 65, 82, 82, 82, 67, 67, 82, 82, 82, 82, 82],
  [88, 65, 65, 65, 83, 83, 65, 82, 82, 82, 67, 82, 82, 82, 82, 82, 82],
  [88, 65, 65, 65, 83, 83, 65, 82, 82, 82, 67, 82, 67, 82, 82, 82, 82]]
def kdF (a b : Int) : Int := if (0 ≤ a ∧ a < 17) ∧ (0 ≤ b ∧ b < 17) then (((kdR.getD a.toNat []).getD b.toNat 0).toNat : Int) else 82
def rowB (a : Nat) : ByteArray := ⟨(kdR.getD a []).toArray⟩
def allB : ByteArray := ⟨kdR.flatten.toArray⟩
theorem row_sizes : ((List.range 17).all fun a => (rowB a).size == 17) = true := by decide +kernel
theorem row_size (a : Nat) (h : a < 17) : (rowB a).size = 17 := by
  have := List.all_eq_true.1 row_sizes a (List.mem_range.2 h); simpa using this
theorem all_size : allB.size = 289 := by decide +kernel
theorem all_same : ((List.range 17).all fun a => (List.range 17).all fun b => kdR.flatten.getD (17 * a + b) 0 == (kdR.getD a []).getD b 0) = true := by decide +kernel
theorem kd_pos : ((List.range 17).all fun a => (List.range 17).all fun b => decide (((kdR.getD a []).getD b 0).toNat ≤ 88)) = true := by decide +kernel
theorem bytes_at (s : List UInt8) (i : Nat) (h : i < (ByteArray.mk s.toArray).size) : (ByteArray.mk s.toArray)[i] = s.getD i 0 := by
  have h' : i < s.length := by simpa [ByteArray.size] using h
  show s.toArray[i] = _
  simp [List.getD_eq_getElem?_getD, List.getElem?_eq_getElem h']
theorem kdF_in {a b : Int} (ha : 0 ≤ a ∧ a < 17) (hb : 0 ≤ b ∧ b < 17) : kdF a b = (((kdR.getD a.toNat []).getD b.toNat 0).toNat : Int) := by unfold kdF; rw [if_pos ⟨ha, hb⟩]
theorem kdF_out {a b : Int} (h : ¬ ((0 ≤ a ∧ a < 17) ∧ (0 ≤ b ∧ b < 17))) : kdF a b = 82 := by unfold kdF; rw [if_neg h]
theorem row_index {P : Program} (W : World) (t : TypeId) (k : IntKind) (a b : Int) (ht : P.underlying t = some .string) (ha : 0 ≤ a ∧ a < 17) (hb : 0 ≤ b ∧ b < 17) :
    (Instr.index t (.string (rowB a.toNat)) (.int k b)).run P W = .ok (.int .u8 (kdF a b)) W := by
  have hs := row_size a.toNat (by omega)
  rw [run_index_string W t _ k b ht, dif_pos ⟨hb.1, by rw [hs]; omega⟩, kdF_in ha hb]
  unfold rowB
  rw [bytes_at]
theorem all_index {P : Program} (W : World) (t : TypeId) (k : IntKind) (a b : Int) (ht : P.underlying t = some .string) (ha : 0 ≤ a ∧ a < 17) (hb : 0 ≤ b ∧ b < 17) :
    (Instr.index t (.string allB) (.int k (17 * a + b))).run P W = .ok (.int .u8 (kdF a b)) W := by
  have hs := all_size
  rw [run_index_string W t _ k _ ht, dif_pos ⟨by omega, by rw [hs]; omega⟩, kdF_in ha hb]
  unfold allB
  rw [bytes_at]
  have h1 := List.all_eq_true.1 all_same a.toNat (List.mem_range.2 (by omega))
  have h2 := List.all_eq_true.1 h1 b.toNat (List.mem_range.2 (by omega))
  rw [show (17 * a + b).toNat = 17 * a.toNat + b.toNat by omega]
  rw [show kdR.flatten.getD (17 * a.toNat + b.toNat) 0 = (kdR.getD a.toNat []).getD b.toNat 0 by simpa using h2]

/-- a kind at a level -/
def mayK (k l : Int) : Bool := if k = 82 then decide (l ≤ 0) else if k = 83 then decide (l ≤ 1) else true
/-- b behind a, at a level -/
def mayF (a b l : Int) : Bool := mayK (kdF (clF a) (clF b)) l
theorem mayK_mono {k l m : Int} (h : mayK k m = true) (hl : l ≤ m) : mayK k l = true := by
  unfold mayK at h ⊢; (repeat' split) <;> simp_all <;> omega
theorem mayF_pass (a b : Int) : mayF a b 0 = true := by unfold mayF mayK; (repeat' split) <;> simp
theorem mayF_mono {a b l m : Int} (h : mayF a b m = true) (hl : l ≤ m) : mayF a b l = true := mayK_mono h hl
/-- whether the byte at j may stand behind the one ahead -/
def okAt (xs : List Int) (l : Int) (j : Nat) : Bool := mayF (xs.getD (j - 1) 0) (xs.getD j 0) l
def chkF (xs : List Int) (l : Int) : Int := match (List.range xs.length).find? (fun j => decide (1 ≤ j) && !okAt xs l j) with | some j => (j : Int) | none => -1
theorem chk_none {xs : List Int} {l : Int} (h : ∀ j, 1 ≤ j → j < xs.length → okAt xs l j = true) : chkF xs l = -1 := by
  unfold chkF
  rw [List.find?_range_eq_none.2 ?_]
  intro j hj
  by_cases h1 : 1 ≤ j
  · simp [h j h1 hj]
  · simp [h1]
theorem chk_some {xs : List Int} {l : Int} {k : Nat} (h : ∀ j, 1 ≤ j → j < k → okAt xs l j = true) (hk : 1 ≤ k) (hl : k < xs.length) (hb : okAt xs l k = false) : chkF xs l = k := by
  unfold chkF
  rw [List.find?_range_eq_some.2 (show _ ∧ k ∈ List.range xs.length ∧ _ from ⟨by simp [hb, hk], List.mem_range.2 hl, fun j hj => ?_⟩)]
  by_cases h1 : 1 ≤ j
  · simp [h j h1 hj]
  · simp [h1]
theorem chk_cases (xs : List Int) (l : Int) : (chkF xs l = -1 ∧ ∀ j, 1 ≤ j → j < xs.length → okAt xs l j = true) ∨ ∃ k : Nat, chkF xs l = k ∧ 1 ≤ k ∧ k < xs.length ∧ okAt xs l k = false ∧ ∀ j, 1 ≤ j → j < k → okAt xs l j = true := by
  cases hf : (List.range xs.length).find? (fun j => decide (1 ≤ j) && !okAt xs l j) with
  | none =>
    left
    refine ⟨by unfold chkF; rw [hf], fun j h1 h2 => ?_⟩
    have := List.find?_range_eq_none.1 hf j h2
    simpa [h1] using this
  | some k =>
    right
    obtain ⟨h1, h2, h3⟩ := List.find?_range_eq_some.1 hf
    simp only [Bool.and_eq_true, decide_eq_true_eq, Bool.not_eq_true'] at h1
    refine ⟨k, by unfold chkF; rw [hf], h1.1, List.mem_range.1 h2, h1.2, fun j j1 j2 => ?_⟩
    have := h3 j j2
    simpa [j1] using this
theorem chk_range (xs : List Int) (l : Int) : -1 ≤ chkF xs l ∧ chkF xs l ≤ xs.length := by
  rcases chk_cases xs l with ⟨h, _⟩ | ⟨k, h, h1, h2, _⟩ <;> omega
end Go.Proofs.YtgeecngpmcjdpaaDoor
