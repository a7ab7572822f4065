/- Layer 14: ISCII in plain words: the places of bytes, what a nukta makes, the codes of scripts, the rules. -/
import Derived.Test.YthgomhmalmmhlaaDoorRuleM
namespace Go.Proofs.YthgomhmalmmhlaaDoor
set_option linter.unusedVariables false
set_option linter.unusedSimpArgs false
theorem all_rangeI {n : Nat} {p : Nat → Bool} (h : (List.range n).all p = true) (k : Nat) (hk : k < n) : p k = true := List.all_eq_true.1 h k (List.mem_range.2 hk)
/-- the places of the bytes from a1 on; 0: it has none -/
def inPl : List Int := [1, 2, 3, 5, 6, 7, 8, 9, 10, 11, 14, 15, 16, 13, 18, 19, 20, 17, 21, 22, 23, 24, 25, 26, 27, 28, 29, 30, 31, 32, 33, 34, 35, 36, 37, 38, 39, 40, 41, 42, 43, 44, 45, 46, 47, 95, 48, 49, 50, 51, 52, 53, 54, 55, 56, 57, 0, 62, 63, 64, 65, 66, 67, 70, 71, 72, 69, 74, 75, 76, 73, 77, 60, 0, 0, 0, 0, 0, 0, 0, 102, 103, 104, 105, 106, 107, 108, 109, 110, 111]
theorem inPl_len : inPl.length = 90 := rfl
/-- a byte's place, or 0 -/
def inP (c : Nat) : Int := if 161 ≤ c ∧ c < 251 then inPl.getD (c - 161) 0 else 0
/-- has it one? -/
def inK (c : Nat) : Bool := inP c != 0
/-- what a nukta makes: a byte, a place -/
def inNk : List (Int × Int) := [(0xa1, 0x50), (0xa6, 0x0c), (0xa7, 0x61), (0xaa, 0x60), (0xb3, 0x58), (0xb4, 0x59), (0xb5, 0x5a), (0xba, 0x5b), (0xbf, 0x5c), (0xc0, 0x5d), (0xc9, 0x5e), (0xdb, 0x62), (0xdc, 0x63), (0xdf, 0x44)]
theorem inNk_len : inNk.length = 14 := rfl
def nkB (k : Nat) : Int := (inNk.getD k (0, 0)).1
def nkP (k : Nat) : Int := (inNk.getD k (0, 0)).2
/-- the codes of scripts -/
def inCd : List Int := [0x42, 0x43, 0x4b, 0x4a, 0x47, 0x44, 0x45, 0x48, 0x49]
theorem inCd_len : inCd.length = 9 := rfl
def cdC (s : Nat) : Int := inCd.getD s 0
/-- the rules that go by no pattern -/
def inS : List (List Int × List Int) := [([0xd9], [0x400d]), ([0xea], [0x2964]), ([0xea, 0xe9], [0x3d]), ([0xe8, 0xe8], [0x4d, 0x400c]), ([0xe8, 0xe9], [0x4d, 0x400d]), ([0xf0, 0xb8], [0x52]), ([0xf0, 0xbf], [0x70])]
/-- the rules -/
def inR : List (List Int × List Int) :=
  ((List.range 128).map fun c : Nat => ([(c : Int)], [8192 + (c : Int)])) ++ (((List.range 256).filter inK).map fun c : Nat => ([(c : Int)], [inP c])) ++ (inNk.map fun r => ([r.1, 233], [r.2])) ++
  ((List.range 9).map fun s : Nat => ([239, cdC s], [4096 + (s : Int)])) ++ inS
/-- the rules turned round -/
def inT : List (List Int × List Int) := inR.map fun r => (r.2, r.1)
/-- how many rules there are ahead of that of byte c -/
def inA (c : Nat) : Nat := 128 + ((List.range c).filter inK).length

theorem inP_at (k : Nat) (h : k < 90) : inP (161 + k) = inPl.getD k 0 := by
  unfold inP; rw [if_pos (by omega), show 161 + k - 161 = k by omega]
theorem inP_out (c : Nat) (h : c < 161 ∨ 251 ≤ c) : inP c = 0 := by unfold inP; rw [if_neg (by omega)]
theorem inP_range (c : Nat) : 0 ≤ inP c ∧ inP c ≤ 111 := by
  by_cases h : c < 251
  · have := all_rangeI (show (List.range 251).all (fun c => decide (0 ≤ inP c ∧ inP c ≤ 111)) = true by decide +kernel) c h
    simpa using this
  · rw [inP_out c (by omega)]; omega
theorem inP_mid (k : Nat) (h : k < 56) : inP (161 + k) ≠ 0 := by
  have := all_rangeI (show (List.range 56).all (fun k => decide (inP (161 + k) ≠ 0)) = true by decide +kernel) k h
  simpa using this
theorem inP_high (k : Nat) (h : k < 16) : inP (218 + k) ≠ 0 := by
  have := all_rangeI (show (List.range 16).all (fun k => decide (inP (218 + k) ≠ 0)) = true by decide +kernel) k h
  simpa using this
theorem inP_dig (k : Nat) (h : k < 10) : inP (241 + k) = 102 + (k : Int) := by
  have := all_rangeI (show (List.range 10).all (fun k => decide (inP (241 + k) = 102 + (k : Int))) = true by decide +kernel) k h
  simpa using this
theorem inP_gap (c : Nat) (h : c = 217 ∨ (234 ≤ c ∧ c ≤ 240)) : inP c = 0 := by
  have := all_rangeI (show (List.range 251).all (fun c => decide ((c = 217 ∨ (234 ≤ c ∧ c ≤ 240)) → inP c = 0)) = true by decide +kernel) c (by omega)
  exact of_decide_eq_true this h
theorem inR_len : inR.length = 240 := by decide +kernel
theorem inT_len : inT.length = 240 := by unfold inT; rw [List.length_map]; exact inR_len
theorem inR_takeLen (k : Nat) (h : k ≤ 240) : (inR.take k).length = k := by rw [List.length_take, inR_len]; omega
theorem inR_step {k : Nat} {r : List Int × List Int} (h : inR[k]? = some r) : inR.take (k + 1) = inR.take k ++ [r] := by
  obtain ⟨hk, h2⟩ := List.getElem?_eq_some_iff.1 h
  rw [List.take_succ_eq_append_getElem hk, h2]
theorem inR_low (c : Nat) (h : c < 128) : inR.take (c + 1) = inR.take c ++ [([(c : Int)], [8192 + (c : Int)])] := by
  have := all_rangeI (show (List.range 128).all (fun c => decide (inR[c]? = some ([(c : Int)], [8192 + (c : Int)]))) = true by decide +kernel) c h
  exact inR_step (of_decide_eq_true this)
theorem inA_zero : inA 0 = 128 := rfl
theorem inA_first : inA 161 = 128 := by decide +kernel
theorem inA_all : inA 256 = 210 := by decide +kernel
theorem inA_le (c : Nat) (h : c ≤ 256) : inA c ≤ 210 := by
  have := all_rangeI (show (List.range 257).all (fun c => decide (inA c ≤ 210)) = true by decide +kernel) c (by omega)
  simpa using this
theorem inA_no (c : Nat) (h : inP c = 0) : inA (c + 1) = inA c := by
  have hk : inK c = false := by simp [inK, h]
  unfold inA; rw [List.range_succ, List.filter_append]; simp [hk]
theorem inR_more (c : Nat) (h : c < 256) (hp : inP c ≠ 0) : inR.take (inA (c + 1)) = inR.take (inA c) ++ [([(c : Int)], [inP c])] := by
  have hk : inK c = true := by simpa [inK] using hp
  have := all_rangeI (show (List.range 256).all (fun c => decide (inP c ≠ 0 → inR[inA c]? = some ([(c : Int)], [inP c]))) = true by decide +kernel) c h
  have e : inA (c + 1) = inA c + 1 := by unfold inA; rw [List.range_succ, List.filter_append]; simp [hk]; omega
  rw [e]
  exact inR_step (of_decide_eq_true this hp)
theorem inR_nuk (k : Nat) (h : k < 14) : inR.take (210 + (k + 1)) = inR.take (210 + k) ++ [([nkB k, 233], [nkP k])] := by
  have := all_rangeI (show (List.range 14).all (fun k => decide (inR[210 + k]? = some ([nkB k, 233], [nkP k]))) = true by decide +kernel) k h
  exact inR_step (of_decide_eq_true this)
theorem inR_cod (k : Nat) (h : k < 9) : inR.take (224 + (k + 1)) = inR.take (224 + k) ++ [([239, cdC k], [4096 + (k : Int)])] := by
  have := all_rangeI (show (List.range 9).all (fun k => decide (inR[224 + k]? = some ([239, cdC k], [4096 + (k : Int)]))) = true by decide +kernel) k h
  exact inR_step (of_decide_eq_true this)
theorem inR_last : inR.take 233 ++ inS = inR := by decide +kernel
theorem inR_right : checkR inR = (-1, 0) := by decide +kernel
theorem inR_turn : turnR inR = inT := by decide +kernel
theorem inR_at (i : Nat) (h : i < 240) : inR[i]'(by rw [inR_len]; exact h) = inR.getD i ([], []) := by
  rw [List.getD_eq_getElem?_getD, List.getElem?_eq_getElem (by rw [inR_len]; exact h)]; rfl
theorem inR_find (i : Nat) (h : i < 240) : findR inR (inR[i]'(by rw [inR_len]; exact h)).1 = i := by
  have := all_rangeI (show (List.range 240).all (fun i => decide (findR inR (inR.getD i ([], [])).1 = i)) = true by decide +kernel) i h
  rw [inR_at i h]
  exact of_decide_eq_true this
theorem inT_find (i : Nat) (h : i < 240) : findR inT (inR[i]'(by rw [inR_len]; exact h)).2 = i := by
  have := all_rangeI (show (List.range 240).all (fun i => decide (findR inT (inR.getD i ([], [])).2 = i)) = true by decide +kernel) i h
  rw [inR_at i h]
  exact of_decide_eq_true this
theorem inR_sides : ∀ r ∈ inR, r.1.length ≤ 2 ∧ r.2.length ≤ 2 := by
  have h : (inR.all fun r => decide (r.1.length ≤ 2 ∧ r.2.length ≤ 2)) = true := by decide +kernel
  intro r hr
  simpa using List.all_eq_true.1 h r hr
theorem nk_range (k : Nat) (h : k < 14) : 161 ≤ nkB k ∧ nkB k ≤ 223 ∧ 1 ≤ nkP k ∧ nkP k ≤ 99 := by
  have := all_rangeI (show (List.range 14).all (fun k => decide (161 ≤ nkB k ∧ nkB k ≤ 223 ∧ 1 ≤ nkP k ∧ nkP k ≤ 99)) = true by decide +kernel) k h
  simpa using this
theorem nk_other (k : Nat) (h : k < 14) : inP (nkB k).toNat ≠ 0 ∧ inP (nkB k).toNat ≠ nkP k := by
  have := all_rangeI (show (List.range 14).all (fun k => decide (inP (nkB k).toNat ≠ 0 ∧ inP (nkB k).toNat ≠ nkP k)) = true by decide +kernel) k h
  simpa using this
theorem nk_find (k : Nat) (h : k < 14) : findR inR [nkB k, 233] = 210 + k := by
  have := all_rangeI (show (List.range 14).all (fun k => decide (findR inR [nkB k, 233] = 210 + k)) = true by decide +kernel) k h
  simpa using this
theorem cd_range (s : Nat) (h : s < 9) : 0 ≤ cdC s ∧ cdC s ≤ 255 := by
  have := all_rangeI (show (List.range 9).all (fun s => decide (0 ≤ cdC s ∧ cdC s ≤ 255)) = true by decide +kernel) s h
  simpa using this
end Go.Proofs.YthgomhmalmmhlaaDoor
