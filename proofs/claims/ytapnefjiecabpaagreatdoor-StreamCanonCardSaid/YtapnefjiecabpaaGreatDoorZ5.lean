/- Texts of this seat, one behind the other: VietM, VisM, VisR, CdF, VietMk. -/
import Derived.Test.YtapnefjiecabpaaGreatDoorLib
import Derived.Test.YtapnefjiecabpaaGreatDoorZ3
namespace Go.Proofs.YtapnefjiecabpaaGreatDoor
set_option linter.unusedVariables false
set_option linter.unusedSimpArgs false
set_option linter.unnecessarySimpa false
open Go.RowKit

/-- the small letters: base, mark, scalars by tone -/
def vRT : List (Int × Nat × List Int) :=
  [(97, 0, [0x61, 0xe0, 0xe1, 0x1ea3, 0xe3, 0x1ea1]), (97, 1, [0x103, 0x1eb1, 0x1eaf, 0x1eb3, 0x1eb5, 0x1eb7]), (97, 2, [0xe2, 0x1ea7, 0x1ea5, 0x1ea9, 0x1eab, 0x1ead]),
   (101, 0, [0x65, 0xe8, 0xe9, 0x1ebb, 0x1ebd, 0x1eb9]), (101, 2, [0xea, 0x1ec1, 0x1ebf, 0x1ec3, 0x1ec5, 0x1ec7]), (105, 0, [0x69, 0xec, 0xed, 0x1ec9, 0x129, 0x1ecb]),
   (111, 0, [0x6f, 0xf2, 0xf3, 0x1ecf, 0xf5, 0x1ecd]), (111, 2, [0xf4, 0x1ed3, 0x1ed1, 0x1ed5, 0x1ed7, 0x1ed9]), (111, 3, [0x1a1, 0x1edd, 0x1edb, 0x1edf, 0x1ee1, 0x1ee3]),
   (117, 0, [0x75, 0xf9, 0xfa, 0x1ee7, 0x169, 0x1ee5]), (117, 3, [0x1b0, 0x1eeb, 0x1ee9, 0x1eed, 0x1eef, 0x1ef1]), (121, 0, [0x79, 0x1ef3, 0xfd, 0x1ef7, 0x1ef9, 0x1ef5]),
   (100, 0, [0x64]), (100, 4, [0x111])]
def vrow (R : Nat) : Int × Nat × List Int := vRT.getD R (0, 0, [])
/-- how many letters stand ahead of row R -/
def voff (R : Nat) : Nat := if R ≤ 12 then 6 * R else R + 60
def upI (s : Int) : Int := if s < 256 then s - 32 else s - 1
def smallL : List (Int × Nat × Nat × Int) := vRT.flatMap fun r => r.2.2.zipIdx.map fun p => (r.1, r.2.1, p.2, p.1)
def vAll : List (Int × Nat × Nat × Int) := smallL ++ smallL.map fun e => (upI e.1, e.2.1, e.2.2.1, upI e.2.2.2)
/-- letter k: base, mark, tone, scalar: the small ones, then the great ones -/
def LB (k : Nat) : Int := (vAll.getD k (0, 0, 0, 0)).1
def LM (k : Nat) : Nat := (vAll.getD k (0, 0, 0, 0)).2.1
def LT (k : Nat) : Nat := (vAll.getD k (0, 0, 0, 0)).2.2.1
def LS (k : Nat) : Int := (vAll.getD k (0, 0, 0, 0)).2.2.2

theorem all_range {n : Nat} {p : Nat → Bool} (h : (List.range n).all p = true) (k : Nat) (hk : k < n) : p k = true := List.all_eq_true.1 h k (List.mem_range.2 hk)
theorem letter_small (k : Nat) (hk : k < 148) : LM k ≤ 4 ∧ LT k ≤ 5 ∧ 65 ≤ LB k ∧ LB k ≤ 121 ∧ 65 ≤ LS k ∧ LS k ≤ 7930 := by
  have := all_range (show (List.range 148).all (fun k => decide (LM k ≤ 4 ∧ LT k ≤ 5 ∧ 65 ≤ LB k ∧ LB k ≤ 121 ∧ 65 ≤ LS k ∧ LS k ≤ 7930)) = true by decide +kernel) k hk
  simpa using this
theorem letter_great (k : Nat) (hk : k < 74) : LB (k + 74) = upI (LB k) ∧ LM (k + 74) = LM k ∧ LT (k + 74) = LT k ∧ LS (k + 74) = upI (LS k) := by
  have := all_range (show (List.range 74).all (fun k => decide (LB (k + 74) = upI (LB k) ∧ LM (k + 74) = LM k ∧ LT (k + 74) = LT k ∧ LS (k + 74) = upI (LS k))) = true by decide +kernel) k hk
  simpa using this
theorem voff_last : voff 14 = 74 := rfl
theorem voff_succ (R : Nat) (h : R < 14) : voff (R + 1) = voff R + (vrow R).2.2.length := by
  have := all_range (show (List.range 14).all (fun R => decide (voff (R + 1) = voff R + (vrow R).2.2.length)) = true by decide +kernel) R h
  simpa using this
theorem vrow_len (R : Nat) (h : R < 14) : 1 ≤ (vrow R).2.2.length ∧ (vrow R).2.2.length ≤ 6 ∧ voff R + (vrow R).2.2.length ≤ 74 := by
  have := all_range (show (List.range 14).all (fun R => decide (1 ≤ (vrow R).2.2.length ∧ (vrow R).2.2.length ≤ 6 ∧ voff R + (vrow R).2.2.length ≤ 74)) = true by decide +kernel) R h
  simpa using this
theorem letter_row (R T : Nat) (h : R < 14) (hT : T < (vrow R).2.2.length) : LB (voff R + T) = (vrow R).1 ∧ LM (voff R + T) = (vrow R).2.1 ∧ LT (voff R + T) = T ∧ LS (voff R + T) = (vrow R).2.2.getD T 0 := by
  have := all_range (show (List.range 14).all (fun R => (List.range 6).all fun T => decide (T < (vrow R).2.2.length → (LB (voff R + T) = (vrow R).1 ∧ LM (voff R + T) = (vrow R).2.1 ∧ LT (voff R + T) = T ∧ LS (voff R + T) = (vrow R).2.2.getD T 0))) = true by decide +kernel) R h
  have := all_range this T (by have := vrow_len R h; omega)
  exact of_decide_eq_true this hT
theorem letter_rowG (R T : Nat) (h : R < 14) (hT : T < (vrow R).2.2.length) : LB (74 + voff R + T) = upI (vrow R).1 ∧ LM (74 + voff R + T) = (vrow R).2.1 ∧ LT (74 + voff R + T) = T ∧ LS (74 + voff R + T) = upI ((vrow R).2.2.getD T 0) := by
  obtain ⟨h1, h2, h3, h4⟩ := letter_row R T h hT
  have hl := vrow_len R h
  obtain ⟨g1, g2, g3, g4⟩ := letter_great (voff R + T) (by omega)
  rw [show 74 + voff R + T = voff R + T + 74 by omega, g1, g2, g3, g4, h1, h2, h3, h4]
  exact ⟨rfl, rfl, rfl, rfl⟩
theorem LS_inj (a b : Nat) (ha : a < 148) (hb : b < 148) (h : LS a = LS b) : a = b := by
  have := all_range (show (List.range 148).all (fun a => (List.range 148).all fun b => decide (LS a = LS b → a = b)) = true by decide +kernel) a ha
  have := all_range this b hb
  exact of_decide_eq_true this h
theorem LK_inj (a b : Nat) (ha : a < 148) (hb : b < 148) (h : LB a = LB b) (hm : LM a = LM b) (ht : LT a = LT b) : a = b := by
  have := all_range (show (List.range 148).all (fun a => (List.range 148).all fun b => decide (LB a = LB b ∧ LM a = LM b ∧ LT a = LT b → a = b)) = true by decide +kernel) a ha
  have := all_range this b hb
  exact of_decide_eq_true this ⟨h, hm, ht⟩

/-! the program's order: a small letter and its great one side by side; the law's: the small ones first -/
/-- the letter that p fits, in the program's order -/
def px (p : Nat → Bool) (x : Fin 74) : Option Nat := if p x.val = true then some x.val else if p (x.val + 74) = true then some (x.val + 74) else none
def findP (p : Nat → Bool) : Option Nat := (List.finRange 74).findSome? (px p)
/-- in the law's -/
def findL (p : Nat → Bool) : Option Nat := (List.range 148).find? p
theorem findP_none {p : Nat → Bool} (h : ∀ k, k < 148 → p k = false) : findP p = none := by
  unfold findP
  rw [List.findSome?_eq_none_iff]
  intro x _
  have h1 := h x.val (by omega)
  have h2 := h (x.val + 74) (by omega)
  simp [px, h1, h2]
theorem findP_some {p : Nat → Bool} {k : Nat} (hk : k < 148) (hp : p k = true) (hu : ∀ j, j < 148 → p j = true → j = k) : findP p = some k := by
  have hone : ∀ x : Fin 74, px p x = some k ∨ px p x = none := by
    intro x
    unfold px
    split
    · rename_i h; left; rw [hu x.val (by omega) h]
    · split
      · rename_i h; left; rw [hu (x.val + 74) (by omega) h]
      · right; rfl
  unfold findP
  cases h : (List.finRange 74).findSome? (px p) with
  | some v =>
    obtain ⟨x, _, hx⟩ := List.exists_of_findSome?_eq_some h
    rcases hone x with e | e <;> rw [e] at hx <;> simp_all
  | none =>
    rw [List.findSome?_eq_none_iff] at h
    exfalso
    by_cases h74 : k < 74
    · have := h ⟨k, h74⟩ (List.mem_finRange _)
      simp [px, hp] at this
    · have := h ⟨k - 74, by omega⟩ (List.mem_finRange _)
      have e : k - 74 + 74 = k := by omega
      simp only [px, e, hp, if_true] at this
      split at this <;> cases this
theorem findL_none {p : Nat → Bool} (h : ∀ k, k < 148 → p k = false) : findL p = none := by
  unfold findL
  rw [List.find?_eq_none]
  intro k hk
  simp [h k (List.mem_range.1 hk)]
theorem findL_some {p : Nat → Bool} {k : Nat} (hk : k < 148) (hp : p k = true) (hu : ∀ j, j < 148 → p j = true → j = k) : findL p = some k := by
  unfold findL
  cases h : (List.range 148).find? p with
  | some v => rw [hu v (List.mem_range.1 (List.mem_of_find?_eq_some h)) (List.find?_some h)]
  | none =>
    rw [List.find?_eq_none] at h
    exact absurd hp (h k (List.mem_range.2 hk))
/-- both orders find the same where p fits one letter at most -/
theorem find_same {p : Nat → Bool} (hu : ∀ i j, i < 148 → j < 148 → p i = true → p j = true → i = j) : findP p = findL p := by
  by_cases h : ∃ k, k < 148 ∧ p k = true
  · obtain ⟨k, hk, hp⟩ := h
    rw [findP_some hk hp (fun j hj h => hu j k hj hk h hp), findL_some hk hp (fun j hj h => hu j k hj hk h hp)]
  · have h' : ∀ k, k < 148 → p k = false := fun k hk => by
      cases e : p k with
      | false => rfl
      | true => exact absurd ⟨k, hk, e⟩ h
    rw [findP_none h', findL_none h']
theorem findP_lt {p : Nat → Bool} {k : Nat} (h : findP p = some k) : k < 148 ∧ p k = true := by
  obtain ⟨x, _, hx⟩ := List.exists_of_findSome?_eq_some h
  unfold px at hx
  split at hx
  · rename_i hp; injection hx with hx; subst hx; exact ⟨by omega, hp⟩
  · split at hx
    · rename_i hp; injection hx with hx; subst hx; exact ⟨by omega, hp⟩
    · cases hx
/-- which letter has scalar s -/
def spP (s : Int) (k : Nat) : Bool := s == LS k
theorem split_of (k : Nat) (hk : k < 148) : findP (spP (LS k)) = some k :=
  findP_some hk (by simp [spP]) fun j hj h => LS_inj j k hj hk (by unfold spP at h; exact (eq_of_beq h).symm)
end Go.Proofs.YtapnefjiecabpaaGreatDoor
namespace Go.Proofs.YtapnefjiecabpaaGreatDoor
set_option linter.unusedVariables false
set_option linter.unusedSimpArgs false
set_option linter.unnecessarySimpa false
open Go.RowKit

/-- the scalars of the bytes from 80 on, as the program lists them -/
def hiVL : List Int := [0x1ea0, 0x1eae, 0x1eb0, 0x1eb6, 0x1ea4, 0x1ea6, 0x1ea8, 0x1eac, 0x1ebc, 0x1eb8, 0x1ebe, 0x1ec0, 0x1ec2, 0x1ec4, 0x1ec6, 0x1ed0, 0x1ed2, 0x1ed4, 0x1ed6, 0x1ed8, 0x1ee2, 0x1eda, 0x1edc, 0x1ede, 0x1eca, 0x1ece, 0x1ecc, 0x1ec8, 0x1ee6, 0x168, 0x1ee4, 0x1ef2, 0xd5, 0x1eaf, 0x1eb1, 0x1eb7, 0x1ea5, 0x1ea7, 0x1ea9, 0x1ead, 0x1ebd, 0x1eb9, 0x1ebf, 0x1ec1, 0x1ec3, 0x1ec5, 0x1ec7, 0x1ed1, 0x1ed3, 0x1ed5, 0x1ed7, 0x1ee0, 0x1a0, 0x1ed9, 0x1edd, 0x1edf, 0x1ecb, 0x1ef0, 0x1ee8, 0x1eea, 0x1eec, 0x1a1, 0x1edb, 0x1af, 0xc0, 0xc1, 0xc2, 0xc3, 0x1ea2, 0x102, 0x1eb3, 0x1eb5, 0xc8, 0xc9, 0xca, 0x1eba, 0xcc, 0xcd, 0x128, 0x1ef3, 0x110, 0x1ee9, 0xd2, 0xd3, 0xd4, 0x1ea1, 0x1ef7, 0x1eeb, 0x1eed, 0xd9, 0xda, 0x1ef9, 0x1ef5, 0xdd, 0x1ee1, 0x1b0, 0xe0, 0xe1, 0xe2, 0xe3, 0x1ea3, 0x103, 0x1eef, 0x1eab, 0xe8, 0xe9, 0xea, 0x1ebb, 0xec, 0xed, 0x129, 0x1ec9, 0x111, 0x1ef1, 0xf2, 0xf3, 0xf4, 0xf5, 0x1ecf, 0x1ecd, 0x1ee5, 0xf9, 0xfa, 0x169, 0x1ee7, 0xfd, 0x1ee3, 0x1eee]
/-- the scalars of all bytes -/
def visL : List Int := (List.range 128).map (fun k : Nat => if k = 2 then 0x1eb2 else if k = 5 then 0x1eb4 else if k = 6 then 0x1eaa else if k = 20 then 0x1ef6 else if k = 25 then 0x1ef8 else if k = 30 then 0x1ef4 else (k : Int)) ++ hiVL
/-- a byte's scalar -/
def vsD (k : Nat) : Int := visL.getD k 0
theorem hiVL_len : hiVL.length = 128 := by decide +kernel
theorem visL_len : visL.length = 256 := by decide +kernel
theorem vsD_high (k : Nat) (h : k < 128) : hiVL.getD k 0 = vsD (128 + k) := by
  unfold vsD visL
  rw [List.getD_eq_getElem?_getD, List.getD_eq_getElem?_getD, List.getElem?_append_right (by simp)]
  simp
theorem vsD_low (k : Nat) (h : k < 128) : vsD k = if k = 2 then 0x1eb2 else if k = 5 then 0x1eb4 else if k = 6 then 0x1eaa else if k = 20 then 0x1ef6 else if k = 25 then 0x1ef8 else if k = 30 then 0x1ef4 else (k : Int) := by
  unfold vsD visL
  rw [List.getD_eq_getElem?_getD, List.getElem?_append_left (by simpa using h)]
  simp [h]
theorem vsD_range (k : Nat) : 0 ≤ vsD k ∧ vsD k ≤ 7930 := by
  by_cases h : k < 256
  · have := all_range (show (List.range 256).all (fun k => decide (0 ≤ vsD k ∧ vsD k ≤ 7930)) = true by decide +kernel) k h
    simpa using this
  · unfold vsD; rw [List.getD_eq_getElem?_getD, List.getElem?_eq_none (by rw [visL_len]; omega)]; decide
end Go.Proofs.YtapnefjiecabpaaGreatDoor
namespace Go.Proofs.YtapnefjiecabpaaGreatDoor
/-- the rules of the first n bytes -/
def vsR (n : Nat) : List (List Int × List Int) := (List.range n).map fun k : Nat => ([(k : Int)], [vsD k])
theorem vsR_len (n : Nat) : (vsR n).length = n := by simp [vsR]
theorem vsR_succ (n : Nat) : vsR (n + 1) = vsR n ++ [([(n : Int)], [vsD n])] := by simp [vsR, List.range_succ]
end Go.Proofs.YtapnefjiecabpaaGreatDoor
namespace Go.Proofs.YtapnefjiecabpaaGreatDoor
set_option linter.unusedVariables false
set_option linter.unusedSimpArgs false
open Go.RowKit
theorem below_allocC (w : World) (o : Obj) : Below w.heap.size w (w.alloc o) := (Below.refl _ w).alloc (Nat.le_refl _) o
/-- the first of n that has p -/
def firstN (p : Nat → Bool) (n : Nat) : Option Nat := (List.range n).find? p
theorem firstN_no {p : Nat → Bool} {n : Nat} (h : ∀ j, j < n → p j = false) : firstN p n = none := by
  unfold firstN; rw [List.find?_eq_none]; intro x hx; rw [h x (List.mem_range.1 hx)]; simp
theorem firstN_yes {p : Nat → Bool} {n K : Nat} (h : ∀ j, j < K → p j = false) (hK : K < n) (hp : p K = true) : firstN p n = some K := by
  unfold firstN
  obtain ⟨d, rfl⟩ : ∃ d, n = K + (d + 1) := ⟨n - K - 1, by omega⟩
  rw [List.range_add, List.find?_append]
  have h1 : (List.range K).find? p = none := by rw [List.find?_eq_none]; intro x hx; rw [h x (List.mem_range.1 hx)]; simp
  rw [h1, List.range_succ_eq_map]
  simp [hp]
/-- none of the first K -/
def NoneN (p : Nat → Bool) (K : Nat) : Prop := ∀ j, j < K → p j = false
theorem NoneN.next {p : Nat → Bool} {K : Nat} (h : NoneN p K) (hp : p K = false) : NoneN p (K + 1) := fun j hj => by
  rcases Nat.lt_or_ge j K with hh | hh
  · exact h j hh
  · obtain rfl : j = K := by omega
    exact hp
end Go.Proofs.YtapnefjiecabpaaGreatDoor
namespace Go.Proofs.YtapnefjiecabpaaGreatDoor
set_option linter.unusedVariables false
set_option linter.unusedSimpArgs false
set_option linter.unnecessarySimpa false
open Go.RowKit


/-- the combining scalars, and what they add -/
def mkS (k : Nat) : Int := [774, 770, 795, 768, 769, 777, 771, 803].getD k 0
def mkR (k : Nat) : Nat := [4607182418800017408, 4611686018427387904, 4613937818241073152, 0, 0, 0, 0, 0].getD k 0
def mkI (k : Nat) : Nat := [0, 0, 0, 4607182418800017408, 4611686018427387904, 4613937818241073152, 4616189618054758400, 4617315517961601024].getD k 0
end Go.Proofs.YtapnefjiecabpaaGreatDoor
