/- Texts of this seat, one behind the other: ScM, VietM, VisM, VisR, CdF. -/
import Derived.Test.YtncpokioagpclaaGreatDoorLib
import Derived.Test.YtncpokioagpclaaGreatDoorZ4
namespace Go.Proofs.YtncpokioagpclaaGreatDoor
set_option linter.unusedVariables false
set_option linter.unusedSimpArgs false
/-- an act: its kind, how much room, its bytes -/
structure Ac where
  kind : Int
  room : Int
  text : List Int
/-- how many bytes are an act's text, of those behind the first two -/
def textN (m : Int) (t : List Int) : Nat := min (m % 32).toNat t.length
/-- acts of bytes -/
def actsF : Nat → List Int → List Ac
  | 0, _ => []
  | _ + 1, [] => []
  | f + 1, c :: t =>
    if c % 8 > 5 then ⟨c % 8 - 5, 12 + c / 8, []⟩ :: actsF f t
    else match t with
      | [] => [⟨0, 12 + c / 8, []⟩]
      | m :: t => ⟨0, 12 + c / 8, t.take (textN m t)⟩ :: actsF f (t.drop (textN m t))
theorem actsF_fuel : ∀ (f g : Nat) (b : List Int), b.length ≤ f → b.length ≤ g → actsF f b = actsF g b
  | 0, g, b, h, _ => by
    have : b = [] := List.length_eq_zero_iff.1 (by omega)
    subst this
    cases g <;> rfl
  | f + 1, 0, b, _, h => by
    have : b = [] := List.length_eq_zero_iff.1 (by omega)
    subst this
    rfl
  | f + 1, g + 1, [], _, _ => rfl
  | f + 1, g + 1, c :: t, hf, hg => by
    simp only [List.length_cons] at hf hg
    simp only [actsF]
    split
    · rw [actsF_fuel f g t (by omega) (by omega)]
    · cases t with
      | nil => rfl
      | cons m t =>
        simp only [List.length_cons] at hf hg
        simp only
        rw [actsF_fuel f g (t.drop (textN m t)) (by rw [List.length_drop]; omega) (by rw [List.length_drop]; omega)]
def actsL (b : List Int) : List Ac := actsF b.length b
theorem actsL_nil : actsL [] = [] := rfl
theorem actsL_far {c : Int} {t : List Int} (h : c % 8 > 5) : actsL (c :: t) = ⟨c % 8 - 5, 12 + c / 8, []⟩ :: actsL t := by
  show actsF (t.length + 1) (c :: t) = _
  simp only [actsF]
  rw [if_pos h]
  rfl
theorem actsL_one {c : Int} (h : ¬ c % 8 > 5) : actsL [c] = [⟨0, 12 + c / 8, []⟩] := by
  show actsF 1 [c] = _
  simp only [actsF]
  rw [if_neg h]
theorem actsL_text {c m : Int} {t : List Int} (h : ¬ c % 8 > 5) : actsL (c :: m :: t) = ⟨0, 12 + c / 8, t.take (textN m t)⟩ :: actsL (t.drop (textN m t)) := by
  show actsF (t.length + 2) (c :: m :: t) = _
  simp only [actsF]
  rw [if_neg h]
  rw [actsF_fuel (t.length + 1) (t.drop (textN m t)).length (t.drop (textN m t)) (by rw [List.length_drop]; omega) (Nat.le_refl _)]
  rfl
/-- how many bytes acts are made of, at least -/
def acSum : List Ac → Nat
  | [] => 0
  | a :: az => 1 + a.text.length + acSum az
/-- what the law asks of an act -/
def AcOK (a : Ac) : Prop := 12 ≤ a.room ∧ a.room ≤ 43 ∧ a.text.length ≤ 31 ∧ 0 ≤ a.kind ∧ a.kind ≤ 2 ∧ (a.kind ≠ 0 → a.text = [])
theorem acts_ok : ∀ (f : Nat) (b : List Int), (∀ u ∈ b, 0 ≤ u ∧ u ≤ 255) → (∀ a ∈ actsF f b, AcOK a) ∧ acSum (actsF f b) ≤ b.length
  | 0, b, h => ⟨fun a ha => (by cases ha), by simp [actsF, acSum]⟩
  | f + 1, [], h => ⟨fun a ha => (by cases ha), by simp [actsF, acSum]⟩
  | f + 1, c :: t, h => by
    have hc := h c List.mem_cons_self
    have ht : ∀ u ∈ t, 0 ≤ u ∧ u ≤ 255 := fun u hu => h u (List.mem_cons_of_mem _ hu)
    simp only [actsF]
    split
    · obtain ⟨g1, g2⟩ := acts_ok f t ht
      refine ⟨fun a ha => ?_, by simp only [acSum, List.length_cons, List.length_nil]; omega⟩
      rcases List.mem_cons.1 ha with rfl | ha
      · exact ⟨by show 12 ≤ 12 + c / 8; omega, by show 12 + c / 8 ≤ 43; omega, by simp, by show 0 ≤ c % 8 - 5; omega, by show c % 8 - 5 ≤ 2; omega, fun _ => rfl⟩
      · exact g1 a ha
    · cases t with
      | nil =>
        refine ⟨fun a ha => ?_, by simp [acSum]⟩
        rw [List.mem_singleton] at ha
        subst ha
        exact ⟨by show 12 ≤ 12 + c / 8; omega, by show 12 + c / 8 ≤ 43; omega, by simp, (show (0 : Int) ≤ 0 by decide), (show (0 : Int) ≤ 2 by decide), fun _ => rfl⟩
      | cons m t =>
        have hm := ht m List.mem_cons_self
        simp only
        obtain ⟨g1, g2⟩ := acts_ok f (t.drop (textN m t)) fun u hu => ht u (List.mem_cons_of_mem _ (List.mem_of_mem_drop hu))
        have hn : textN m t ≤ t.length ∧ textN m t ≤ 31 := by unfold textN; omega
        rw [List.length_drop] at g2
        refine ⟨fun a ha => ?_, by simp only [acSum, List.length_cons, List.length_take]; omega⟩
        rcases List.mem_cons.1 ha with rfl | ha
        · exact ⟨by show 12 ≤ 12 + c / 8; omega, by show 12 + c / 8 ≤ 43; omega, by rw [List.length_take]; omega, (show (0 : Int) ≤ 0 by decide), (show (0 : Int) ≤ 2 by decide), fun e => absurd rfl e⟩
        · exact g1 a ha
/-- what is made of the first K bytes, and of the rest -/
theorem acts_len : ∀ (f : Nat) (b : List Int), (actsF f b).length ≤ b.length
  | 0, b => by simp [actsF]
  | f + 1, [] => by simp [actsF]
  | f + 1, c :: t => by
    simp only [actsF]
    split
    · have := acts_len f t; simp only [List.length_cons]; omega
    · cases t with
      | nil => simp
      | cons m t =>
        simp only
        have := acts_len f (t.drop (textN m t))
        rw [List.length_drop] at this
        simp only [List.length_cons]
        omega
end Go.Proofs.YtncpokioagpclaaGreatDoor
namespace Go.Proofs.YtncpokioagpclaaGreatDoor
set_option linter.unusedVariables false
set_option linter.unusedSimpArgs false
set_option linter.unnecessarySimpa false
open Go.RowKit

/-- the small letters: base, mark, scalars by tone -/
def vRT : List (Int × Nat × List Int) :=
  [(97, 0, [0x61, 0xe0, 0xe1, 0x1ea3, 0xe3, 0x1ea1]), (97, 1, [0x103, 0x1eb1, 0x1eaf, 0x1eb3, 0x1eb5, 0x1eb7]), (97, 2, [0xe2, 0x1ea7, 0x1ea5, 0x1ea9, 0x1eab, 0x1ead]),
   (101, 0, [0x65, 0xe8, 0xe9, 0x1ebb, 0x1ebd, 0x1eb9]), (101, 2, [0xea, 0x1ec1, 0x1ebf, 0x1ec3, 0x1ec5, 0x1ec7]), (105, 0, [0x69, 0xec, 0xed, 0x1ec9, 0x129, 0x1ecb]),
   (111, 0, [0x6f, 0xf2, 0xf3, 0x1ecf, 0xf5, 0x1ecd]), (111, 2, [0xf4, 0x1ed3, 0x1ed1, 0x1ed5, 0x1ed7, 0x1ed9]), (111, 3, [0x1a1, 0x1edd, 0x1edb, 0x1edf, 0x1ee1, 0x1ee3]),
   (117, 0, [0x75, 0xf9, 0xfa, 0x1ee7, 0x169, 0x1ee5]), (117, 3, [0x1b0, 0x1eeb, 0x1ee9, 0x1eed, 0x1eef, 0x1ef1]), (121, 0, [0x79, 0x1ef3, 0xfd, 0x1ef7, 0x1ef9, 0x1ef5]),
   (100, 0, [0x64]), (100, 4, [0x111])]
def vrow (R : Nat) : Int × Nat × List Int := vRT.getD R (0, 0, [])
/-- how many letters stand ahead of row R -/
def voff (R : Nat) : Nat := if R ≤ 12 then 6 * R else R + 60
def upI (s : Int) : Int := if s < 256 then s - 32 else s - 1
def smallL : List (Int × Nat × Nat × Int) := vRT.flatMap fun r => r.2.2.zipIdx.map fun p => (r.1, r.2.1, p.2, p.1)
def vAll : List (Int × Nat × Nat × Int) := smallL ++ smallL.map fun e => (upI e.1, e.2.1, e.2.2.1, upI e.2.2.2)
/-- letter k: base, mark, tone, scalar: the small ones, then the great ones -/
def LB (k : Nat) : Int := (vAll.getD k (0, 0, 0, 0)).1
def LM (k : Nat) : Nat := (vAll.getD k (0, 0, 0, 0)).2.1
def LT (k : Nat) : Nat := (vAll.getD k (0, 0, 0, 0)).2.2.1
def LS (k : Nat) : Int := (vAll.getD k (0, 0, 0, 0)).2.2.2

theorem all_range {n : Nat} {p : Nat → Bool} (h : (List.range n).all p = true) (k : Nat) (hk : k < n) : p k = true := List.all_eq_true.1 h k (List.mem_range.2 hk)
theorem letter_small (k : Nat) (hk : k < 148) : LM k ≤ 4 ∧ LT k ≤ 5 ∧ 65 ≤ LB k ∧ LB k ≤ 121 ∧ 65 ≤ LS k ∧ LS k ≤ 7930 := by
  have := all_range (show (List.range 148).all (fun k => decide (LM k ≤ 4 ∧ LT k ≤ 5 ∧ 65 ≤ LB k ∧ LB k ≤ 121 ∧ 65 ≤ LS k ∧ LS k ≤ 7930)) = true by decide +kernel) k hk
  simpa using this
theorem letter_great (k : Nat) (hk : k < 74) : LB (k + 74) = upI (LB k) ∧ LM (k + 74) = LM k ∧ LT (k + 74) = LT k ∧ LS (k + 74) = upI (LS k) := by
  have := all_range (show (List.range 74).all (fun k => decide (LB (k + 74) = upI (LB k) ∧ LM (k + 74) = LM k ∧ LT (k + 74) = LT k ∧ LS (k + 74) = upI (LS k))) = true by decide +kernel) k hk
  simpa using this
theorem voff_last : voff 14 = 74 := rfl
theorem voff_succ (R : Nat) (h : R < 14) : voff (R + 1) = voff R + (vrow R).2.2.length := by
  have := all_range (show (List.range 14).all (fun R => decide (voff (R + 1) = voff R + (vrow R).2.2.length)) = true by decide +kernel) R h
  simpa using this
theorem vrow_len (R : Nat) (h : R < 14) : 1 ≤ (vrow R).2.2.length ∧ (vrow R).2.2.length ≤ 6 ∧ voff R + (vrow R).2.2.length ≤ 74 := by
  have := all_range (show (List.range 14).all (fun R => decide (1 ≤ (vrow R).2.2.length ∧ (vrow R).2.2.length ≤ 6 ∧ voff R + (vrow R).2.2.length ≤ 74)) = true by decide +kernel) R h
  simpa using this
theorem letter_row (R T : Nat) (h : R < 14) (hT : T < (vrow R).2.2.length) : LB (voff R + T) = (vrow R).1 ∧ LM (voff R + T) = (vrow R).2.1 ∧ LT (voff R + T) = T ∧ LS (voff R + T) = (vrow R).2.2.getD T 0 := by
  have := all_range (show (List.range 14).all (fun R => (List.range 6).all fun T => decide (T < (vrow R).2.2.length → (LB (voff R + T) = (vrow R).1 ∧ LM (voff R + T) = (vrow R).2.1 ∧ LT (voff R + T) = T ∧ LS (voff R + T) = (vrow R).2.2.getD T 0))) = true by decide +kernel) R h
  have := all_range this T (by have := vrow_len R h; omega)
  exact of_decide_eq_true this hT
theorem LK_inj (a b : Nat) (ha : a < 148) (hb : b < 148) (h : LB a = LB b) (hm : LM a = LM b) (ht : LT a = LT b) : a = b := by
  have := all_range (show (List.range 148).all (fun a => (List.range 148).all fun b => decide (LB a = LB b ∧ LM a = LM b ∧ LT a = LT b → a = b)) = true by decide +kernel) a ha
  have := all_range this b hb
  exact of_decide_eq_true this ⟨h, hm, ht⟩

/-! the program's order: a small letter and its great one side by side; the law's: the small ones first -/
/-- the letter that p fits, in the program's order -/
def px (p : Nat → Bool) (x : Fin 74) : Option Nat := if p x.val = true then some x.val else if p (x.val + 74) = true then some (x.val + 74) else none
def findP (p : Nat → Bool) : Option Nat := (List.finRange 74).findSome? (px p)
theorem findP_some {p : Nat → Bool} {k : Nat} (hk : k < 148) (hp : p k = true) (hu : ∀ j, j < 148 → p j = true → j = k) : findP p = some k := by
  have hone : ∀ x : Fin 74, px p x = some k ∨ px p x = none := by
    intro x
    unfold px
    split
    · rename_i h; left; rw [hu x.val (by omega) h]
    · split
      · rename_i h; left; rw [hu (x.val + 74) (by omega) h]
      · right; rfl
  unfold findP
  cases h : (List.finRange 74).findSome? (px p) with
  | some v =>
    obtain ⟨x, _, hx⟩ := List.exists_of_findSome?_eq_some h
    rcases hone x with e | e <;> rw [e] at hx <;> simp_all
  | none =>
    rw [List.findSome?_eq_none_iff] at h
    exfalso
    by_cases h74 : k < 74
    · have := h ⟨k, h74⟩ (List.mem_finRange _)
      simp [px, hp] at this
    · have := h ⟨k - 74, by omega⟩ (List.mem_finRange _)
      have e : k - 74 + 74 = k := by omega
      simp only [px, e, hp, if_true] at this
      split at this <;> cases this
/-- which letter has scalar s -/
def spP (s : Int) (k : Nat) : Bool := s == LS k
end Go.Proofs.YtncpokioagpclaaGreatDoor
namespace Go.Proofs.YtncpokioagpclaaGreatDoor
set_option linter.unusedVariables false
set_option linter.unusedSimpArgs false
set_option linter.unnecessarySimpa false
open Go.RowKit

/-- the scalars of the bytes from 80 on, as the program lists them -/
def hiVL : List Int := [0x1ea0, 0x1eae, 0x1eb0, 0x1eb6, 0x1ea4, 0x1ea6, 0x1ea8, 0x1eac, 0x1ebc, 0x1eb8, 0x1ebe, 0x1ec0, 0x1ec2, 0x1ec4, 0x1ec6, 0x1ed0, 0x1ed2, 0x1ed4, 0x1ed6, 0x1ed8, 0x1ee2, 0x1eda, 0x1edc, 0x1ede, 0x1eca, 0x1ece, 0x1ecc, 0x1ec8, 0x1ee6, 0x168, 0x1ee4, 0x1ef2, 0xd5, 0x1eaf, 0x1eb1, 0x1eb7, 0x1ea5, 0x1ea7, 0x1ea9, 0x1ead, 0x1ebd, 0x1eb9, 0x1ebf, 0x1ec1, 0x1ec3, 0x1ec5, 0x1ec7, 0x1ed1, 0x1ed3, 0x1ed5, 0x1ed7, 0x1ee0, 0x1a0, 0x1ed9, 0x1edd, 0x1edf, 0x1ecb, 0x1ef0, 0x1ee8, 0x1eea, 0x1eec, 0x1a1, 0x1edb, 0x1af, 0xc0, 0xc1, 0xc2, 0xc3, 0x1ea2, 0x102, 0x1eb3, 0x1eb5, 0xc8, 0xc9, 0xca, 0x1eba, 0xcc, 0xcd, 0x128, 0x1ef3, 0x110, 0x1ee9, 0xd2, 0xd3, 0xd4, 0x1ea1, 0x1ef7, 0x1eeb, 0x1eed, 0xd9, 0xda, 0x1ef9, 0x1ef5, 0xdd, 0x1ee1, 0x1b0, 0xe0, 0xe1, 0xe2, 0xe3, 0x1ea3, 0x103, 0x1eef, 0x1eab, 0xe8, 0xe9, 0xea, 0x1ebb, 0xec, 0xed, 0x129, 0x1ec9, 0x111, 0x1ef1, 0xf2, 0xf3, 0xf4, 0xf5, 0x1ecf, 0x1ecd, 0x1ee5, 0xf9, 0xfa, 0x169, 0x1ee7, 0xfd, 0x1ee3, 0x1eee]
/-- the scalars of all bytes -/
def visL : List Int := (List.range 128).map (fun k : Nat => if k = 2 then 0x1eb2 else if k = 5 then 0x1eb4 else if k = 6 then 0x1eaa else if k = 20 then 0x1ef6 else if k = 25 then 0x1ef8 else if k = 30 then 0x1ef4 else (k : Int)) ++ hiVL
/-- a byte's scalar -/
def vsD (k : Nat) : Int := visL.getD k 0
theorem hiVL_len : hiVL.length = 128 := by decide +kernel
theorem visL_len : visL.length = 256 := by decide +kernel
theorem vsD_high (k : Nat) (h : k < 128) : hiVL.getD k 0 = vsD (128 + k) := by
  unfold vsD visL
  rw [List.getD_eq_getElem?_getD, List.getD_eq_getElem?_getD, List.getElem?_append_right (by simp)]
  simp
theorem vsD_low (k : Nat) (h : k < 128) : vsD k = if k = 2 then 0x1eb2 else if k = 5 then 0x1eb4 else if k = 6 then 0x1eaa else if k = 20 then 0x1ef6 else if k = 25 then 0x1ef8 else if k = 30 then 0x1ef4 else (k : Int) := by
  unfold vsD visL
  rw [List.getD_eq_getElem?_getD, List.getElem?_append_left (by simpa using h)]
  simp [h]
theorem vsD_range (k : Nat) : 0 ≤ vsD k ∧ vsD k ≤ 7930 := by
  by_cases h : k < 256
  · have := all_range (show (List.range 256).all (fun k => decide (0 ≤ vsD k ∧ vsD k ≤ 7930)) = true by decide +kernel) k h
    simpa using this
  · unfold vsD; rw [List.getD_eq_getElem?_getD, List.getElem?_eq_none (by rw [visL_len]; omega)]; decide
end Go.Proofs.YtncpokioagpclaaGreatDoor
namespace Go.Proofs.YtncpokioagpclaaGreatDoor
/-- the rules of the first n bytes -/
def vsR (n : Nat) : List (List Int × List Int) := (List.range n).map fun k : Nat => ([(k : Int)], [vsD k])
theorem vsR_len (n : Nat) : (vsR n).length = n := by simp [vsR]
theorem vsR_succ (n : Nat) : vsR (n + 1) = vsR n ++ [([(n : Int)], [vsD n])] := by simp [vsR, List.range_succ]
end Go.Proofs.YtncpokioagpclaaGreatDoor
namespace Go.Proofs.YtncpokioagpclaaGreatDoor
set_option linter.unusedVariables false
set_option linter.unusedSimpArgs false
open Go.RowKit
theorem below_allocC (w : World) (o : Obj) : Below w.heap.size w (w.alloc o) := (Below.refl _ w).alloc (Nat.le_refl _) o
/-- the first of n that has p -/
def firstN (p : Nat → Bool) (n : Nat) : Option Nat := (List.range n).find? p
theorem firstN_no {p : Nat → Bool} {n : Nat} (h : ∀ j, j < n → p j = false) : firstN p n = none := by
  unfold firstN; rw [List.find?_eq_none]; intro x hx; rw [h x (List.mem_range.1 hx)]; simp
theorem firstN_yes {p : Nat → Bool} {n K : Nat} (h : ∀ j, j < K → p j = false) (hK : K < n) (hp : p K = true) : firstN p n = some K := by
  unfold firstN
  obtain ⟨d, rfl⟩ : ∃ d, n = K + (d + 1) := ⟨n - K - 1, by omega⟩
  rw [List.range_add, List.find?_append]
  have h1 : (List.range K).find? p = none := by rw [List.find?_eq_none]; intro x hx; rw [h x (List.mem_range.1 hx)]; simp
  rw [h1, List.range_succ_eq_map]
  simp [hp]
/-- none of the first K -/
def NoneN (p : Nat → Bool) (K : Nat) : Prop := ∀ j, j < K → p j = false
theorem NoneN.next {p : Nat → Bool} {K : Nat} (h : NoneN p K) (hp : p K = false) : NoneN p (K + 1) := fun j hj => by
  rcases Nat.lt_or_ge j K with hh | hh
  · exact h j hh
  · obtain rfl : j = K := by omega
    exact hp
end Go.Proofs.YtncpokioagpclaaGreatDoor
