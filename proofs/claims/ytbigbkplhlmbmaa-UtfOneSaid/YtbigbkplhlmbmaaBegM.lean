/- Layer 1, plain: the law's own way to see that bytes are a beginning of a scalar's bytes, and that One tells the same. -/
import Derived.Test.YtbigbkplhlmbmaaCarrySoonM
namespace Go.Proofs.Ytbigbkplhlmbmaa
set_option linter.unusedVariables false
open Go.RowKit

def begSize (a : Int) : Nat := if 192 ≤ a ∧ a < 224 then 2 else if 224 ≤ a ∧ a < 240 then 3 else if 240 ≤ a ∧ a < 248 then 4 else 0
def begN0 (a : Int) : Int := if 192 ≤ a ∧ a < 224 then a - 192 else if 224 ≤ a ∧ a < 240 then a - 224 else if 240 ≤ a ∧ a < 248 then a - 240 else 0
def begN (y : List Int) (n0 : Int) : Nat → Int
  | 0 => n0
  | j + 1 => begN y n0 j * 64 + (if j + 1 < y.length then y.getD (j + 1) 0 - 128 else 0)
def begMin (size : Nat) : Int := if size = 2 then 128 else if size = 3 then 2048 else if size = 4 then 65536 else 0
def begPass (size : Nat) (n wide s : Int) : Prop := n ≤ s ∧ s < n + wide ∧ scB s = true ∧ szI s = size
def begAny (size : Nat) (n wide : Int) : Prop := begPass size n wide n ∨ begPass size n wide (n + wide - 1) ∨ begPass size n wide (max n (begMin size))
def begP (y : List Int) : Prop :=
  (∀ c ∈ y.drop 1, 128 ≤ c ∧ c ≤ 191) ∧ y.length < begSize (y.getD 0 0) ∧ begAny (begSize (y.getD 0 0)) (begN y (begN0 (y.getD 0 0)) (begSize (y.getD 0 0) - 1)) (64 ^ (begSize (y.getD 0 0) - y.length))

theorem sz2 (s : Int) : (scB s = true ∧ szI s = ((2 : Nat) : Int)) ↔ 128 ≤ s ∧ s < 2048 := by
  unfold szI; rw [scB_t]
  by_cases h : scB s = false
  · rw [if_pos h]; have := scB_f.1 h; omega
  · rw [if_neg h]; (repeat' split) <;> omega
theorem sz3 (s : Int) : (scB s = true ∧ szI s = ((3 : Nat) : Int)) ↔ 2048 ≤ s ∧ s < 65536 ∧ ¬ (55296 ≤ s ∧ s < 57344) := by
  unfold szI; rw [scB_t]
  by_cases h : scB s = false
  · rw [if_pos h]; have := scB_f.1 h; omega
  · rw [if_neg h]; (repeat' split) <;> omega
theorem sz4 (s : Int) : (scB s = true ∧ szI s = ((4 : Nat) : Int)) ↔ 65536 ≤ s ∧ s < 1114112 := by
  unfold szI; rw [scB_t]
  by_cases h : scB s = false
  · rw [if_pos h]; have := scB_f.1 h; omega
  · rw [if_neg h]; (repeat' split) <;> omega

theorem any2 (n wide : Int) : begAny 2 n wide ↔ (128 ≤ n ∧ n < 2048 ∧ 0 < wide) ∨ (0 < wide ∧ 128 ≤ n + wide - 1 ∧ n + wide - 1 < 2048) ∨ (max n 128 < n + wide ∧ max n 128 < 2048) := by
  unfold begAny begPass
  rw [sz2, sz2, sz2, show begMin 2 = 128 from rfl]
  omega
theorem any3 (n wide : Int) : begAny 3 n wide ↔ (2048 ≤ n ∧ n < 65536 ∧ ¬ (55296 ≤ n ∧ n < 57344) ∧ 0 < wide) ∨ (0 < wide ∧ 2048 ≤ n + wide - 1 ∧ n + wide - 1 < 65536 ∧ ¬ (55296 ≤ n + wide - 1 ∧ n + wide - 1 < 57344)) ∨ (max n 2048 < n + wide ∧ max n 2048 < 65536 ∧ ¬ (55296 ≤ max n 2048 ∧ max n 2048 < 57344)) := by
  unfold begAny begPass
  rw [sz3, sz3, sz3, show begMin 3 = 2048 from rfl]
  omega
theorem any4 (n wide : Int) : begAny 4 n wide ↔ (65536 ≤ n ∧ n < 1114112 ∧ 0 < wide) ∨ (0 < wide ∧ 65536 ≤ n + wide - 1 ∧ n + wide - 1 < 1114112) ∨ (max n 65536 < n + wide ∧ max n 65536 < 1114112) := by
  unfold begAny begPass
  rw [sz4, sz4, sz4, show begMin 4 = 65536 from rfl]
  omega

theorem begSize_cases (a : Int) : (begSize a = 0 ∧ (a < 192 ∨ 248 ≤ a)) ∨ (begSize a = 2 ∧ begN0 a = a - 192 ∧ 192 ≤ a ∧ a < 224) ∨ (begSize a = 3 ∧ begN0 a = a - 224 ∧ 224 ≤ a ∧ a < 240) ∨ (begSize a = 4 ∧ begN0 a = a - 240 ∧ 240 ≤ a ∧ a < 248) := by
  unfold begSize begN0
  by_cases h1 : 192 ≤ a ∧ a < 224
  · rw [if_pos h1, if_pos h1]; omega
  rw [if_neg h1, if_neg h1]
  by_cases h2 : 224 ≤ a ∧ a < 240
  · rw [if_pos h2, if_pos h2]; omega
  rw [if_neg h2, if_neg h2]
  by_cases h3 : 240 ≤ a ∧ a < 248
  · rw [if_pos h3, if_pos h3]; omega
  rw [if_neg h3, if_neg h3]; omega

theorem short1 (a : Int) : (oneF [a]).2.2 = 2 ↔ 194 ≤ a ∧ a < 245 := by
  have e : oneF [a] = if (leadF a).1 = 0 then (0, 1, 1) else if (leadF a).1 = 1 then (a, 1, 0) else contF ((leadF a).1.toNat - 1) [] 1 (a % (if (leadF a).1 = 2 then 32 else if (leadF a).1 = 3 then 16 else 8)) (leadF a).2.1 (leadF a).2.2 := rfl
  rw [e]
  by_cases h1 : a < 128
  · rw [show leadF a = (1, 0, 0) from by unfold leadF; rw [if_pos h1]]; simp; omega
  by_cases h2 : a < 194
  · rw [show leadF a = (0, 0, 0) from by unfold leadF; rw [if_neg h1, if_pos h2]]; simp; omega
  by_cases h3 : a < 224
  · rw [leadF_2 a (by omega) h3]
    show ((0 : Int), (1 : Int), (2 : Int)).2.2 = 2 ↔ _
    simp; omega
  by_cases h4 : a < 240
  · rw [leadF_3 a (by omega) h4]
    show ((0 : Int), (1 : Int), (2 : Int)).2.2 = 2 ↔ _
    simp; omega
  by_cases h5 : a < 245
  · rw [leadF_4 a (by omega) h5]
    show ((0 : Int), (1 : Int), (2 : Int)).2.2 = 2 ↔ _
    simp; omega
  · rw [show leadF a = (0, 0, 0) from by unfold leadF; rw [if_neg h1, if_neg h2, if_neg h3, if_neg (by omega), if_neg (by omega), if_neg h4, if_neg (by omega), if_neg (by omega), if_neg (by omega)]]
    simp; omega

theorem begP1 (a : Int) : begP [a] ↔ (oneF [a]).2.2 = 2 := by
  rw [short1]
  unfold begP
  show (∀ c ∈ ([] : List Int), _) ∧ 1 < begSize a ∧ _ ↔ _
  rcases begSize_cases a with ⟨h, h'⟩ | ⟨h, h0, h'⟩ | ⟨h, h0, h'⟩ | ⟨h, h0, h'⟩
  · rw [h]; simp; omega
  · rw [show [a].getD 0 0 = a from rfl, h, h0, any2]
    show _ ∧ _ ∧ ((128 ≤ (a - 192) * 64 + 0 ∧ (a - 192) * 64 + 0 < 2048 ∧ (0 : Int) < 64) ∨ ((0 : Int) < 64 ∧ 128 ≤ (a - 192) * 64 + 0 + 64 - 1 ∧ (a - 192) * 64 + 0 + 64 - 1 < 2048) ∨ (max ((a - 192) * 64 + 0) 128 < (a - 192) * 64 + 0 + 64 ∧ max ((a - 192) * 64 + 0) 128 < 2048)) ↔ _
    simp; omega
  · rw [show [a].getD 0 0 = a from rfl, h, h0, any3]
    show _ ∧ _ ∧ ((2048 ≤ ((a - 224) * 64 + 0) * 64 + 0 ∧ ((a - 224) * 64 + 0) * 64 + 0 < 65536 ∧ ¬ (55296 ≤ ((a - 224) * 64 + 0) * 64 + 0 ∧ ((a - 224) * 64 + 0) * 64 + 0 < 57344) ∧ (0 : Int) < 4096) ∨ ((0 : Int) < 4096 ∧ 2048 ≤ ((a - 224) * 64 + 0) * 64 + 0 + 4096 - 1 ∧ ((a - 224) * 64 + 0) * 64 + 0 + 4096 - 1 < 65536 ∧ ¬ (55296 ≤ ((a - 224) * 64 + 0) * 64 + 0 + 4096 - 1 ∧ ((a - 224) * 64 + 0) * 64 + 0 + 4096 - 1 < 57344)) ∨ (max (((a - 224) * 64 + 0) * 64 + 0) 2048 < ((a - 224) * 64 + 0) * 64 + 0 + 4096 ∧ max (((a - 224) * 64 + 0) * 64 + 0) 2048 < 65536 ∧ ¬ (55296 ≤ max (((a - 224) * 64 + 0) * 64 + 0) 2048 ∧ max (((a - 224) * 64 + 0) * 64 + 0) 2048 < 57344))) ↔ _
    simp; omega
  · rw [show [a].getD 0 0 = a from rfl, h, h0, any4]
    show _ ∧ _ ∧ ((65536 ≤ (((a - 240) * 64 + 0) * 64 + 0) * 64 + 0 ∧ (((a - 240) * 64 + 0) * 64 + 0) * 64 + 0 < 1114112 ∧ (0 : Int) < 262144) ∨ ((0 : Int) < 262144 ∧ 65536 ≤ (((a - 240) * 64 + 0) * 64 + 0) * 64 + 0 + 262144 - 1 ∧ (((a - 240) * 64 + 0) * 64 + 0) * 64 + 0 + 262144 - 1 < 1114112) ∨ (max ((((a - 240) * 64 + 0) * 64 + 0) * 64 + 0) 65536 < (((a - 240) * 64 + 0) * 64 + 0) * 64 + 0 + 262144 ∧ max ((((a - 240) * 64 + 0) * 64 + 0) * 64 + 0) 65536 < 1114112)) ↔ _
    simp; omega

theorem cont_yes {n : Nat} {c : Int} {r : List Int} {k s lo hi : Int} (h : lo ≤ c ∧ c ≤ hi) : contF (n + 1) (c :: r) k s lo hi = contF n r (k + 1) (s * 64 + c % 64) 128 191 := contF_yes n c r k s lo hi h
theorem cont_no {n : Nat} {c : Int} {r : List Int} {k s lo hi : Int} (h : ¬ (lo ≤ c ∧ c ≤ hi)) : contF (n + 1) (c :: r) k s lo hi = (0, k, 1) := by
  show (if _ then _ else _) = _
  rw [if_pos (by omega)]
theorem cont_nil {n : Nat} {k s lo hi : Int} : contF (n + 1) [] k s lo hi = (0, k, 2) := rfl
theorem cont_zero {r : List Int} {k s lo hi : Int} : contF 0 r k s lo hi = (s, k, 0) := rfl
theorem short2 (a b : Int) : (oneF [a, b]).2.2 = 2 ↔ 224 ≤ a ∧ a < 245 ∧ 128 ≤ b ∧ b ≤ 191 ∧ (a = 224 → 160 ≤ b) ∧ (a = 237 → b ≤ 159) ∧ (a = 240 → 144 ≤ b) ∧ (a = 244 → b ≤ 143) := by
  have e : oneF [a, b] = if (leadF a).1 = 0 then (0, 1, 1) else if (leadF a).1 = 1 then (a, 1, 0) else contF ((leadF a).1.toNat - 1) [b] 1 (a % (if (leadF a).1 = 2 then 32 else if (leadF a).1 = 3 then 16 else 8)) (leadF a).2.1 (leadF a).2.2 := rfl
  rw [e]
  by_cases h1 : a < 128
  · rw [show leadF a = (1, 0, 0) from by unfold leadF; rw [if_pos h1]]; simp; omega
  by_cases h2 : a < 194
  · rw [show leadF a = (0, 0, 0) from by unfold leadF; rw [if_neg h1, if_pos h2]]; simp; omega
  by_cases h3 : a < 224
  · rw [leadF_2 a (by omega) h3]
    show (contF 1 [b] 1 (a % 32) 128 191).2.2 = 2 ↔ _
    by_cases hb : 128 ≤ b ∧ b ≤ 191
    · rw [cont_yes hb, cont_zero]; simp; omega
    · rw [cont_no hb]; simp; omega
  by_cases h4 : a < 240
  · rw [leadF_3 a (by omega) h4]
    show (contF 2 [b] 1 (a % 16) (if a = 224 then 160 else 128) (if a = 237 then 159 else 191)).2.2 = 2 ↔ _
    by_cases hb : (if a = 224 then (160 : Int) else 128) ≤ b ∧ b ≤ (if a = 237 then (159 : Int) else 191)
    · rw [cont_yes hb, cont_nil]; revert hb; split <;> split <;> (intro hb; simp; omega)
    · rw [cont_no hb]; revert hb; split <;> split <;> (intro hb; simp; omega)
  by_cases h5 : a < 245
  · rw [leadF_4 a (by omega) h5]
    show (contF 3 [b] 1 (a % 8) (if a = 240 then 144 else 128) (if a = 244 then 143 else 191)).2.2 = 2 ↔ _
    by_cases hb : (if a = 240 then (144 : Int) else 128) ≤ b ∧ b ≤ (if a = 244 then (143 : Int) else 191)
    · rw [cont_yes hb, cont_nil]; revert hb; split <;> split <;> (intro hb; simp; omega)
    · rw [cont_no hb]; revert hb; split <;> split <;> (intro hb; simp; omega)
  · rw [show leadF a = (0, 0, 0) from by unfold leadF; rw [if_neg h1, if_neg h2, if_neg h3, if_neg (by omega), if_neg (by omega), if_neg h4, if_neg (by omega), if_neg (by omega), if_neg (by omega)]]
    simp; omega

theorem short3 (a b c : Int) : (oneF [a, b, c]).2.2 = 2 ↔ 240 ≤ a ∧ a < 245 ∧ 128 ≤ b ∧ b ≤ 191 ∧ (a = 240 → 144 ≤ b) ∧ (a = 244 → b ≤ 143) ∧ 128 ≤ c ∧ c ≤ 191 := by
  have e : oneF [a, b, c] = if (leadF a).1 = 0 then (0, 1, 1) else if (leadF a).1 = 1 then (a, 1, 0) else contF ((leadF a).1.toNat - 1) [b, c] 1 (a % (if (leadF a).1 = 2 then 32 else if (leadF a).1 = 3 then 16 else 8)) (leadF a).2.1 (leadF a).2.2 := rfl
  rw [e]
  by_cases h1 : a < 128
  · rw [show leadF a = (1, 0, 0) from by unfold leadF; rw [if_pos h1]]; simp; omega
  by_cases h2 : a < 194
  · rw [show leadF a = (0, 0, 0) from by unfold leadF; rw [if_neg h1, if_pos h2]]; simp; omega
  by_cases h3 : a < 224
  · rw [leadF_2 a (by omega) h3]
    show (contF 1 [b, c] 1 (a % 32) 128 191).2.2 = 2 ↔ _
    by_cases hb : 128 ≤ b ∧ b ≤ 191
    · rw [cont_yes hb, cont_zero]; simp; omega
    · rw [cont_no hb]; simp; omega
  by_cases h4 : a < 240
  · rw [leadF_3 a (by omega) h4]
    show (contF 2 [b, c] 1 (a % 16) (if a = 224 then 160 else 128) (if a = 237 then 159 else 191)).2.2 = 2 ↔ _
    by_cases hb : (if a = 224 then (160 : Int) else 128) ≤ b ∧ b ≤ (if a = 237 then (159 : Int) else 191)
    · rw [cont_yes hb]
      by_cases hc : 128 ≤ c ∧ c ≤ 191
      · rw [cont_yes hc, cont_zero]; simp; omega
      · rw [cont_no hc]; simp; omega
    · rw [cont_no hb]; simp; omega
  by_cases h5 : a < 245
  · rw [leadF_4 a (by omega) h5]
    show (contF 3 [b, c] 1 (a % 8) (if a = 240 then 144 else 128) (if a = 244 then 143 else 191)).2.2 = 2 ↔ _
    by_cases hb : (if a = 240 then (144 : Int) else 128) ≤ b ∧ b ≤ (if a = 244 then (143 : Int) else 191)
    · rw [cont_yes hb]
      by_cases hc : 128 ≤ c ∧ c ≤ 191
      · rw [cont_yes hc, cont_nil]; revert hb; split <;> split <;> (intro hb; simp; omega)
      · rw [cont_no hc]; simp; omega
    · rw [cont_no hb]; revert hb; split <;> split <;> (intro hb; simp; omega)
  · rw [show leadF a = (0, 0, 0) from by unfold leadF; rw [if_neg h1, if_neg h2, if_neg h3, if_neg (by omega), if_neg (by omega), if_neg h4, if_neg (by omega), if_neg (by omega), if_neg (by omega)]]
    simp; omega

theorem begP2 (a b : Int) : begP [a, b] ↔ (oneF [a, b]).2.2 = 2 := by
  rw [short2]
  unfold begP
  show (∀ c ∈ [b], _) ∧ 2 < begSize a ∧ _ ↔ _
  rcases begSize_cases a with ⟨h, h'⟩ | ⟨h, h0, h'⟩ | ⟨h, h0, h'⟩ | ⟨h, h0, h'⟩
  · rw [h]; simp; omega
  · rw [h]; simp; omega
  · rw [show [a, b].getD 0 0 = a from rfl, h, h0, any3]
    show _ ∧ _ ∧ ((2048 ≤ ((a - 224) * 64 + (b - 128)) * 64 + 0 ∧ ((a - 224) * 64 + (b - 128)) * 64 + 0 < 65536 ∧ ¬ (55296 ≤ ((a - 224) * 64 + (b - 128)) * 64 + 0 ∧ ((a - 224) * 64 + (b - 128)) * 64 + 0 < 57344) ∧ (0 : Int) < 64) ∨ ((0 : Int) < 64 ∧ 2048 ≤ ((a - 224) * 64 + (b - 128)) * 64 + 0 + 64 - 1 ∧ ((a - 224) * 64 + (b - 128)) * 64 + 0 + 64 - 1 < 65536 ∧ ¬ (55296 ≤ ((a - 224) * 64 + (b - 128)) * 64 + 0 + 64 - 1 ∧ ((a - 224) * 64 + (b - 128)) * 64 + 0 + 64 - 1 < 57344)) ∨ (max (((a - 224) * 64 + (b - 128)) * 64 + 0) 2048 < ((a - 224) * 64 + (b - 128)) * 64 + 0 + 64 ∧ max (((a - 224) * 64 + (b - 128)) * 64 + 0) 2048 < 65536 ∧ ¬ (55296 ≤ max (((a - 224) * 64 + (b - 128)) * 64 + 0) 2048 ∧ max (((a - 224) * 64 + (b - 128)) * 64 + 0) 2048 < 57344))) ↔ _
    simp only [List.mem_singleton, forall_eq]
    omega
  · rw [show [a, b].getD 0 0 = a from rfl, h, h0, any4]
    show _ ∧ _ ∧ ((65536 ≤ (((a - 240) * 64 + (b - 128)) * 64 + 0) * 64 + 0 ∧ (((a - 240) * 64 + (b - 128)) * 64 + 0) * 64 + 0 < 1114112 ∧ (0 : Int) < 4096) ∨ ((0 : Int) < 4096 ∧ 65536 ≤ (((a - 240) * 64 + (b - 128)) * 64 + 0) * 64 + 0 + 4096 - 1 ∧ (((a - 240) * 64 + (b - 128)) * 64 + 0) * 64 + 0 + 4096 - 1 < 1114112) ∨ (max ((((a - 240) * 64 + (b - 128)) * 64 + 0) * 64 + 0) 65536 < (((a - 240) * 64 + (b - 128)) * 64 + 0) * 64 + 0 + 4096 ∧ max ((((a - 240) * 64 + (b - 128)) * 64 + 0) * 64 + 0) 65536 < 1114112)) ↔ _
    simp only [List.mem_singleton, forall_eq]
    omega
theorem begP3 (a b c : Int) : begP [a, b, c] ↔ (oneF [a, b, c]).2.2 = 2 := by
  rw [short3]
  unfold begP
  show (∀ x ∈ [b, c], _) ∧ 3 < begSize a ∧ _ ↔ _
  rcases begSize_cases a with ⟨h, h'⟩ | ⟨h, h0, h'⟩ | ⟨h, h0, h'⟩ | ⟨h, h0, h'⟩
  · rw [h]; simp; omega
  · rw [h]; simp; omega
  · rw [h]; simp; omega
  · rw [show [a, b, c].getD 0 0 = a from rfl, h, h0, any4]
    show _ ∧ _ ∧ ((65536 ≤ (((a - 240) * 64 + (b - 128)) * 64 + (c - 128)) * 64 + 0 ∧ (((a - 240) * 64 + (b - 128)) * 64 + (c - 128)) * 64 + 0 < 1114112 ∧ (0 : Int) < 64) ∨ ((0 : Int) < 64 ∧ 65536 ≤ (((a - 240) * 64 + (b - 128)) * 64 + (c - 128)) * 64 + 0 + 64 - 1 ∧ (((a - 240) * 64 + (b - 128)) * 64 + (c - 128)) * 64 + 0 + 64 - 1 < 1114112) ∨ (max ((((a - 240) * 64 + (b - 128)) * 64 + (c - 128)) * 64 + 0) 65536 < (((a - 240) * 64 + (b - 128)) * 64 + (c - 128)) * 64 + 0 + 64 ∧ max ((((a - 240) * 64 + (b - 128)) * 64 + (c - 128)) * 64 + 0) 65536 < 1114112)) ↔ _
    simp only [List.mem_cons, List.not_mem_nil, or_false, forall_eq_or_imp, forall_eq]
    omega
theorem begP_short (y : List Int) (h1 : 1 ≤ y.length) (h4 : y.length ≤ 4) : begP y ↔ (oneF y).2.2 = 2 := by
  match y, h1, h4 with
  | [a], _, _ => exact begP1 a
  | [a, b], _, _ => exact begP2 a b
  | [a, b, c], _, _ => exact begP3 a b c
  | [a, b, c, d], _, _ =>
    constructor
    · intro h
      have h2 : 4 < begSize a := h.2.1
      have := begSize_cases a
      omega
    · intro h
      have := oneF_short_len a [b, c, d] h
      simp at this
end Go.Proofs.Ytbigbkplhlmbmaa
