/- Layer 2, plain: what is known of bytes so far, and what waits. -/
import Derived.Test.YtbigbkplhlmbmaaPartsM
namespace Go.Proofs.Ytbigbkplhlmbmaa
set_option linter.unusedVariables false
open Go.RowKit

/-- the tokens ahead of what is short -/
def knownF : Nat → Int → List Int → List Tok
  | 0, _, _ => []
  | _ + 1, _, [] => []
  | f + 1, p, z :: zs => if (oneF (z :: zs)).2.2 = 2 then [] else ⟨p, (oneF (z :: zs)).2.1, (oneF (z :: zs)).2.2, if (oneF (z :: zs)).2.2 = 0 then [(oneF (z :: zs)).1] else []⟩ :: knownF f (p + (oneF (z :: zs)).2.1) ((z :: zs).drop (oneF (z :: zs)).2.1.toNat)
/-- the bytes that are short -/
def heldF : Nat → List Int → List Int
  | 0, _ => []
  | _ + 1, [] => []
  | f + 1, z :: zs => if (oneF (z :: zs)).2.2 = 2 then z :: zs else heldF f ((z :: zs).drop (oneF (z :: zs)).2.1.toNat)

theorem knownF_cons (f : Nat) (p z : Int) (zs : List Int) : knownF (f + 1) p (z :: zs) = if (oneF (z :: zs)).2.2 = 2 then [] else ⟨p, (oneF (z :: zs)).2.1, (oneF (z :: zs)).2.2, if (oneF (z :: zs)).2.2 = 0 then [(oneF (z :: zs)).1] else []⟩ :: knownF f (p + (oneF (z :: zs)).2.1) ((z :: zs).drop (oneF (z :: zs)).2.1.toNat) := rfl
theorem heldF_cons (f : Nat) (z : Int) (zs : List Int) : heldF (f + 1) (z :: zs) = if (oneF (z :: zs)).2.2 = 2 then z :: zs else heldF f ((z :: zs).drop (oneF (z :: zs)).2.1.toNat) := rfl
theorem knownF_nil (f : Nat) (p : Int) : knownF f p [] = [] := by cases f <;> rfl
theorem heldF_nil (f : Nat) : heldF f [] = [] := by cases f <;> rfl

theorem knownF_fuel : ∀ (f g : Nat) (p : Int) (zs : List Int), zs.length ≤ f → zs.length ≤ g → knownF f p zs = knownF g p zs ∧ heldF f zs = heldF g zs
  | f, g, p, [], _, _ => by rw [knownF_nil, knownF_nil, heldF_nil, heldF_nil]; exact ⟨rfl, rfl⟩
  | 0, g, p, z :: zs, h, _ => by simp at h
  | f + 1, 0, p, z :: zs, _, h => by simp at h
  | f + 1, g + 1, p, z :: zs, h, h' => by
    have hn := oneF_n z zs
    have ih := knownF_fuel f g (p + (oneF (z :: zs)).2.1) ((z :: zs).drop (oneF (z :: zs)).2.1.toNat) (by simp only [List.length_drop, List.length_cons] at h ⊢; omega) (by simp only [List.length_drop, List.length_cons] at h' ⊢; omega)
    rw [knownF_cons, knownF_cons, heldF_cons, heldF_cons, ih.1, ih.2]
    exact ⟨rfl, rfl⟩

theorem knownF_app (y : List Int) : ∀ (f : Nat) (zs : List Int) (p : Int) (g h : Nat), zs.length ≤ f → zs.length + y.length ≤ g → (heldF f zs).length + y.length ≤ h →
    knownF g p (zs ++ y) = knownF f p zs ++ knownF h (p + zs.length - (heldF f zs).length) (heldF f zs ++ y) ∧ heldF g (zs ++ y) = heldF h (heldF f zs ++ y)
  | f, [], p, g, h, _, hg, hh => by
    rw [heldF_nil] at hh ⊢
    rw [knownF_nil]
    simp only [List.nil_append, List.length_nil, Nat.zero_add] at hg hh ⊢
    rw [show p + ((0 : Nat) : Int) - ((0 : Nat) : Int) = p from by omega]
    exact knownF_fuel _ _ _ _ hg hh
  | 0, z :: zs, p, g, h, hf, _, _ => by simp at hf
  | f + 1, z :: zs, p, 0, h, hf, hg, _ => by simp at hg
  | f + 1, z :: zs, p, g + 1, h, hf, hg, hh => by
    have hn := oneF_n z zs
    by_cases he : (oneF (z :: zs)).2.2 = 2
    · rw [heldF_cons, if_pos he] at hh ⊢
      rw [knownF_cons, if_pos he]
      simp only [List.nil_append]
      rw [show p + ((z :: zs).length : Int) - ((z :: zs).length : Int) = p from by omega]
      exact knownF_fuel _ _ _ _ (by simp only [List.length_append]; exact hg) (by simp only [List.length_append]; exact hh)
    · rw [heldF_cons, if_neg he] at hh ⊢
      rw [List.cons_append, knownF_cons, knownF_cons, heldF_cons, oneF_ext z zs y he, if_neg he, if_neg he, if_neg he, ← List.cons_append, List.drop_append_of_le_length (by simp only [List.length_cons]; omega)]
      simp only [List.length_cons] at hf hg
      have ih := knownF_app y f ((z :: zs).drop (oneF (z :: zs)).2.1.toNat) (p + (oneF (z :: zs)).2.1) g h (by simp only [List.length_drop, List.length_cons]; omega) (by simp only [List.length_drop, List.length_cons]; omega) hh
      rw [ih.1, ih.2, List.cons_append]
      refine ⟨?_, rfl⟩
      congr 3
      simp only [List.length_drop, List.length_cons]
      omega

theorem contF_short_len : ∀ (need : Nat) (r : List Int) (k s lo hi : Int), (contF need r k s lo hi).2.2 = 2 → r.length < need
  | 0, r, k, s, lo, hi, h => by cases h
  | n + 1, [], k, s, lo, hi, h => by simp
  | n + 1, c :: r, k, s, lo, hi, h => by
    have e : contF (n + 1) (c :: r) k s lo hi = if c < lo ∨ hi < c then (0, k, 1) else contF n r (k + 1) (s * 64 + c % 64) 128 191 := rfl
    rw [e] at h
    by_cases hb : c < lo ∨ hi < c
    · rw [if_pos hb] at h; cases h
    · rw [if_neg hb] at h
      have := contF_short_len n r _ _ _ _ h
      simp only [List.length_cons]; omega
theorem leadF_le (z : Int) : (leadF z).1 ≤ 4 := by unfold leadF; (repeat' split) <;> decide
theorem oneF_short_len (z : Int) (zs : List Int) (h : (oneF (z :: zs)).2.2 = 2) : zs.length + 1 ≤ 3 := by
  have e : oneF (z :: zs) = if (leadF z).1 = 0 then (0, 1, 1) else if (leadF z).1 = 1 then (z, 1, 0) else contF ((leadF z).1.toNat - 1) zs 1 (z % (if (leadF z).1 = 2 then 32 else if (leadF z).1 = 3 then 16 else 8)) (leadF z).2.1 (leadF z).2.2 := rfl
  rw [e] at h
  have hl := leadF_le z
  by_cases h1 : (leadF z).1 = 0
  · rw [if_pos h1] at h; cases h
  · rw [if_neg h1] at h
    by_cases h2 : (leadF z).1 = 1
    · rw [if_pos h2] at h; cases h
    · rw [if_neg h2] at h
      have := contF_short_len _ _ _ _ _ _ h
      omega
theorem heldF_len : ∀ (f : Nat) (zs : List Int), (heldF f zs).length ≤ 3 ∧ (heldF f zs).length ≤ zs.length
  | 0, zs => by simp [heldF]
  | f + 1, [] => by simp [heldF]
  | f + 1, z :: zs => by
    rw [heldF_cons]
    split
    · rename_i h; have := oneF_short_len z zs h; simp only [List.length_cons]; omega
    · have := heldF_len f ((z :: zs).drop (oneF (z :: zs)).2.1.toNat)
      simp only [List.length_drop] at this; omega
theorem heldF_mem : ∀ (f : Nat) (zs : List Int), ∀ z ∈ heldF f zs, z ∈ zs
  | 0, zs, z, h => by simp [heldF] at h
  | f + 1, [], z, h => by simp [heldF] at h
  | f + 1, y :: zs, z, h => by
    rw [heldF_cons] at h
    split at h
    · exact h
    · exact List.mem_of_mem_drop (heldF_mem f _ z h)
/-- all tokens: the known ones, and one of what is short -/
theorem allF_known : ∀ (f : Nat) (p : Int) (zs : List Int), zs.length ≤ f → allF f p zs = knownF f p zs ++ (if heldF f zs = [] then [] else [⟨p + zs.length - (heldF f zs).length, (heldF f zs).length, 2, []⟩])
  | f, p, [], _ => by rw [allF_nil, knownF_nil, heldF_nil]; rfl
  | 0, p, z :: zs, h => by simp at h
  | f + 1, p, z :: zs, h => by
    have hn := oneF_n z zs
    have hsh := oneF_short z zs
    rw [allF_cons, knownF_cons, heldF_cons]
    by_cases he : (oneF (z :: zs)).2.2 = 2
    · rw [if_pos he, if_pos he, if_neg (List.cons_ne_nil z zs), hsh he, he]
      rw [show (z :: zs).drop ((zs.length : Int) + 1).toNat = [] from List.drop_of_length_le (by simp only [List.length_cons]; omega), allF_nil, if_neg (show ¬ (2 : Int) = 0 by decide)]
      simp only [List.length_cons, List.nil_append]
      rw [show p + ((zs.length + 1 : Nat) : Int) - ((zs.length + 1 : Nat) : Int) = p from by omega]
      rfl
    · simp only [List.length_cons] at h
      rw [if_neg he, if_neg he, List.cons_append, allF_known f _ _ (by simp only [List.length_drop, List.length_cons]; omega)]
      congr 3
      simp only [List.length_drop, List.length_cons]
      rw [show p + (oneF (z :: zs)).2.1 + ((zs.length + 1 - (oneF (z :: zs)).2.1.toNat : Nat) : Int) = p + ((zs.length + 1 : Nat) : Int) from by omega]
theorem heldF_held : ∀ (f g : Nat) (zs : List Int), zs.length ≤ f → (heldF f zs).length ≤ g → heldF g (heldF f zs) = heldF f zs ∧ ∀ p, knownF g p (heldF f zs) = []
  | f, g, [], _, _ => by rw [heldF_nil, heldF_nil]; exact ⟨rfl, fun p => knownF_nil g p⟩
  | 0, g, z :: zs, h, _ => by simp at h
  | f + 1, g, z :: zs, h, hg => by
    have hn := oneF_n z zs
    rw [heldF_cons] at hg ⊢
    by_cases he : (oneF (z :: zs)).2.2 = 2
    · rw [if_pos he] at hg ⊢
      obtain ⟨g', rfl⟩ : ∃ g', g = g' + 1 := ⟨g - 1, by simp at hg; omega⟩
      rw [heldF_cons, if_pos he]
      exact ⟨rfl, fun p => by rw [knownF_cons, if_pos he]⟩
    · rw [if_neg he] at hg ⊢
      simp only [List.length_cons] at h
      exact heldF_held f g _ (by simp only [List.length_drop, List.length_cons]; omega) hg

/-- what is known, and what waits, of bytes that begin at p -/
def KN (p : Int) (zs : List Int) : List Tok := knownF zs.length p zs
def HD (zs : List Int) : List Int := heldF zs.length zs
theorem KN_app (p : Int) (zs y : List Int) : KN p (zs ++ y) = KN p zs ++ KN (p + zs.length - (HD zs).length) (HD zs ++ y) :=
  (knownF_app y zs.length zs p _ (HD zs ++ y).length (Nat.le_refl _) (by simp) (by simp [HD])).1
theorem HD_app (zs y : List Int) : HD (zs ++ y) = HD (HD zs ++ y) :=
  (knownF_app y zs.length zs 0 _ (HD zs ++ y).length (Nat.le_refl _) (by simp) (by simp [HD])).2
theorem HD_len (zs : List Int) : (HD zs).length ≤ 3 ∧ (HD zs).length ≤ zs.length := heldF_len _ _
theorem HD_HD (zs : List Int) : HD (HD zs) = HD zs := (heldF_held zs.length _ zs (Nat.le_refl _) (Nat.le_refl _)).1
theorem KN_HD (p : Int) (zs : List Int) : KN p (HD zs) = [] := (heldF_held zs.length _ zs (Nat.le_refl _) (Nat.le_refl _)).2 p
theorem knownF_out : ∀ (f : Nat) (p : Int) (zs : List Int), ∀ t ∈ knownF f p zs, t.out.length ≤ 1 ∧ p ≤ t.pos ∧ t.pos ≤ p + zs.length
  | 0, p, zs, t, h => by simp [knownF] at h
  | f + 1, p, [], t, h => by simp [knownF] at h
  | f + 1, p, z :: zs, t, h => by
    have hn := oneF_n z zs
    rw [knownF_cons] at h
    by_cases he : (oneF (z :: zs)).2.2 = 2
    · rw [if_pos he] at h; cases h
    · rw [if_neg he] at h
      rcases List.mem_cons.1 h with rfl | h
      · refine ⟨?_, ?_, ?_⟩
        · simp only; split <;> simp
        · simp
        · simp only; omega
      · have := knownF_out f _ _ t h
        simp only [List.length_drop, List.length_cons] at this ⊢
        omega
theorem knownF_len : ∀ (f : Nat) (p : Int) (zs : List Int), (knownF f p zs).length ≤ zs.length
  | 0, p, zs => by simp [knownF]
  | f + 1, p, [] => by simp [knownF]
  | f + 1, p, z :: zs => by
    have hn := oneF_n z zs
    have := knownF_len f (p + (oneF (z :: zs)).2.1) ((z :: zs).drop (oneF (z :: zs)).2.1.toNat)
    rw [knownF_cons]
    split
    · simp
    · simp only [List.length_drop, List.length_cons] at this ⊢; omega
theorem known_short {f P : Nat} {zs : List Int} {s n : Int} (hP : P < zs.length) (hf : zs.length - P ≤ f) (ho : oneF (zs.drop P) = (s, n, 2)) : (∀ p, knownF f p (zs.drop P) = []) ∧ heldF f (zs.drop P) = zs.drop P := by
  obtain ⟨g, rfl⟩ : ∃ g, f = g + 1 := ⟨f - 1, by omega⟩
  have hd := List.drop_eq_getElem_cons hP
  rw [hd] at ho ⊢
  exact ⟨fun p => by rw [knownF_cons, ho, if_pos rfl], by rw [heldF_cons, ho, if_pos rfl]⟩
theorem known_step {f P : Nat} {zs : List Int} {s n e p : Int} (hP : P < zs.length) (hf : zs.length - P ≤ f) (ho : oneF (zs.drop P) = (s, n, e)) (he : e ≠ 2) (g : Nat) (hg : zs.length - (P + n.toNat) ≤ g) :
    knownF f p (zs.drop P) = ⟨p, n, e, if e = 0 then [s] else []⟩ :: knownF g (p + n) (zs.drop (P + n.toNat)) ∧ heldF f (zs.drop P) = heldF g (zs.drop (P + n.toNat)) := by
  obtain ⟨k, rfl⟩ : ∃ g, f = g + 1 := ⟨f - 1, by omega⟩
  have hn := oneF_n zs[P] (zs.drop (P + 1))
  have hd := List.drop_eq_getElem_cons hP
  rw [← hd, ho] at hn
  simp only at hn
  have hk := knownF_fuel k g (p + n) (zs.drop (P + n.toNat)) (by simp only [List.length_drop]; omega) (by simp only [List.length_drop]; exact hg)
  rw [← hk.1, ← hk.2, ← List.drop_drop, hd, knownF_cons, heldF_cons, ← hd, ho, if_neg he, if_neg he]
  exact ⟨rfl, rfl⟩
end Go.Proofs.Ytbigbkplhlmbmaa
