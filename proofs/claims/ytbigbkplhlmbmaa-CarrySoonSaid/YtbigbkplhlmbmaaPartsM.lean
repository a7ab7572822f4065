/- Layer 1, plain: the tokens of two parts. -/
import Derived.Test.YtbigbkplhlmbmaaUtfOwn
namespace Go.Proofs.Ytbigbkplhlmbmaa
set_option linter.unusedVariables false
open Go.RowKit

theorem contF_ext : ∀ (need : Nat) (r x : List Int) (k s lo hi : Int), (contF need r k s lo hi).2.2 ≠ 2 → contF need (r ++ x) k s lo hi = contF need r k s lo hi
  | 0, r, x, k, s, lo, hi, h => rfl
  | n + 1, [], x, k, s, lo, hi, h => absurd rfl h
  | n + 1, c :: r, x, k, s, lo, hi, h => by
    have e : ∀ y, contF (n + 1) (c :: y) k s lo hi = if c < lo ∨ hi < c then (0, k, 1) else contF n y (k + 1) (s * 64 + c % 64) 128 191 := fun _ => rfl
    rw [List.cons_append, e, e]
    rw [e] at h
    by_cases hb : c < lo ∨ hi < c
    · rw [if_pos hb, if_pos hb]
    · rw [if_neg hb] at h ⊢
      rw [if_neg hb, contF_ext n r x _ _ _ _ h]
theorem oneF_ext (z : Int) (zs x : List Int) (h : (oneF (z :: zs)).2.2 ≠ 2) : oneF (z :: (zs ++ x)) = oneF (z :: zs) := by
  have e : ∀ y, oneF (z :: y) = if (leadF z).1 = 0 then (0, 1, 1) else if (leadF z).1 = 1 then (z, 1, 0) else contF ((leadF z).1.toNat - 1) y 1 (z % (if (leadF z).1 = 2 then 32 else if (leadF z).1 = 3 then 16 else 8)) (leadF z).2.1 (leadF z).2.2 := fun _ => rfl
  rw [e, e]
  rw [e] at h
  by_cases h1 : (leadF z).1 = 0
  · rw [if_pos h1, if_pos h1]
  rw [if_neg h1] at h ⊢
  rw [if_neg h1]
  by_cases h2 : (leadF z).1 = 1
  · rw [if_pos h2, if_pos h2]
  rw [if_neg h2] at h ⊢
  rw [if_neg h2, contF_ext _ _ _ _ _ _ _ h]

theorem allF_cons (f : Nat) (p z : Int) (zs : List Int) : allF (f + 1) p (z :: zs) = ⟨p, (oneF (z :: zs)).2.1, (oneF (z :: zs)).2.2, if (oneF (z :: zs)).2.2 = 0 then [(oneF (z :: zs)).1] else []⟩ :: allF f (p + (oneF (z :: zs)).2.1) ((z :: zs).drop (oneF (z :: zs)).2.1.toNat) := rfl
theorem allF_nil (f : Nat) (p : Int) : allF f p [] = [] := by cases f <;> rfl
theorem allF_fuel : ∀ (f g : Nat) (p : Int) (zs : List Int), zs.length ≤ f → zs.length ≤ g → allF f p zs = allF g p zs
  | f, g, p, [], _, _ => by rw [allF_nil, allF_nil]
  | 0, g, p, z :: zs, h, _ => by simp at h
  | f + 1, 0, p, z :: zs, _, h => by simp at h
  | f + 1, g + 1, p, z :: zs, h, h' => by
    have hn := oneF_n z zs
    rw [allF_cons, allF_cons, allF_fuel f g _ _ (by simp only [List.length_drop, List.length_cons] at h ⊢; omega) (by simp only [List.length_drop, List.length_cons] at h' ⊢; omega)]

def shT (d : Int) (t : Tok) : Tok := ⟨t.pos + d, t.size, t.err, t.out⟩
theorem allF_shift (d : Int) : ∀ (f : Nat) (p : Int) (zs : List Int), allF f (p + d) zs = (allF f p zs).map (shT d)
  | 0, p, zs => rfl
  | f + 1, p, [] => rfl
  | f + 1, p, z :: zs => by
    rw [allF_cons, allF_cons, List.map_cons, ← allF_shift d f]
    rw [show p + d + (oneF (z :: zs)).2.1 = p + (oneF (z :: zs)).2.1 + d from by omega]
    rfl

theorem getLast_cons {t u : Tok} {ts : List Tok} (h : ts.getLast? = some u) : (t :: ts).getLast? = some u := by
  cases ts with
  | nil => cases h
  | cons a l => rw [List.getLast?_cons_cons]; exact h

theorem allF_app (b : List Int) : ∀ (f : Nat) (a : List Int) (p : Int), a.length ≤ f → (∀ t, (allF f p a).getLast? = some t → t.err ≠ 2) → ∀ g, a.length + b.length ≤ g → allF g p (a ++ b) = allF f p a ++ allF b.length (p + a.length) b
  | f, [], p, _, _, g, hg => by
    rw [allF_nil]
    simp only [List.nil_append, List.length_nil, Nat.zero_add] at hg ⊢
    rw [show p + ((0 : Nat) : Int) = p from by omega]
    exact allF_fuel _ _ _ _ hg (Nat.le_refl _)
  | 0, z :: zs, p, h, _, g, hg => by simp at h
  | f + 1, z :: zs, p, h, hl, 0, hg => by simp at hg
  | f + 1, z :: zs, p, h, hl, g + 1, hg => by
    have hn := oneF_n z zs
    have hsh := oneF_short z zs
    rw [List.cons_append, allF_cons, allF_cons]
    rw [allF_cons] at hl
    by_cases he : (oneF (z :: zs)).2.2 = 2
    · exfalso
      have hd : (z :: zs).drop (oneF (z :: zs)).2.1.toNat = [] := List.drop_of_length_le (by have := hsh he; simp only [List.length_cons]; omega)
      rw [hd, allF_nil] at hl
      exact hl _ rfl he
    · rw [oneF_ext z zs b he, List.cons_append]
      congr 1
      rw [← List.cons_append, List.drop_append_of_le_length (by simp only [List.length_cons]; omega)]
      simp only [List.length_cons] at h hg
      rw [allF_app b f ((z :: zs).drop (oneF (z :: zs)).2.1.toNat) (p + (oneF (z :: zs)).2.1) (by simp only [List.length_drop, List.length_cons]; omega) (fun t ht => hl t (getLast_cons ht)) g (by simp only [List.length_drop, List.length_cons]; omega)]
      congr 2
      simp only [List.length_drop, List.length_cons]
      omega

theorem allF_len : ∀ (f : Nat) (p : Int) (zs : List Int), (allF f p zs).length ≤ zs.length
  | 0, p, zs => by simp [allF]
  | f + 1, p, [] => by simp [allF]
  | f + 1, p, z :: zs => by
    have hn := oneF_n z zs
    have := allF_len f (p + (oneF (z :: zs)).2.1) ((z :: zs).drop (oneF (z :: zs)).2.1.toNat)
    rw [allF_cons]
    simp only [List.length_drop, List.length_cons] at this ⊢
    omega
theorem allF_out : ∀ (f : Nat) (p : Int) (zs : List Int), ∀ t ∈ allF f p zs, t.out.length ≤ 1
  | 0, p, zs, t, h => by simp [allF] at h
  | f + 1, p, [], t, h => by simp [allF] at h
  | f + 1, p, z :: zs, t, h => by
    rw [allF_cons] at h
    rcases List.mem_cons.1 h with rfl | h
    · simp only; split <;> simp
    · exact allF_out f _ _ t h
theorem allF_pos : ∀ (f : Nat) (p : Int) (zs : List Int), ∀ t ∈ allF f p zs, p ≤ t.pos ∧ t.pos ≤ p + zs.length
  | 0, p, zs, t, h => by simp [allF] at h
  | f + 1, p, [], t, h => by simp [allF] at h
  | f + 1, p, z :: zs, t, h => by
    have hn := oneF_n z zs
    rw [allF_cons] at h
    rcases List.mem_cons.1 h with rfl | h
    · simp only [List.length_cons]; omega
    · have := allF_pos f _ _ t h
      simp only [List.length_drop, List.length_cons] at this ⊢
      omega
end Go.Proofs.Ytbigbkplhlmbmaa
