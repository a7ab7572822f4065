/- Layer 2, plain: the bytes of one scalar, one by one; how many bytes are known; what waits is a suffix. -/
import Derived.Test.YtbigbkplhlmbmaaCarryM
namespace Go.Proofs.Ytbigbkplhlmbmaa
set_option linter.unusedVariables false
open Go.RowKit

theorem oneF_range (z : Int) (zs : List Int) : (oneF (z :: zs)).2.2 = 0 ∨ (oneF (z :: zs)).2.2 = 1 ∨ (oneF (z :: zs)).2.2 = 2 := by
  have := oneF_n z zs; omega
/-- a beginning of a scalar's bytes waits -/
theorem enc_wait {s : Int} (hs : scB s = true) {k : Nat} (h1 : 0 < k) (hk : k < (encL s).length) (p : Int) : KN p ((encL s).take k) = [] ∧ HD ((encL s).take k) = (encL s).take k := by
  have ho := one_enc s hs []
  have hsz := encL_sz s hs
  rw [List.append_nil] at ho
  obtain ⟨z, zs, hz⟩ : ∃ z zs, (encL s).take k = z :: zs := by
    cases h : (encL s).take k with
    | nil => have := congrArg List.length h; rw [List.length_take, Nat.min_eq_left (Nat.le_of_lt hk), List.length_nil] at this; omega
    | cons z zs => exact ⟨z, zs, rfl⟩
  have hlen : zs.length + 1 = k := by have := congrArg List.length hz; rw [List.length_take, Nat.min_eq_left (Nat.le_of_lt hk), List.length_cons] at this; omega
  have he : (oneF (z :: zs)).2.2 = 2 := by
    by_cases h : (oneF (z :: zs)).2.2 = 2
    · exact h
    exfalso
    have hx := oneF_ext z zs ((encL s).drop k) h
    rw [← List.cons_append, ← hz, List.take_append_drop, ho] at hx
    have hn := oneF_n z zs
    rw [← hz] at hn
    rw [← hx] at hn
    simp only at hn
    omega
  rw [hz]
  unfold KN HD
  rw [List.length_cons, knownF_cons, heldF_cons, if_pos he, if_pos he]
  exact ⟨rfl, rfl⟩
/-- all of them are known -/
theorem enc_known {s : Int} (hs : scB s = true) (p : Int) : (KN p (encL s)).length = 1 ∧ HD (encL s) = [] := by
  have ho := one_enc s hs []
  have hsz := encL_sz s hs
  have hp := encL_pos s
  rw [List.append_nil] at ho
  obtain ⟨z, zs, hz⟩ : ∃ z zs, encL s = z :: zs := by
    cases h : encL s with
    | nil => rw [h] at hp; cases hp
    | cons z zs => exact ⟨z, zs, rfl⟩
  rw [hz] at ho hsz ⊢
  unfold KN HD
  have h02 : ¬ (s, szI s, (0 : Int)).2.2 = 2 := by show ¬ (0 : Int) = 2; decide
  rw [List.length_cons, knownF_cons, heldF_cons, ho, if_neg h02, if_neg h02]
  simp only
  rw [show (z :: zs).drop (szI s).toNat = [] from List.drop_of_length_le (by omega), knownF_nil, heldF_nil]
  exact ⟨rfl, rfl⟩

def sumS (ts : List Tok) : Int := ts.foldr (fun t a => t.size + a) 0
theorem sumS_cons (t : Tok) (ts : List Tok) : sumS (t :: ts) = t.size + sumS ts := rfl
theorem sumS_known : ∀ (f : Nat) (p : Int) (zs : List Int), zs.length ≤ f → sumS (knownF f p zs) = zs.length - (heldF f zs).length
  | f, p, [], _ => by rw [knownF_nil, heldF_nil]; rfl
  | 0, p, z :: zs, h => by simp at h
  | f + 1, p, z :: zs, h => by
    have hn := oneF_n z zs
    rw [knownF_cons, heldF_cons]
    by_cases he : (oneF (z :: zs)).2.2 = 2
    · rw [if_pos he, if_pos he]; show (0 : Int) = _; omega
    · simp only [List.length_cons] at h
      rw [if_neg he, if_neg he, sumS_cons, sumS_known f _ _ (by simp only [List.length_drop, List.length_cons]; omega)]
      simp only [List.length_drop, List.length_cons]
      omega
theorem sumS_KN (p : Int) (zs : List Int) : sumS (KN p zs) = zs.length - (HD zs).length := sumS_known _ _ _ (Nat.le_refl _)
theorem knownF_size : ∀ (f : Nat) (p : Int) (zs : List Int), ∀ t ∈ knownF f p zs, 1 ≤ t.size
  | 0, p, zs, t, h => by simp [knownF] at h
  | f + 1, p, [], t, h => by simp [knownF] at h
  | f + 1, p, z :: zs, t, h => by
    have hn := oneF_n z zs
    rw [knownF_cons] at h
    by_cases he : (oneF (z :: zs)).2.2 = 2
    · rw [if_pos he] at h; cases h
    · rw [if_neg he] at h
      rcases List.mem_cons.1 h with rfl | h
      · exact hn.1
      · exact knownF_size f _ _ t h
theorem heldF_suffix : ∀ (f : Nat) (zs : List Int), heldF f zs = [] ∨ ∃ k, heldF f zs = zs.drop k ∧ (oneF (heldF f zs)).2.2 = 2 ∧ k < zs.length
  | 0, zs => .inl rfl
  | f + 1, [] => .inl rfl
  | f + 1, z :: zs => by
    have hn := oneF_n z zs
    rw [heldF_cons]
    by_cases he : (oneF (z :: zs)).2.2 = 2
    · rw [if_pos he]; exact .inr ⟨0, rfl, he, by simp⟩
    · rw [if_neg he]
      rcases heldF_suffix f ((z :: zs).drop (oneF (z :: zs)).2.1.toNat) with h | ⟨k, h1, h2, h3⟩
      · exact .inl h
      · refine .inr ⟨(oneF (z :: zs)).2.1.toNat + k, ?_, h2, ?_⟩
        · rw [h1, List.drop_drop]
        · simp only [List.length_drop, List.length_cons] at h3 ⊢; omega
theorem HD_suffix (zs : List Int) : zs.drop (zs.length - (HD zs).length) = HD zs ∧ (HD zs ≠ [] → (oneF (HD zs)).2.2 = 2) := by
  rcases heldF_suffix zs.length zs with h | ⟨k, h1, h2, h3⟩
  · have h' : HD zs = [] := h
    rw [h']
    exact ⟨by simp, fun h => absurd rfl h⟩
  · have h' : HD zs = zs.drop k := h1
    refine ⟨?_, fun _ => h2⟩
    rw [h', List.length_drop]
    congr 1
    omega
end Go.Proofs.Ytbigbkplhlmbmaa
