/- Layer 1, plain: the law's own One, by the shortest beginning that is a scalar's bytes, is One. -/
import Derived.Test.YtbigbkplhlmbmaaBegM
namespace Go.Proofs.Ytbigbkplhlmbmaa
set_option linter.unusedVariables false
open Go.RowKit

def valF (zs : List Int) : Nat → Int
  | 1 => zs.getD 0 0
  | 2 => zs.getD 0 0 % 32 * 64 + zs.getD 1 0 % 64
  | 3 => zs.getD 0 0 % 16 * 4096 + zs.getD 1 0 % 64 * 64 + zs.getD 2 0 % 64
  | _ => zs.getD 0 0 % 8 * 262144 + zs.getD 1 0 % 64 * 4096 + zs.getD 2 0 % 64 * 64 + zs.getD 3 0 % 64
theorem val_enc (s : Int) (h : scB s = true) (r : List Int) : valF (encL s ++ r) (encL s).length = s := by
  have hs := scB_t.1 h
  unfold encL
  by_cases h1 : s < 128
  · rw [if_pos h1]; rfl
  rw [if_neg h1]
  by_cases h2 : s < 2048
  · rw [if_pos h2]; show (192 + s / 64) % 32 * 64 + (128 + s % 64) % 64 = s; omega
  rw [if_neg h2]
  by_cases h3 : s < 65536
  · rw [if_pos h3]; show (224 + s / 4096) % 16 * 4096 + (128 + s / 64 % 64) % 64 * 64 + (128 + s % 64) % 64 = s; omega
  · rw [if_neg h3]; show (240 + s / 262144) % 8 * 262144 + (128 + s / 4096 % 64) % 64 * 4096 + (128 + s / 64 % 64) % 64 * 64 + (128 + s % 64) % 64 = s; omega
theorem szI_of_len (s : Int) (h : scB s = true) (n : Nat) (hn : (encL s).length = n) : szI s = n := by rw [← encL_sz s h, hn]
theorem one_of_val {zs : List Int} {n : Nat} (h : scB (valF zs n) = true) (he : encL (valF zs n) = zs.take n) (hn : n ≤ zs.length) : oneF zs = (valF zs n, (n : Int), 0) := by
  have h1 := one_enc (valF zs n) h (zs.drop n)
  rw [he, List.take_append_drop] at h1
  rw [h1, szI_of_len _ h n (by rw [he, List.length_take, Nat.min_eq_left hn])]
theorem val_of_one {zs : List Int} {s n : Int} (hw : ∀ z ∈ zs, 0 ≤ z ∧ z ≤ 255) (h : oneF zs = (s, n, 0)) : ∃ k : Nat, n = k ∧ 1 ≤ k ∧ k ≤ 4 ∧ k ≤ zs.length ∧ s = valF zs k ∧ scB s = true ∧ encL s = zs.take k := by
  obtain ⟨h1, h2, h3, h4⟩ := one_sound zs s n hw h
  have hl : (encL s).length = n.toNat := by rw [← h2, List.length_take]; omega
  refine ⟨n.toNat, by omega, by omega, by have := encL_len s; omega, by omega, ?_, h1, h2.symm⟩
  have hv := val_enc s h1 (zs.drop n.toNat)
  rw [hl, ← h2, List.take_append_drop] at hv
  exact hv.symm
theorem contF_zero : ∀ (need : Nat) (r : List Int) (k s lo hi : Int), (contF need r k s lo hi).2.2 ≠ 0 → (contF need r k s lo hi).1 = 0
  | 0, r, k, s, lo, hi, h => absurd rfl h
  | n + 1, [], k, s, lo, hi, h => rfl
  | n + 1, c :: r, k, s, lo, hi, h => by
    by_cases hb : lo ≤ c ∧ c ≤ hi
    · rw [cont_yes hb] at h ⊢; exact contF_zero n r _ _ _ _ h
    · rw [cont_no hb]
theorem contF_err : ∀ (need : Nat) (r : List Int) (k s lo hi : Int), (contF need r k s lo hi).2.2 = 1 → ∃ j : Nat, (contF need r k s lo hi).2.1 = k + j ∧ j < r.length ∧ (contF need (r.take (j + 1)) k s lo hi).2.2 = 1
  | 0, r, k, s, lo, hi, h => by cases h
  | n + 1, [], k, s, lo, hi, h => by cases h
  | n + 1, c :: r, k, s, lo, hi, h => by
    by_cases hb : lo ≤ c ∧ c ≤ hi
    · rw [cont_yes hb] at h ⊢
      obtain ⟨j, h1, h2, h3⟩ := contF_err n r _ _ _ _ h
      exact ⟨j + 1, by rw [h1]; omega, by simp only [List.length_cons]; omega, by rw [List.take_succ_cons, cont_yes hb]; exact h3⟩
    · exact ⟨0, by rw [cont_no hb]; simp, by simp, by rw [List.take_succ_cons, cont_no hb]⟩
theorem oneF_eq (z : Int) (y : List Int) : oneF (z :: y) = if (leadF z).1 = 0 then (0, 1, 1) else if (leadF z).1 = 1 then (z, 1, 0) else contF ((leadF z).1.toNat - 1) y 1 (z % (if (leadF z).1 = 2 then 32 else if (leadF z).1 = 3 then 16 else 8)) (leadF z).2.1 (leadF z).2.2 := rfl
theorem oneF_zero (z : Int) (y : List Int) (h : (oneF (z :: y)).2.2 ≠ 0) : (oneF (z :: y)).1 = 0 := by
  rw [oneF_eq] at h ⊢
  by_cases h0 : (leadF z).1 = 0
  · rw [if_pos h0]
  rw [if_neg h0] at h ⊢
  by_cases h1 : (leadF z).1 = 1
  · rw [if_pos h1] at h; exact absurd rfl h
  rw [if_neg h1] at h ⊢
  exact contF_zero _ _ _ _ _ _ h
/-- where the law's own way stops, One stops -/
theorem one_stop (zs : List Int) (n : Nat) (hn : n < zs.length) (hs : ∀ j, 1 ≤ j → j ≤ n → (oneF (zs.take j)).2.2 = 2) (hx : (oneF (zs.take (n + 1))).2.2 ≠ 2) (h0 : (oneF zs).2.2 ≠ 0) : oneF zs = (0, ((max n 1 : Nat) : Int), 1) := by
  cases zs with
  | nil => simp at hn
  | cons z ys =>
    rw [List.take_succ_cons] at hx
    have hext := oneF_ext z (ys.take n) (ys.drop n) hx
    rw [List.take_append_drop] at hext
    rw [hext] at h0 ⊢
    have hr := oneF_range z (ys.take n)
    have he : (oneF (z :: ys.take n)).2.2 = 1 := by omega
    have hz := oneF_zero z (ys.take n) h0
    have hk : (oneF (z :: ys.take n)).2.1 = ((max n 1 : Nat) : Int) := by
      have he' := he
      rw [oneF_eq] at he' ⊢
      by_cases l0 : (leadF z).1 = 0
      · rw [if_pos l0]
        have : n = 0 := by
          rcases Nat.eq_zero_or_pos n with h | h
          · exact h
          · have h1 := hs 1 (by omega) h
            rw [List.take_succ_cons, List.take_zero, oneF_eq, if_pos l0] at h1
            cases h1
        subst this
        rfl
      rw [if_neg l0] at he' ⊢
      by_cases l1 : (leadF z).1 = 1
      · rw [if_pos l1] at he'; cases he'
      rw [if_neg l1] at he' ⊢
      obtain ⟨j, h1, h2, h3⟩ := contF_err _ _ _ _ _ _ he'
      rw [h1]
      rw [List.length_take] at h2
      have hj : ¬ j + 2 ≤ n := by
        intro hj
        have h4 := hs (j + 2) (by omega) hj
        rw [List.take_succ_cons, oneF_eq, if_neg l0, if_neg l1] at h4
        rw [List.take_take, Nat.min_eq_left (by omega)] at h3
        rw [h3] at h4
        cases h4
      have : j + 1 = n := by omega
      omega
    rw [show oneF (z :: ys.take n) = ((oneF (z :: ys.take n)).1, (oneF (z :: ys.take n)).2.1, (oneF (z :: ys.take n)).2.2) from rfl, hz, hk, he]
theorem one_all (zs : List Int) (hn : 0 < zs.length) (hs : (oneF zs).2.2 = 2) : oneF zs = (0, (zs.length : Int), 2) := by
  cases zs with
  | nil => simp at hn
  | cons z ys =>
    have h1 := oneF_short z ys hs
    have h2 := oneF_zero z ys (by rw [hs]; decide)
    rw [show oneF (z :: ys) = ((oneF (z :: ys)).1, (oneF (z :: ys)).2.1, (oneF (z :: ys)).2.2) from rfl, h2, h1, hs, List.length_cons]
    simp
end Go.Proofs.Ytbigbkplhlmbmaa
