/- Layer 8, plainly: the first wrong place of two parts; what a Checker knows. -/
import Derived.Test.YtgeecngpmcjdpaaDoorWttM
namespace Go.Proofs.YtgeecngpmcjdpaaDoor
set_option linter.unusedVariables false
open Go.RowKit

theorem getD_app_l {xs ys : List Int} {j : Nat} (h : j < xs.length) : (xs ++ ys).getD j 0 = xs.getD j 0 := by
  simp [List.getD_eq_getElem?_getD, List.getElem?_append_left h]
theorem getD_app_r {xs ys : List Int} {j : Nat} : (xs ++ ys).getD (xs.length + j) 0 = ys.getD j 0 := by
  simp [List.getD_eq_getElem?_getD, List.getElem?_append_right (Nat.le_add_right _ _)]
theorem okAt_l {xs ys : List Int} {l : Int} {j : Nat} (h : j < xs.length) : okAt (xs ++ ys) l j = okAt xs l j := by
  unfold okAt; rw [getD_app_l h, getD_app_l (by omega)]
theorem okAt_r {xs ys : List Int} {l : Int} {j : Nat} (h : 1 ≤ j) : okAt (xs ++ ys) l (xs.length + j) = okAt ys l j := by
  unfold okAt; rw [getD_app_r, show xs.length + j - 1 = xs.length + (j - 1) by omega, getD_app_r]
theorem chk_app_bad {xs : List Int} (ys : List Int) {l : Int} (h : 0 ≤ chkF xs l) : chkF (xs ++ ys) l = chkF xs l := by
  rcases chk_cases xs l with ⟨e, _⟩ | ⟨k, e, h1, h2, h3, h4⟩
  · omega
  · rw [e]
    exact chk_some (fun j j1 j2 => by rw [okAt_l (by omega)]; exact h4 j j1 j2) h1 (by simp; omega) (by rw [okAt_l h2]; exact h3)
/-- the last byte of the first part, and the first one of the second -/
def joinF (xs ys : List Int) (l : Int) : Bool := xs.isEmpty || ys.isEmpty || mayF (xs.getD (xs.length - 1) 0) (ys.getD 0 0) l
theorem chk_app_good {xs ys : List Int} {l : Int} (h1 : chkF xs l = -1) (h2 : chkF ys l = -1) (hj : joinF xs ys l = true) : chkF (xs ++ ys) l = -1 := by
  refine chk_none fun j j1 j2 => ?_
  rw [List.length_append] at j2
  rcases Nat.lt_or_ge j xs.length with h | h
  · rw [okAt_l h]
    rcases chk_cases xs l with ⟨_, a⟩ | ⟨k, e, _⟩
    · exact a j j1 h
    · omega
  obtain ⟨i, rfl⟩ : ∃ i, j = xs.length + i := ⟨j - xs.length, by omega⟩
  rcases Nat.eq_zero_or_pos i with h0 | h0
  · subst h0
    have hx : xs ≠ [] := by intro e; rw [e] at j1; simp at j1
    have hy : ys ≠ [] := by intro e; rw [e] at j2; simp at j2
    unfold joinF at hj
    unfold okAt
    rw [getD_app_r, getD_app_l (by omega)]
    simpa [hx, hy] using hj
  · rw [okAt_r h0]
    rcases chk_cases ys l with ⟨_, a⟩ | ⟨k, e, _⟩
    · exact a i h0 (by omega)
    · omega
theorem chk_app_neg {xs ys : List Int} {l : Int} (h : chkF (xs ++ ys) l < 0) : chkF xs l < 0 ∧ chkF ys l < 0 ∧ joinF xs ys l = true := by
  have ha : ∀ j, 1 ≤ j → j < xs.length + ys.length → okAt (xs ++ ys) l j = true := by
    rcases chk_cases (xs ++ ys) l with ⟨_, a⟩ | ⟨k, e, _⟩
    · rw [List.length_append] at a; exact a
    · omega
  refine ⟨?_, ?_, ?_⟩
  · rw [chk_none fun j j1 j2 => by rw [← okAt_l (ys := ys) j2]; exact ha j j1 (by omega)]; decide
  · rw [chk_none fun j j1 j2 => by rw [← okAt_r (xs := xs) j1]; exact ha _ (by omega) (by omega)]; decide
  · unfold joinF
    by_cases hx : xs = []
    · simp [hx]
    by_cases hy : ys = []
    · simp [hy]
    have lx : 0 < xs.length := List.length_pos_iff.2 hx
    have ly : 0 < ys.length := List.length_pos_iff.2 hy
    have := ha xs.length (by omega) (by omega)
    unfold okAt at this
    rw [getD_app_l (by omega)] at this
    have e : (xs ++ ys).getD xs.length 0 = ys.getD 0 0 := by have := getD_app_r (xs := xs) (ys := ys) (j := 0); simpa using this
    rw [e] at this
    simp [hx, hy]
    simpa using this
theorem chk_m1 {xs : List Int} {l : Int} (h : chkF xs l < 0) : chkF xs l = -1 := by have := chk_range xs l; omega
theorem chk_app_iff (xs ys : List Int) (l : Int) : decide (chkF (xs ++ ys) l < 0) = (decide (chkF xs l < 0) && decide (chkF ys l < 0) && joinF xs ys l) := by
  rw [Bool.eq_iff_iff]
  simp only [Bool.and_eq_true, decide_eq_true_eq]
  constructor
  · intro h; have := chk_app_neg h; exact ⟨⟨this.1, this.2.1⟩, this.2.2⟩
  · intro ⟨⟨h1, h2⟩, h3⟩
    rw [chk_app_good (chk_m1 h1) (chk_m1 h2) h3]; decide
theorem chk_one (c l : Int) : chkF [c] l = -1 := chk_none fun j h1 h2 => by simp at h2; omega
theorem chk_snoc_good {xs : List Int} {c l : Int} (h : chkF xs l = -1) (hj : joinF xs [c] l = true) : chkF (xs ++ [c]) l = -1 := chk_app_good h (chk_one c l) hj
theorem chk_snoc_bad {xs : List Int} {c l : Int} (h : chkF xs l = -1) (hj : joinF xs [c] l = false) : chkF (xs ++ [c]) l = xs.length := by
  have hx : 0 < xs.length := by
    rcases Nat.eq_zero_or_pos xs.length with h0 | h0
    · rw [List.eq_nil_of_length_eq_zero h0] at hj; simp [joinF] at hj
    · exact h0
  refine chk_some (fun j j1 j2 => ?_) hx (by simp) ?_
  · rw [okAt_l j2]
    rcases chk_cases xs l with ⟨_, a⟩ | ⟨k, e, _⟩
    · exact a j j1 j2
    · omega
  · unfold okAt
    rw [getD_app_l (by omega)]
    have e : (xs ++ [c]).getD xs.length 0 = c := by simp
    rw [e]
    have hx' : xs ≠ [] := List.length_pos_iff.1 hx
    simpa [joinF, hx'] using hj
theorem chk_snoc (xs : List Int) (c l : Int) : chkF (xs ++ [c]) l = if 0 ≤ chkF xs l then chkF xs l else if joinF xs [c] l = true then -1 else xs.length := by
  by_cases h : 0 ≤ chkF xs l
  · rw [if_pos h]; exact chk_app_bad [c] h
  · rw [if_neg h]
    have h' := chk_m1 (by omega : chkF xs l < 0)
    by_cases hj : joinF xs [c] l = true
    · rw [if_pos hj]; exact chk_snoc_good h' hj
    · rw [if_neg hj]; exact chk_snoc_bad h' (by simpa using hj)
theorem chk_pass (xs : List Int) : chkF xs 0 = -1 := chk_none fun j _ _ => mayF_pass _ _
theorem chk_levels (xs : List Int) {l m : Int} (hl : l ≤ m) (h : chkF xs m = -1) : chkF xs l = -1 := by
  refine chk_none fun j h1 h2 => ?_
  rcases chk_cases xs m with ⟨_, a⟩ | ⟨k, e, _⟩
  · exact mayF_mono (a j h1 h2) hl
  · omega
theorem chk_levels_le (xs : List Int) {l m : Int} (hl : l ≤ m) (h : chkF xs l ≠ -1) : 1 ≤ chkF xs m ∧ chkF xs m ≤ chkF xs l := by
  rcases chk_cases xs l with ⟨e, _⟩ | ⟨k, e, h1, h2, h3, h4⟩
  · exact absurd e h
  rcases chk_cases xs m with ⟨e', a⟩ | ⟨k', e', h1', h2', h3', h4'⟩
  · exact absurd (chk_levels xs hl e') h
  rw [e, e']
  have : ¬ k < k' := fun hk => by
    have := mayF_mono (h4' k h1 hk) hl
    unfold okAt at h3
    rw [this] at h3; cases h3
  omega
end Go.Proofs.YtgeecngpmcjdpaaDoor
