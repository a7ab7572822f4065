/- Layer 6, plainly: what a Match has behind K units. No program is named here. -/
import Derived.Test.YtmjcnopkckkaoaaMatchP
namespace Go.Proofs.Ytmjcnopkckkaoaa
/-- behind K units of us: q waits, st looks were done -/
structure MS (rs : List (List Int × List Int)) (us : List Int) (K : Nat) (q : List Int) (st : Int) : Prop where
  tail : ∃ pre, us.take K = pre ++ q
  open_ : q = [] ∨ opens rs q = true
  steps : 0 ≤ st ∧ st + 8 * q.length ≤ 16 * K
theorem MS.start (rs : List (List Int × List Int)) (us : List Int) : MS rs us 0 [] 0 := ⟨⟨[], by simp⟩, .inl rfl, by simp⟩
theorem MS.len {rs : List (List Int × List Int)} {us q : List Int} {K : Nat} {st : Int} (h : MS rs us K q st) : q.length ≤ K := by
  obtain ⟨pre, e⟩ := h.tail
  have := congrArg List.length e
  rw [List.length_append, List.length_take] at this
  omega
theorem MS.step {rs : List (List Int × List Int)} (hg : Good rs) {us q rest : List Int} {K k : Nat} {st at_ : Int} {ts : List Tk} (h : MS rs us K q st) (hK : K < us.length) (hd : drain rs at_ (q ++ [us.getD K 0]) = (ts, rest, k)) :
    MS rs us (K + 1) rest (st + k) ∧ ts.length ≤ 8 ∧ rest.length ≤ 7 := by
  have hd' := hg.drained (q ++ [us.getD K 0]) at_
  rw [hd] at hd'
  obtain ⟨⟨pre, e⟩, _, ho, hc, hl⟩ := hd'
  simp only at e ho hc hl
  have hq := opens_lt hg h.open_
  have hlk := hl 8 (by simp; omega)
  rw [List.length_append, List.length_singleton] at hc
  refine ⟨⟨?_, ho, ?_⟩, by omega, opens_lt hg ho⟩
  · obtain ⟨p0, e0⟩ := h.tail
    refine ⟨p0 ++ pre, ?_⟩
    rw [List.take_succ_eq_append_getElem hK, e0, List.append_assoc, List.append_assoc, ← e, List.getD_eq_getElem?_getD, List.getElem?_eq_getElem hK]
    rfl
  · obtain ⟨s1, s2⟩ := h.steps
    omega
/-- what waits are the last units -/
theorem MS.last {rs : List (List Int × List Int)} {us q : List Int} {K : Nat} {st : Int} (h : MS rs us K q st) : (us.take K).drop (K - q.length) = q ∨ us.length < K := by
  rcases Nat.lt_or_ge us.length K with h1 | h1
  · exact .inr h1
  · left
    obtain ⟨pre, e⟩ := h.tail
    have := congrArg List.length e
    rw [List.length_append, List.length_take, Nat.min_eq_left h1] at this
    rw [e, show K - q.length = pre.length from by omega, List.drop_left]
theorem held_lt {rs : List (List Int × List Int)} (hg : Good rs) {q : List Int} (h : q = [] ∨ opens rs q = true) {v m : Int} (hv : longR rs = v) (hm : (if 1 < v then v else 1) = m) : (q.length : Int) < m := by
  have hge := longFrom_ge rs 0
  have hv' : longFrom 0 rs = v := hv
  rw [hv'] at hge
  rcases h with rfl | h
  · rw [← hm]; simp; split <;> omega
  · obtain ⟨r, hr, h1, _⟩ := hg.open_lt h
    have := hge.2.1 r hr
    rw [← hm]; split <;> omega
end Go.Proofs.Ytmjcnopkckkaoaa
