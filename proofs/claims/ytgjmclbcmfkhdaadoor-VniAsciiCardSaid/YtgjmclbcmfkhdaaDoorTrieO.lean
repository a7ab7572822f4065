/- Layer 4, plainly: what is told of a rule's own units. No program is named here. -/
import Derived.Test.YtgjmclbcmfkhdaaDoorTrieN
namespace Go.Proofs.YtgjmclbcmfkhdaaDoor
theorem find_take : ∀ (rs : List (List Int × List Int)) (K : Nat) (x : List Int) (k : Int), 0 ≤ k → 0 ≤ findFrom k (rs.take K) x → findFrom k rs x = findFrom k (rs.take K) x
  | [], K, x, k, _, h => by simp
  | r :: rs, 0, x, k, hk, h => by simp [findFrom] at h
  | r :: rs, K + 1, x, k, hk, h => by
    simp only [List.take_succ_cons, findFrom] at h ⊢
    by_cases e : r.1 = x
    · simp only [if_pos e]
    · simp only [if_neg e] at h ⊢
      exact find_take rs K x (k + 1) (by omega) h
theorem Good.self {rs : List (List Int × List Int)} (h : Good rs) {K : Nat} (hK : K < rs.length) : findR rs rs[K].1 = K := by
  have h1 := congrFun (put_find hK (h.first hK)) rs[K].1
  simp only [if_true] at h1
  have := find_take rs (K + 1) rs[K].1 0 (by omega) (by show 0 ≤ findR _ _; rw [← h1]; omega)
  show findFrom 0 rs _ = _
  rw [this]; exact h1.symm
theorem Good.long {rs : List (List Int × List Int)} (h : Good rs) (us : List Int) : ∃ k n o, longL rs us = (k, n, o) ∧ LongIs rs us k n o := by
  obtain ⟨k, n, o, h1, h2⟩ := longL_ls us rs [] (-1) 0 false (fun r hr => (h.side r hr).1) ⟨by simp, by simp, .inl ⟨rfl, rfl⟩⟩ (by omega)
  exact ⟨k, n, o, h1, by simpa using h2⟩
theorem Good.own {rs : List (List Int × List Int)} (h : Good rs) {K : Nat} (hK : K < rs.length) : ∃ o, longL rs rs[K].1 = ((K : Int), (rs[K].1.length : Int), o) := by
  obtain ⟨k, n, o, h1, h2⟩ := h.long rs[K].1
  have hm := List.getElem_mem hK
  have h3 := h2.max _ hm (Nat.le_refl _) (List.take_length)
  have h4 := (h.side _ hm).1
  rcases h2.res with ⟨_, e⟩ | ⟨m, e1, e2, e3, e4, _⟩
  · omega
  · have e : m = rs[K].1.length := by omega
    rw [e, List.take_length, h.self hK] at e4
    exact ⟨o, by rw [h1, e4, e1, e]⟩
theorem Good.none {rs : List (List Int × List Int)} (h : Good rs) : ∃ o, longL rs [] = (-1, 0, o) := by
  obtain ⟨k, n, o, h1, h2⟩ := h.long []
  rcases h2.res with ⟨e1, e2⟩ | ⟨m, _, e2, e3, _⟩
  · exact ⟨o, by rw [h1, e1, e2]⟩
  · simp at e3; omega
theorem right_rules (rows : List RowL) : checkR (rightR (rulesR rows)) = (-1, 0) ∧ (rightR (rulesR rows)).length ≤ 40 := ⟨(right_good _ (rulesR_len rows)).2.1, (right_good _ (rulesR_len rows)).1⟩
theorem paths_le {rs : List (List Int × List Int)} (h : Good rs) : (pathsR rs).length ≤ 5000 := by
  have := paths_small (rs := rs) (K := rs.length) (Nat.le_refl _) (fun r hr => (h.side r hr).2.1)
  rw [List.take_length] at this
  have := h.many
  omega
end Go.Proofs.YtgjmclbcmfkhdaaDoor
