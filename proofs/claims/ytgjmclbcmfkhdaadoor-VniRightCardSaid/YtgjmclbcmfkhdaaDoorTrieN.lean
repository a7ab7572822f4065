/- Layer 4, plainly: the longest rule. No program is named here. -/
import Derived.Test.YtgjmclbcmfkhdaaDoorTrieM
namespace Go.Proofs.YtgjmclbcmfkhdaaDoor
/-- does rule r's In stand ahead, longer than n? -/
def hitL (r : List Int × List Int) (us : List Int) (n : Int) : Bool := decide (r.1.length ≤ us.length ∧ us.take r.1.length = r.1 ∧ n < r.1.length)
/-- are the units a beginning of r's In, and not all of it? -/
def openL (r : List Int × List Int) (us : List Int) : Bool := decide (us.length < r.1.length ∧ r.1.take us.length = us)
def longLFrom (i k n : Int) (o : Bool) (us : List Int) : List (List Int × List Int) → Int × Int × Bool
  | [] => (k, n, o)
  | r :: rs => longLFrom (i + 1) (if hitL r us n = true then i else k) (if hitL r us n = true then (r.1.length : Int) else n) (o || openL r us) us rs
def longL (rs : List (List Int × List Int)) (us : List Int) : Int × Int × Bool := longLFrom 0 (-1) 0 false us rs
/-- what the longest rule is -/
structure LongIs (rs : List (List Int × List Int)) (us : List Int) (k n : Int) (o : Bool) : Prop where
  op : o = true ↔ ∃ r ∈ rs, us.length < r.1.length ∧ r.1.take us.length = us
  max : ∀ r ∈ rs, r.1.length ≤ us.length → us.take r.1.length = r.1 → (r.1.length : Int) ≤ n
  res : (k = -1 ∧ n = 0) ∨ ∃ m : Nat, n = m ∧ 1 ≤ m ∧ m ≤ us.length ∧ k = findR rs (us.take m) ∧ ∃ r ∈ rs, r.1 = us.take m
theorem LongIs.one {rs : List (List Int × List Int)} {us : List Int} {k n k' n' : Int} {o o' : Bool} (h : LongIs rs us k n o) (h' : LongIs rs us k' n' o') : k = k' ∧ n = n' ∧ o = o' := by
  have ho : o = o' := by
    cases o with
    | true => exact (h'.op.2 (h.op.1 rfl)).symm
    | false =>
      cases o' with
      | false => rfl
      | true => exact h.op.2 (h'.op.1 rfl)
  have key : ∀ {k n k' n' : Int} {o o' : Bool}, LongIs rs us k n o → LongIs rs us k' n' o' → n' ≤ n := by
    intro k n k' n' o o' h h'
    rcases h'.res with ⟨_, e⟩ | ⟨m, e, h1, h2, _, r, hr, h3⟩
    · rcases h.res with ⟨_, e2⟩ | ⟨m, e2, _⟩
      · omega
      · omega
    · have := h.max r hr (by rw [h3]; simp; omega) (by rw [h3]; simp)
      rw [h3, List.length_take, Nat.min_eq_left h2] at this
      omega
  have hn : n = n' := by have := key h h'; have := key h' h; omega
  subst hn
  refine ⟨?_, rfl, ho⟩
  rcases h.res with ⟨e1, e2⟩ | ⟨m, e1, e2, e3, e4, _⟩
  · rcases h'.res with ⟨f1, f2⟩ | ⟨m', f1, f2, _⟩
    · omega
    · omega
  · rcases h'.res with ⟨f1, f2⟩ | ⟨m', f1, f2, f3, f4, _⟩
    · omega
    · have : m = m' := by omega
      subst this
      rw [e4, f4]
theorem take_same {us : List Int} {m m' : Nat} (h : us.take m = us.take m') (h1 : m ≤ us.length) (h2 : m' ≤ us.length) : m = m' := by
  have := congrArg List.length h
  simp at this; omega
theorem longL_ls (us : List Int) : ∀ (rs done : List (List Int × List Int)) (k n : Int) (o : Bool), (∀ r ∈ rs, 1 ≤ r.1.length) → LongIs done us k n o → 0 ≤ n →
    ∃ k' n' o', longLFrom done.length k n o us rs = (k', n', o') ∧ LongIs (done ++ rs) us k' n' o'
  | [], done, k, n, o, _, h, _ => ⟨k, n, o, rfl, by simpa using h⟩
  | r :: rs, done, k, n, o, hs, h, hn => by
    simp only [longLFrom]
    have hr1 := hs r (by simp)
    have hop : ((o || openL r us) = true ↔ ∃ s ∈ done ++ [r], us.length < s.1.length ∧ s.1.take us.length = us) := by
      rw [Bool.or_eq_true, h.op]
      unfold openL
      rw [decide_eq_true_eq]
      constructor
      · rintro (⟨s, hs, h1⟩ | h1)
        · exact ⟨s, by simp [hs], h1⟩
        · exact ⟨r, by simp, h1⟩
      · rintro ⟨s, hs, h1⟩
        rcases List.mem_append.1 hs with hs | hs
        · exact .inl ⟨s, hs, h1⟩
        · obtain rfl : s = r := by simpa using hs
          exact .inr h1
    have hst : LongIs (done ++ [r]) us (if hitL r us n = true then (done.length : Int) else k) (if hitL r us n = true then (r.1.length : Int) else n) (o || openL r us) := by
      by_cases hh : hitL r us n = true
      · rw [if_pos hh, if_pos hh]
        have hh' := hh
        simp only [hitL, decide_eq_true_eq] at hh'
        obtain ⟨h1, h2, h3⟩ := hh'
        refine ⟨hop, ?_, .inr ⟨r.1.length, rfl, hr1, h1, ?_, r, by simp, h2.symm⟩⟩
        · intro s hs h4 h5
          rcases List.mem_append.1 hs with hs | hs
          · have := h.max s hs h4 h5; omega
          · obtain rfl : s = r := by simpa using hs
            omega
        · rw [h2, find_app]
          have : findR done r.1 < 0 := findR_neg.2 fun s hs e => by
            have := h.max s hs (by rw [e]; exact h1) (by rw [e]; exact h2)
            rw [e] at this; omega
          rw [if_neg (by omega), if_pos rfl]
      · rw [if_neg hh, if_neg hh]
        refine ⟨hop, ?_, ?_⟩
        · intro s hs h4 h5
          rcases List.mem_append.1 hs with hs | hs
          · exact h.max s hs h4 h5
          · obtain rfl : s = r := by simpa using hs
            have : ¬ (s.1.length ≤ us.length ∧ us.take s.1.length = s.1 ∧ n < s.1.length) := by simpa [hitL] using hh
            rcases Int.lt_or_le n s.1.length with h6 | h6
            · exact absurd ⟨h4, h5, h6⟩ this
            · exact h6
        · rcases h.res with e | ⟨m, e1, e2, e3, e4, s, hs, e5⟩
          · exact .inl e
          · refine .inr ⟨m, e1, e2, e3, ?_, s, by simp [hs], e5⟩
            rw [find_app, if_pos (by rw [← e5]; exact findR_yes hs)]
            exact e4
    obtain ⟨k', n', o', h1, h2⟩ := longL_ls us rs (done ++ [r]) _ _ _ (fun s hs' => hs s (by simp [hs'])) hst (by split <;> omega)
    refine ⟨k', n', o', ?_, by simpa using h2⟩
    rw [List.length_append] at h1
    simpa using h1
theorem longL_is {rs : List (List Int × List Int)} {us : List Int} (hs : ∀ r ∈ rs, 1 ≤ r.1.length) {k n : Int} {o : Bool} (h : LongIs rs us k n o) : longL rs us = (k, n, o) := by
  obtain ⟨k', n', o', h1, h2⟩ := longL_ls us rs [] (-1) 0 false hs ⟨by simp, by simp, .inl ⟨rfl, rfl⟩⟩ (by omega)
  have h2' : LongIs rs us k' n' o' := by simpa using h2
  obtain ⟨rfl, rfl, rfl⟩ := h.one h2'
  exact h1

/-- the longest rule among the first J units -/
structure BestP (f : List Int → Int) (us : List Int) (J : Nat) (k n : Int) : Prop where
  max : ∀ j : Nat, 1 ≤ j → j ≤ J → f (us.take j) ≠ -1 → (j : Int) ≤ n
  res : (k = -1 ∧ n = 0) ∨ ∃ m : Nat, n = m ∧ 1 ≤ m ∧ m ≤ J ∧ k = f (us.take m) ∧ f (us.take m) ≠ -1
theorem BestP.start (f : List Int → Int) (us : List Int) : BestP f us 0 (-1) 0 := ⟨fun j h1 h2 => by omega, .inl ⟨rfl, rfl⟩⟩
theorem BestP.stay {f : List Int → Int} {us : List Int} {J : Nat} {k n : Int} (h : BestP f us J k n) (hf : f (us.take (J + 1)) = -1) : BestP f us (J + 1) k n := by
  refine ⟨fun j h1 h2 h3 => ?_, ?_⟩
  · by_cases hj : j = J + 1
    · subst hj; exact absurd hf h3
    · exact h.max j h1 (by omega) h3
  · rcases h.res with e | ⟨m, e1, e2, e3, e4⟩
    · exact .inl e
    · exact .inr ⟨m, e1, e2, by omega, e4⟩
theorem BestP.move {f : List Int → Int} {us : List Int} {J : Nat} {k n : Int} (_h : BestP f us J k n) (hf : f (us.take (J + 1)) ≠ -1) : BestP f us (J + 1) (f (us.take (J + 1))) ((J : Int) + 1) :=
  ⟨fun j h1 h2 h3 => by omega, .inr ⟨J + 1, by omega, by omega, by omega, rfl, hf⟩⟩
theorem find_pos {rs : List (List Int × List Int)} {x : List Int} (h : findR rs x ≠ -1) : ∃ r ∈ rs, r.1 = x := by
  unfold findR at h
  rcases findFrom_eq rs x 0 with ⟨h1, _⟩ | ⟨_, _, h3⟩
  · exact absurd h1 h
  · exact h3
theorem BestP.ls {rs : List (List Int × List Int)} {us : List Int} {J : Nat} {k n : Int} {o : Bool} (hs : ∀ r ∈ rs, 1 ≤ r.1.length) (hJ : J ≤ us.length) (h : BestP (findR rs) us J k n) (hop : o = true ↔ ∃ r ∈ rs, us.length < r.1.length ∧ r.1.take us.length = us)
    (hmore : ∀ r ∈ rs, r.1.length ≤ us.length → us.take r.1.length = r.1 → r.1.length ≤ J) : LongIs rs us k n o := by
  refine ⟨hop, ?_, ?_⟩
  · intro r hr h1 h2
    refine h.max r.1.length (hs r hr) (hmore r hr h1 h2) ?_
    rw [h2]
    have := findR_yes hr
    omega
  · rcases h.res with e | ⟨m, e1, e2, e3, e4, e5⟩
    · exact .inl e
    · exact .inr ⟨m, e1, e2, by omega, e4, find_pos e5⟩
theorem take_path {rs : List (List Int × List Int)} {r : List Int × List Int} (hr : r ∈ rs) {j : Nat} (h1 : 1 ≤ j) (h2 : j ≤ r.1.length) : r.1.take j ∈ pathsR rs := mem_paths.2 (.inr ⟨r, hr, j, h1, h2, rfl⟩)
/-- no more units lead on -/
theorem BestP.stop {rs : List (List Int × List Int)} {us : List Int} {J : Nat} {k n : Int} (hs : ∀ r ∈ rs, 1 ≤ r.1.length) (hJ : J < us.length) (h : BestP (findR rs) us J k n) (hno : us.take (J + 1) ∉ pathsR rs) : longL rs us = (k, n, false) := by
  refine longL_is hs (h.ls hs (by omega) ?_ ?_)
  · constructor
    · intro e; cases e
    · rintro ⟨r, hr, h1, h2⟩
      refine absurd ?_ hno
      rw [← h2, List.take_take, Nat.min_eq_left (by omega)]
      exact take_path hr (by omega) (by omega)
  · intro r hr h1 h2
    rcases Nat.lt_or_ge J r.1.length with h3 | h3
    · refine absurd ?_ hno
      have : us.take (J + 1) = r.1.take (J + 1) := by rw [← h2, List.take_take, Nat.min_eq_left (by omega)]
      rw [this]
      exact take_path hr (by omega) (by omega)
    · exact h3
theorem open_kid {rs : List (List Int × List Int)} {us : List Int} : (∃ r ∈ rs, us.length < r.1.length ∧ r.1.take us.length = us) ↔ ∃ u, us ++ [u] ∈ pathsR rs := by
  constructor
  · rintro ⟨r, hr, h1, h2⟩
    refine ⟨r.1[us.length], ?_⟩
    have : us ++ [r.1[us.length]] = r.1.take (us.length + 1) := by
      rw [List.take_succ_eq_append_getElem h1, h2]
    rw [this]
    exact take_path hr (by omega) (by omega)
  · rintro ⟨u, hu⟩
    rcases mem_paths.1 hu with h | ⟨r, hr, j, h1, h2, h3⟩
    · simp at h
    · have hl := congrArg List.length h3
      simp at hl
      have hj : j = us.length + 1 := by omega
      subst hj
      refine ⟨r, hr, by omega, ?_⟩
      have := congrArg (List.take us.length) h3
      rw [List.take_take, Nat.min_eq_left (by omega)] at this
      simpa using this.symm
theorem BestP.all {rs : List (List Int × List Int)} {us : List Int} {k n : Int} {o : Bool} (hs : ∀ r ∈ rs, 1 ≤ r.1.length) (h : BestP (findR rs) us us.length k n) (ho : o = true ↔ ∃ u, us ++ [u] ∈ pathsR rs) : longL rs us = (k, n, o) :=
  longL_is hs (h.ls hs (Nat.le_refl _) (ho.trans open_kid.symm) (fun _ _ h1 _ => h1))
end Go.Proofs.YtgjmclbcmfkhdaaDoor
