/- Layer 3, plainly: rules as lists. No program is named here. -/
namespace Go.Proofs.YthgomhmalmmhlaaDoor
abbrev RlM := List Int × List Int
def findFrom (k : Int) : List (List Int × List Int) → List Int → Int
  | [], _ => -1
  | r :: rs, u => if r.1 = u then k else findFrom (k + 1) rs u
def findR (rs : List (List Int × List Int)) (u : List Int) : Int := findFrom 0 rs u
theorem findFrom_eq : ∀ (rs : List (List Int × List Int)) (u : List Int) (k : Int), findFrom k rs u = -1 ∧ (∀ r ∈ rs, r.1 ≠ u) ∨ k ≤ findFrom k rs u ∧ findFrom k rs u < k + rs.length ∧ ∃ r ∈ rs, r.1 = u
  | [], u, k => .inl ⟨rfl, by simp⟩
  | r :: rs, u, k => by
    by_cases h : r.1 = u
    · right; simp only [findFrom, if_pos h]; exact ⟨by omega, by simp; omega, r, by simp, h⟩
    · simp only [findFrom, if_neg h]
      rcases findFrom_eq rs u (k + 1) with ⟨h1, h2⟩ | ⟨h1, h2, s, hs, h3⟩
      · exact .inl ⟨h1, by intro x hx; rcases List.mem_cons.1 hx with rfl | hx; exact h; exact h2 x hx⟩
      · exact .inr ⟨by omega, by simp; omega, s, by simp [hs], h3⟩
theorem findR_neg {rs : List (List Int × List Int)} {u : List Int} : findR rs u < 0 ↔ ∀ r ∈ rs, r.1 ≠ u := by
  unfold findR
  rcases findFrom_eq rs u 0 with ⟨h1, h2⟩ | ⟨h1, h2, r, hr, h3⟩
  · exact ⟨fun _ => h2, fun _ => by omega⟩
  · exact ⟨fun h => by omega, fun h => absurd h3 (h r hr)⟩
theorem findR_lo (rs : List (List Int × List Int)) (u : List Int) : -1 ≤ findR rs u ∧ findR rs u < rs.length := by
  unfold findR; rcases findFrom_eq rs u 0 with ⟨h1, h2⟩ | ⟨h1, h2, _⟩ <;> omega
theorem findR_yes {rs : List (List Int × List Int)} {r : List Int × List Int} (h : r ∈ rs) : 0 ≤ findR rs r.1 := by
  rcases Int.lt_or_le (findR rs r.1) 0 with h1 | h1
  · exact absurd rfl (findR_neg.1 h1 r h)
  · exact h1
/-- may units be a side? -/
def sideB (us : List Int) : Bool := decide (1 ≤ us.length ∧ us.length ≤ 8 ∧ ∀ u ∈ us, 0 ≤ u ∧ u ≤ 1114111)
/-- what is wrong of the rules from index k on -/
def checkFrom (k : Int) (done : List (List Int × List Int)) : List (List Int × List Int) → Int × Int
  | [] => (-1, 0)
  | r :: rs => if 512 ≤ k then (k, 7) else if (sideB r.1 && sideB r.2) = false then (k, 9) else if 0 ≤ findR done r.1 then (k, 8) else checkFrom (k + 1) (done ++ [r]) rs
def checkR (rs : List (List Int × List Int)) : Int × Int := checkFrom 0 [] rs
/-- rules turned, behind those of acc -/
def turnFrom (acc : List (List Int × List Int)) : List (List Int × List Int) → List (List Int × List Int)
  | [] => acc
  | r :: rs => if 0 ≤ findR acc r.2 then turnFrom acc rs else turnFrom (acc ++ [(r.2, r.1)]) rs
def turnR (rs : List (List Int × List Int)) : List (List Int × List Int) := turnFrom [] rs
def longFrom (n : Int) : List (List Int × List Int) → Int
  | [] => n
  | r :: rs => longFrom (if n < r.1.length then (r.1.length : Int) else n) rs
def longR (rs : List (List Int × List Int)) : Int := longFrom 0 rs

theorem turnFrom_len : ∀ (rs acc : List (List Int × List Int)), (turnFrom acc rs).length ≤ acc.length + rs.length
  | [], acc => by simp [turnFrom]
  | r :: rs, acc => by
    simp only [turnFrom]; split
    · have := turnFrom_len rs acc; simp; omega
    · have := turnFrom_len rs (acc ++ [(r.2, r.1)]); simp at this ⊢; omega
theorem turnR_len (rs : List (List Int × List Int)) : (turnR rs).length ≤ rs.length := by have := turnFrom_len rs []; simpa [turnR] using this
theorem turnFrom_mem : ∀ (rs acc : List (List Int × List Int)), ∀ t ∈ turnFrom acc rs, t ∈ acc ∨ ∃ r ∈ rs, t = (r.2, r.1)
  | [], acc, t, h => .inl h
  | r :: rs, acc, t, h => by
    simp only [turnFrom] at h; split at h
    · rcases turnFrom_mem rs acc t h with h | ⟨s, hs, h⟩
      · exact .inl h
      · exact .inr ⟨s, by simp [hs], h⟩
    · rcases turnFrom_mem rs _ t h with h | ⟨s, hs, h⟩
      · rcases List.mem_append.1 h with h | h
        · exact .inl h
        · exact .inr ⟨r, by simp, by simpa using h⟩
      · exact .inr ⟨s, by simp [hs], h⟩
theorem turnR_mem {rs : List (List Int × List Int)} {t : List Int × List Int} (h : t ∈ turnR rs) : ∃ r ∈ rs, t = (r.2, r.1) := by
  rcases turnFrom_mem rs [] t h with h | h
  · cases h
  · exact h
theorem turn_turn {rs : List (List Int × List Int)} {t : List Int × List Int} (h : t ∈ turnR (turnR rs)) : 0 ≤ findR rs t.1 := by
  obtain ⟨r, hr, rfl⟩ := turnR_mem h
  obtain ⟨s, hs, rfl⟩ := turnR_mem hr
  exact findR_yes hs
/-- rules of which none has an earlier one's In -/
def Apart : List (List Int × List Int) → List (List Int × List Int) → Prop
  | _, [] => True
  | acc, r :: rs => (∀ s ∈ acc, s.1 ≠ r.1) ∧ Apart (acc ++ [r]) rs
theorem apart_app : ∀ (rs acc : List (List Int × List Int)) (r : List Int × List Int), Apart acc rs → (∀ s ∈ acc ++ rs, s.1 ≠ r.1) → Apart acc (rs ++ [r])
  | [], acc, r, _, h => ⟨by simpa using h, trivial⟩
  | s :: rs, acc, r, ⟨h1, h2⟩, h => ⟨h1, apart_app rs (acc ++ [s]) r h2 (by simpa using h)⟩
theorem turnFrom_apart : ∀ (rs acc : List (List Int × List Int)), Apart [] acc → Apart [] (turnFrom acc rs)
  | [], acc, h => h
  | r :: rs, acc, h => by
    simp only [turnFrom]; split
    · exact turnFrom_apart rs acc h
    · rename_i hn
      exact turnFrom_apart rs _ (apart_app acc [] (r.2, r.1) h (by simpa using findR_neg.1 (by omega)))
theorem check_ok : ∀ (rs done : List (List Int × List Int)) (k : Int), k + rs.length ≤ 512 → (∀ r ∈ rs, sideB r.1 = true ∧ sideB r.2 = true) → Apart done rs → checkFrom k done rs = (-1, 0)
  | [], done, k, _, _, _ => rfl
  | r :: rs, done, k, h1, h2, ⟨h3, h4⟩ => by
    have h5 := h2 r (by simp)
    simp only [List.length_cons] at h1
    simp only [checkFrom]
    rw [if_neg (by omega), if_neg (by simp [h5]), if_neg (by have := findR_neg.2 h3; omega)]
    exact check_ok rs _ _ (by omega) (fun r hr => h2 r (by simp [hr])) h4
/-- a law's row -/
structure RowL where
  inp : List Int
  out : List Int
  odd : Bool
  ain : List Int
  aout : List Int
def unitsR (zs : List Int) (f : Int) : List Int := if zs.length = 0 then [f] else (zs.take 4).map fun u => f + u % 5
def rowR (r : RowL) : List Int × List Int := if r.odd = true then (r.ain, r.aout) else (unitsR r.inp 97, unitsR r.out 97)
def rulesR (rows : List RowL) : List (List Int × List Int) := (rows.take 40).map rowR
theorem rulesR_len (rows : List RowL) : (rulesR rows).length ≤ 40 := by simp [rulesR]; omega
def rightFrom (acc : List (List Int × List Int)) : List (List Int × List Int) → List (List Int × List Int)
  | [] => acc
  | r :: rs => if sideB r.1 = true ∧ sideB r.2 = true ∧ findR acc r.1 < 0 then rightFrom (acc ++ [r]) rs else rightFrom acc rs
def rightR (rs : List (List Int × List Int)) : List (List Int × List Int) := rightFrom [] rs
theorem rightFrom_len : ∀ (rs acc : List (List Int × List Int)), (rightFrom acc rs).length ≤ acc.length + rs.length
  | [], acc => by simp [rightFrom]
  | r :: rs, acc => by
    simp only [rightFrom]; split
    · have := rightFrom_len rs (acc ++ [r]); simp at this ⊢; omega
    · have := rightFrom_len rs acc; simp; omega
theorem rightFrom_good : ∀ (rs acc : List (List Int × List Int)), Apart [] acc → (∀ r ∈ acc, sideB r.1 = true ∧ sideB r.2 = true) → Apart [] (rightFrom acc rs) ∧ ∀ r ∈ rightFrom acc rs, sideB r.1 = true ∧ sideB r.2 = true
  | [], acc, h, g => ⟨h, g⟩
  | r :: rs, acc, h, g => by
    simp only [rightFrom]; split
    · rename_i hc
      refine rightFrom_good rs _ (apart_app acc [] r h (by simpa using findR_neg.1 hc.2.2)) ?_
      intro s hs
      rcases List.mem_append.1 hs with hs | hs
      · exact g s hs
      · obtain rfl : s = r := by simpa using hs
        exact ⟨hc.1, hc.2.1⟩
    · exact rightFrom_good rs _ h g
theorem right_good (rs : List (List Int × List Int)) (h : rs.length ≤ 40) : (rightR rs).length ≤ 40 ∧ checkR (rightR rs) = (-1, 0) ∧ checkR (turnR (rightR rs)) = (-1, 0) ∧ (turnR (rightR rs)).length ≤ (rightR rs).length := by
  have hl := rightFrom_len rs []
  simp only [List.length_nil, Nat.zero_add] at hl
  obtain ⟨h1, h2⟩ := rightFrom_good rs [] trivial (by simp)
  have hl2 := turnR_len (rightR rs)
  have hr : (rightR rs).length ≤ 40 := by unfold rightR; omega
  refine ⟨hr, check_ok _ _ _ (by omega) h2 h1, check_ok _ _ _ (by omega) ?_ (turnFrom_apart _ _ trivial), hl2⟩
  intro r hr
  obtain ⟨s, hs, rfl⟩ := turnR_mem hr
  exact ⟨(h2 s hs).2, (h2 s hs).1⟩
theorem longFrom_ge : ∀ (rs : List (List Int × List Int)) (n : Int), n ≤ longFrom n rs ∧ (∀ r ∈ rs, (r.1.length : Int) ≤ longFrom n rs) ∧ (longFrom n rs = n ∨ ∃ r ∈ rs, longFrom n rs = r.1.length)
  | [], n => ⟨Int.le_refl _, by simp, .inl rfl⟩
  | r :: rs, n => by
    simp only [longFrom]
    obtain ⟨h1, h2, h3⟩ := longFrom_ge rs (if n < r.1.length then (r.1.length : Int) else n)
    have hm : n ≤ (if n < r.1.length then (r.1.length : Int) else n) ∧ (r.1.length : Int) ≤ (if n < r.1.length then (r.1.length : Int) else n) := by split <;> omega
    refine ⟨by omega, ?_, ?_⟩
    · intro s hs
      rcases List.mem_cons.1 hs with rfl | hs
      · omega
      · exact h2 s hs
    · rcases h3 with h3 | ⟨s, hs, h3⟩
      · by_cases hn : n < r.1.length
        · rw [if_pos hn] at h3 ⊢; exact .inr ⟨r, by simp, h3⟩
        · rw [if_neg hn] at h3 ⊢; exact .inl h3
      · exact .inr ⟨s, by simp [hs], h3⟩
theorem long_take (rs : List (List Int × List Int)) (k : Nat) : longR (rs.take k) ≤ longR rs := by
  obtain ⟨_, h2, h3⟩ := longFrom_ge (rs.take k) 0
  obtain ⟨g1, g2, _⟩ := longFrom_ge rs 0
  unfold longR
  rcases h3 with h3 | ⟨s, hs, h3⟩
  · omega
  · have := g2 s (List.mem_of_mem_take hs); omega
theorem longR_rng (rs : List (List Int × List Int)) (N : Nat) (h : ∀ r ∈ rs, r.1.length ≤ N) : 0 ≤ longR rs ∧ longR rs ≤ N := by
  obtain ⟨h1, _, h3⟩ := longFrom_ge rs 0
  unfold longR
  refine ⟨h1, ?_⟩
  rcases h3 with h3 | ⟨r, hr, h3⟩
  · omega
  · have := h r hr; omega
/-- the rules [k] to [1], for k from i on -/
def manyFrom (i : Int) : Nat → List (List Int × List Int)
  | 0 => []
  | n + 1 => ([i], [1]) :: manyFrom (i + 1) n
theorem manyFrom_len : ∀ (n : Nat) (i : Int), (manyFrom i n).length = n
  | 0, _ => rfl
  | n + 1, i => by simp [manyFrom, manyFrom_len n]
theorem manyFrom_snoc : ∀ (n : Nat) (i : Int), manyFrom i (n + 1) = manyFrom i n ++ [([i + n], [1])]
  | 0, i => by simp [manyFrom]
  | n + 1, i => by
    rw [manyFrom, manyFrom_snoc n (i + 1), show i + 1 + (n : Int) = i + ((n + 1 : Nat) : Int) from by omega]
    rfl
theorem many_check : ∀ (n : Nat) (k : Nat) (done : List (List Int × List Int)), (∀ r ∈ done, ∃ j : Int, r.1 = [j] ∧ j < k) → k ≤ 512 → k + n < 1000 →
    checkFrom k done (manyFrom k n) = if 512 < k + n then (512, 7) else (-1, 0)
  | 0, k, done, _, hk, _ => by rw [if_neg (by omega)]; rfl
  | n + 1, k, done, hd, hk, hn => by
    simp only [manyFrom, checkFrom]
    by_cases h : k = 512
    · subst h; rw [if_pos (by omega), if_pos (by omega)]; rfl
    · rw [if_neg (by omega)]
      have hs : (sideB [(k : Int)] && sideB [1]) = true := by
        have : sideB [(k : Int)] = true := by simp [sideB]; omega
        rw [this]; decide
      rw [if_neg (by rw [hs]; simp)]
      have hf : findR done [(k : Int)] < 0 := findR_neg.2 (by intro r hr; obtain ⟨j, h1, h2⟩ := hd r hr; rw [h1]; simp; omega)
      rw [if_neg (by omega)]
      have := many_check n (k + 1) (done ++ [([(k : Int)], [1])]) (by
        intro r hr
        rcases List.mem_append.1 hr with hr | hr
        · obtain ⟨j, h1, h2⟩ := hd r hr; exact ⟨j, h1, by omega⟩
        · obtain rfl : r = ([(k : Int)], [1]) := by simpa using hr
          exact ⟨k, rfl, by omega⟩) (by omega) (by omega)
      rw [show ((k + 1 : Nat) : Int) = (k : Int) + 1 from by omega] at this
      rw [this]
      by_cases h2 : 512 < k + 1 + n
      · rw [if_pos h2, if_pos (by omega)]
      · rw [if_neg h2, if_neg (by omega)]
theorem many_long : ∀ (n : Nat) (i m : Int), 0 ≤ m → longFrom m (manyFrom i n) = if n = 0 then m else if m < 1 then 1 else m
  | 0, i, m, _ => rfl
  | n + 1, i, m, hm => by
    have e : (if m < (([i] : List Int).length : Int) then (([i] : List Int).length : Int) else m) = if m < 1 then 1 else m := rfl
    have hp : 0 ≤ (if m < 1 then 1 else m : Int) := by split <;> omega
    simp only [manyFrom, longFrom]
    rw [e, many_long n _ _ hp, if_neg (show ¬ (n + 1 = 0) by omega)]
    by_cases h : m < 1
    · rw [if_pos h]; split <;> rfl
    · rw [if_neg h, if_neg h]; split <;> rfl
end Go.Proofs.YthgomhmalmmhlaaDoor
