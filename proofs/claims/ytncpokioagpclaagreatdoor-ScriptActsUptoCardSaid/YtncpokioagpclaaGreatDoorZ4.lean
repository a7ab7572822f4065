/- Texts of this seat, one behind the other: RuleM, TrieM, TrieN, TrieO, TokM, TabM, CodM, TmM, ThaiP, InM, MatchM, MatchP, MatchS, MacM, TabD0, OutL. -/
namespace Go.Proofs.YtncpokioagpclaaGreatDoor
def findFrom (k : Int) : List (List Int × List Int) → List Int → Int
  | [], _ => -1
  | r :: rs, u => if r.1 = u then k else findFrom (k + 1) rs u
def findR (rs : List (List Int × List Int)) (u : List Int) : Int := findFrom 0 rs u
theorem findFrom_eq : ∀ (rs : List (List Int × List Int)) (u : List Int) (k : Int), findFrom k rs u = -1 ∧ (∀ r ∈ rs, r.1 ≠ u) ∨ k ≤ findFrom k rs u ∧ findFrom k rs u < k + rs.length ∧ ∃ r ∈ rs, r.1 = u
  | [], u, k => .inl ⟨rfl, by simp⟩
  | r :: rs, u, k => by
    by_cases h : r.1 = u
    · right; simp only [findFrom, if_pos h]; exact ⟨by omega, by simp; omega, r, by simp, h⟩
    · simp only [findFrom, if_neg h]
      rcases findFrom_eq rs u (k + 1) with ⟨h1, h2⟩ | ⟨h1, h2, s, hs, h3⟩
      · exact .inl ⟨h1, by intro x hx; rcases List.mem_cons.1 hx with rfl | hx; exact h; exact h2 x hx⟩
      · exact .inr ⟨by omega, by simp; omega, s, by simp [hs], h3⟩
theorem findR_neg {rs : List (List Int × List Int)} {u : List Int} : findR rs u < 0 ↔ ∀ r ∈ rs, r.1 ≠ u := by
  unfold findR
  rcases findFrom_eq rs u 0 with ⟨h1, h2⟩ | ⟨h1, h2, r, hr, h3⟩
  · exact ⟨fun _ => h2, fun _ => by omega⟩
  · exact ⟨fun h => by omega, fun h => absurd h3 (h r hr)⟩
theorem findR_lo (rs : List (List Int × List Int)) (u : List Int) : -1 ≤ findR rs u ∧ findR rs u < rs.length := by
  unfold findR; rcases findFrom_eq rs u 0 with ⟨h1, h2⟩ | ⟨h1, h2, _⟩ <;> omega
theorem findR_yes {rs : List (List Int × List Int)} {r : List Int × List Int} (h : r ∈ rs) : 0 ≤ findR rs r.1 := by
  rcases Int.lt_or_le (findR rs r.1) 0 with h1 | h1
  · exact absurd rfl (findR_neg.1 h1 r h)
  · exact h1
/-- may units be a side? -/
def sideB (us : List Int) : Bool := decide (1 ≤ us.length ∧ us.length ≤ 8 ∧ ∀ u ∈ us, 0 ≤ u ∧ u ≤ 1114111)
/-- what is wrong of the rules from index k on -/
def checkFrom (k : Int) (done : List (List Int × List Int)) : List (List Int × List Int) → Int × Int
  | [] => (-1, 0)
  | r :: rs => if 512 ≤ k then (k, 7) else if (sideB r.1 && sideB r.2) = false then (k, 9) else if 0 ≤ findR done r.1 then (k, 8) else checkFrom (k + 1) (done ++ [r]) rs
def checkR (rs : List (List Int × List Int)) : Int × Int := checkFrom 0 [] rs
/-- rules turned, behind those of acc -/
def turnFrom (acc : List (List Int × List Int)) : List (List Int × List Int) → List (List Int × List Int)
  | [] => acc
  | r :: rs => if 0 ≤ findR acc r.2 then turnFrom acc rs else turnFrom (acc ++ [(r.2, r.1)]) rs
def turnR (rs : List (List Int × List Int)) : List (List Int × List Int) := turnFrom [] rs
def longFrom (n : Int) : List (List Int × List Int) → Int
  | [] => n
  | r :: rs => longFrom (if n < r.1.length then (r.1.length : Int) else n) rs
def longR (rs : List (List Int × List Int)) : Int := longFrom 0 rs

theorem turnFrom_len : ∀ (rs acc : List (List Int × List Int)), (turnFrom acc rs).length ≤ acc.length + rs.length
  | [], acc => by simp [turnFrom]
  | r :: rs, acc => by
    simp only [turnFrom]; split
    · have := turnFrom_len rs acc; simp; omega
    · have := turnFrom_len rs (acc ++ [(r.2, r.1)]); simp at this ⊢; omega
theorem turnR_len (rs : List (List Int × List Int)) : (turnR rs).length ≤ rs.length := by have := turnFrom_len rs []; simpa [turnR] using this
theorem turnFrom_mem : ∀ (rs acc : List (List Int × List Int)), ∀ t ∈ turnFrom acc rs, t ∈ acc ∨ ∃ r ∈ rs, t = (r.2, r.1)
  | [], acc, t, h => .inl h
  | r :: rs, acc, t, h => by
    simp only [turnFrom] at h; split at h
    · rcases turnFrom_mem rs acc t h with h | ⟨s, hs, h⟩
      · exact .inl h
      · exact .inr ⟨s, by simp [hs], h⟩
    · rcases turnFrom_mem rs _ t h with h | ⟨s, hs, h⟩
      · rcases List.mem_append.1 h with h | h
        · exact .inl h
        · exact .inr ⟨r, by simp, by simpa using h⟩
      · exact .inr ⟨s, by simp [hs], h⟩
theorem turnR_mem {rs : List (List Int × List Int)} {t : List Int × List Int} (h : t ∈ turnR rs) : ∃ r ∈ rs, t = (r.2, r.1) := by
  rcases turnFrom_mem rs [] t h with h | h
  · cases h
  · exact h
/-- rules of which none has an earlier one's In -/
def Apart : List (List Int × List Int) → List (List Int × List Int) → Prop
  | _, [] => True
  | acc, r :: rs => (∀ s ∈ acc, s.1 ≠ r.1) ∧ Apart (acc ++ [r]) rs
theorem apart_app : ∀ (rs acc : List (List Int × List Int)) (r : List Int × List Int), Apart acc rs → (∀ s ∈ acc ++ rs, s.1 ≠ r.1) → Apart acc (rs ++ [r])
  | [], acc, r, _, h => ⟨by simpa using h, trivial⟩
  | s :: rs, acc, r, ⟨h1, h2⟩, h => ⟨h1, apart_app rs (acc ++ [s]) r h2 (by simpa using h)⟩
theorem turnFrom_apart : ∀ (rs acc : List (List Int × List Int)), Apart [] acc → Apart [] (turnFrom acc rs)
  | [], acc, h => h
  | r :: rs, acc, h => by
    simp only [turnFrom]; split
    · exact turnFrom_apart rs acc h
    · rename_i hn
      exact turnFrom_apart rs _ (apart_app acc [] (r.2, r.1) h (by simpa using findR_neg.1 (by omega)))
theorem check_ok : ∀ (rs done : List (List Int × List Int)) (k : Int), k + rs.length ≤ 512 → (∀ r ∈ rs, sideB r.1 = true ∧ sideB r.2 = true) → Apart done rs → checkFrom k done rs = (-1, 0)
  | [], done, k, _, _, _ => rfl
  | r :: rs, done, k, h1, h2, ⟨h3, h4⟩ => by
    have h5 := h2 r (by simp)
    simp only [List.length_cons] at h1
    simp only [checkFrom]
    rw [if_neg (by omega), if_neg (by simp [h5]), if_neg (by have := findR_neg.2 h3; omega)]
    exact check_ok rs _ _ (by omega) (fun r hr => h2 r (by simp [hr])) h4
theorem longFrom_ge : ∀ (rs : List (List Int × List Int)) (n : Int), n ≤ longFrom n rs ∧ (∀ r ∈ rs, (r.1.length : Int) ≤ longFrom n rs) ∧ (longFrom n rs = n ∨ ∃ r ∈ rs, longFrom n rs = r.1.length)
  | [], n => ⟨Int.le_refl _, by simp, .inl rfl⟩
  | r :: rs, n => by
    simp only [longFrom]
    obtain ⟨h1, h2, h3⟩ := longFrom_ge rs (if n < r.1.length then (r.1.length : Int) else n)
    have hm : n ≤ (if n < r.1.length then (r.1.length : Int) else n) ∧ (r.1.length : Int) ≤ (if n < r.1.length then (r.1.length : Int) else n) := by split <;> omega
    refine ⟨by omega, ?_, ?_⟩
    · intro s hs
      rcases List.mem_cons.1 hs with rfl | hs
      · omega
      · exact h2 s hs
    · rcases h3 with h3 | ⟨s, hs, h3⟩
      · by_cases hn : n < r.1.length
        · rw [if_pos hn] at h3 ⊢; exact .inr ⟨r, by simp, h3⟩
        · rw [if_neg hn] at h3 ⊢; exact .inl h3
      · exact .inr ⟨s, by simp [hs], h3⟩
theorem longR_rng (rs : List (List Int × List Int)) (N : Nat) (h : ∀ r ∈ rs, r.1.length ≤ N) : 0 ≤ longR rs ∧ longR rs ≤ N := by
  obtain ⟨h1, _, h3⟩ := longFrom_ge rs 0
  unfold longR
  refine ⟨h1, ?_⟩
  rcases h3 with h3 | ⟨r, hr, h3⟩
  · omega
  · have := h r hr; omega
end Go.Proofs.YtncpokioagpclaaGreatDoor
namespace Go.Proofs.YtncpokioagpclaaGreatDoor
/-- how many of the units lie below u: where u stands, or would -/
def posN (zs : List Int) (u : Int) : Nat := zs.countP (· < u)
theorem posN_le (zs : List Int) (u : Int) : posN zs u ≤ zs.length := List.countP_le_length
/-- a list with u put in ahead of element i -/
def insL (zs : List Int) (i : Nat) (u : Int) : List Int := zs.take i ++ u :: zs.drop i
theorem insL_len (zs : List Int) (i : Nat) (u : Int) (h : i ≤ zs.length) : (insL zs i u).length = zs.length + 1 := by simp [insL]; omega
theorem insL_get (zs : List Int) (i : Nat) (u : Int) (h : i ≤ zs.length) (j : Nat) : (insL zs i u)[j]? = if j < i then zs[j]? else if j = i then some u else zs[j - 1]? := by
  unfold insL
  by_cases h1 : j < i
  · rw [if_pos h1, List.getElem?_append_left (by simp; omega), List.getElem?_take, if_pos h1]
  · rw [if_neg h1, List.getElem?_append_right (by simp; omega)]
    by_cases h2 : j = i
    · subst h2; rw [if_pos rfl]; simp [Nat.min_eq_left h]
    · rw [if_neg h2, List.length_take, Nat.min_eq_left h, show j - i = (j - i - 1) + 1 from by omega, List.getElem?_cons_succ, List.getElem?_drop, show i + (j - i - 1) = j - 1 from by omega]
theorem posN_split : ∀ (zs : List Int) (u : Int), zs.Pairwise (· < ·) → (∀ a ∈ zs.take (posN zs u), a < u) ∧ (∀ b ∈ zs.drop (posN zs u), u ≤ b)
  | [], u, _ => by simp [posN]
  | a :: zs, u, h => by
    have h1 := List.pairwise_cons.1 h
    by_cases ha : a < u
    · have e : posN (a :: zs) u = posN zs u + 1 := by simp [posN, ha]
      obtain ⟨g1, g2⟩ := posN_split zs u h1.2
      rw [e, List.take_succ_cons, List.drop_succ_cons]
      exact ⟨by intro b hb; rcases List.mem_cons.1 hb with rfl | hb; exact ha; exact g1 b hb, g2⟩
    · have e : posN (a :: zs) u = 0 := by
        simp only [posN, List.countP_eq_zero, decide_eq_true_eq]
        intro b hb
        rcases List.mem_cons.1 hb with rfl | hb
        · exact ha
        · have := h1.1 b hb; omega
      rw [e]
      refine ⟨by simp, ?_⟩
      intro b hb
      rcases List.mem_cons.1 (by simpa using hb) with rfl | hb
      · omega
      · have := h1.1 b hb; omega
theorem mem_insL {zs : List Int} {i : Nat} {u v : Int} : v ∈ insL zs i u ↔ v = u ∨ v ∈ zs := by
  have : v ∈ zs ↔ v ∈ zs.take i ∨ v ∈ zs.drop i := by rw [← List.mem_append, List.take_append_drop]
  unfold insL
  rw [this]
  simp only [List.mem_append, List.mem_cons]
  constructor
  · rintro (h | h | h)
    · exact .inr (.inl h)
    · exact .inl h
    · exact .inr (.inr h)
  · rintro (h | h | h)
    · exact .inr (.inl h)
    · exact .inl h
    · exact .inr (.inr h)
theorem insL_sorted {zs : List Int} {u : Int} (h : zs.Pairwise (· < ·)) (hu : u ∉ zs) : (insL zs (posN zs u) u).Pairwise (· < ·) := by
  obtain ⟨h1, h2⟩ := posN_split zs u h
  have h3 : ∀ b ∈ zs.drop (posN zs u), u < b := fun b hb => by
    have := h2 b hb
    have hne : b ≠ u := fun e => hu (e ▸ List.mem_of_mem_drop hb)
    omega
  refine List.pairwise_append.2 ⟨h.sublist (List.take_sublist _ _), List.pairwise_cons.2 ⟨h3, h.sublist (List.drop_sublist _ _)⟩, ?_⟩
  intro a ha b hb
  have := h1 a ha
  rcases List.mem_cons.1 hb with rfl | hb
  · exact this
  · have := h3 b hb; omega
theorem posN_at {zs : List Int} {u : Int} (h : zs.Pairwise (· < ·)) (hu : u ∈ zs) : zs[posN zs u]? = some u := by
  obtain ⟨h1, h2⟩ := posN_split zs u h
  have hm : u ∈ zs.drop (posN zs u) := by
    have : u ∈ zs.take (posN zs u) ++ zs.drop (posN zs u) := by rw [List.take_append_drop]; exact hu
    rcases List.mem_append.1 this with h | h
    · have := h1 u h; omega
    · exact h
  have hp := h.sublist (List.drop_sublist (posN zs u) zs)
  cases hd : zs.drop (posN zs u) with
  | nil => rw [hd] at hm; cases hm
  | cons b t =>
    rw [hd] at hm hp h2
    have hb := h2 b (by simp)
    have hub : u = b := by
      rcases List.mem_cons.1 hm with e | e
      · exact e
      · have := (List.pairwise_cons.1 hp).1 u e; omega
    have : (zs.drop (posN zs u))[0]? = some b := by rw [hd]; rfl
    rw [List.getElem?_drop] at this
    rw [hub]; rw [hub] at this; simpa using this

/-- where a path stands -/
def idxP : List (List Int) → List Int → Nat
  | [], _ => 0
  | y :: P, x => if y = x then 0 else idxP P x + 1
theorem idxP_lt : ∀ {P : List (List Int)} {x : List Int}, x ∈ P → idxP P x < P.length ∧ P[idxP P x]? = some x
  | y :: P, x, h => by
    simp only [idxP]
    by_cases e : y = x
    · rw [if_pos e]; exact ⟨by simp, by rw [e]; rfl⟩
    · rw [if_neg e]
      obtain ⟨h1, h2⟩ := idxP_lt (P := P) (x := x) (by rcases List.mem_cons.1 h with h | h; exact absurd h.symm e; exact h)
      exact ⟨by simp; omega, by simpa using h2⟩
theorem idxP_app : ∀ {P : List (List Int)} {x : List Int} (Q : List (List Int)), x ∈ P → idxP (P ++ Q) x = idxP P x
  | y :: P, x, Q, h => by
    simp only [List.cons_append, idxP]
    by_cases e : y = x
    · rw [if_pos e, if_pos e]
    · rw [if_neg e, if_neg e, idxP_app (P := P) Q (by rcases List.mem_cons.1 h with h | h; exact absurd h.symm e; exact h)]
theorem idxP_new : ∀ {P : List (List Int)} {x : List Int}, x ∉ P → idxP (P ++ [x]) x = P.length
  | [], x, _ => by simp [idxP]
  | y :: P, x, h => by
    simp only [List.cons_append, idxP]
    rw [if_neg (fun e => h (by simp [e])), idxP_new (fun e => h (by simp [e]))]
    simp
theorem idxP_of {P : List (List Int)} {x : List Int} {m : Nat} (hn : P.Nodup) (h : P[m]? = some x) : idxP P x = m := by
  have hm : m < P.length := by
    rcases Nat.lt_or_ge m P.length with hh | hh
    · exact hh
    · rw [List.getElem?_eq_none hh] at h; cases h
  have hx : x ∈ P := List.mem_of_getElem? h
  obtain ⟨h1, h2⟩ := idxP_lt hx
  have := (List.getElem?_inj h1 hn).1 (h2.trans h.symm)
  exact this

structure NodeM where
  rule : Int
  units : List Int
  next : List Int
/-- a node tells what its path says -/
structure NI (P : List (List Int)) (f : List Int → Int) (x : List Int) (nd : NodeM) : Prop where
  rule : nd.rule = f x
  lens : nd.next.length = nd.units.length
  small : nd.units.length ≤ P.length
  sorted : nd.units.Pairwise (· < ·)
  units : ∀ u, u ∈ nd.units ↔ x ++ [u] ∈ P
  next : ∀ (j : Nat) (u : Int), nd.units[j]? = some u → nd.next[j]? = some (idxP P (x ++ [u]) : Int)
structure TI (P : List (List Int)) (ns : List NodeM) (f : List Int → Int) : Prop where
  len : ns.length = P.length
  root : P[0]? = some []
  nodup : P.Nodup
  closed : ∀ x u, x ++ [u] ∈ P → x ∈ P
  frame : ∀ x, x ∉ P → f x = -1
  node : ∀ (k : Nat) nd x, ns[k]? = some nd → P[k]? = some x → NI P f x nd
theorem TI.new : TI [[]] [⟨-1, [], []⟩] (fun _ => -1) := by
  refine ⟨rfl, rfl, by simp, by simp, fun _ _ => rfl, ?_⟩
  intro k nd x h1 h2
  match k with
  | 0 =>
    simp at h1 h2
    subst h1 h2
    exact ⟨rfl, rfl, by simp, by simp, by simp, by simp⟩
  | k + 1 => simp at h1
theorem app_one_inj {x y : List Int} {u v : Int} (h : x ++ [u] = y ++ [v]) : x = y ∧ u = v := by
  have := List.append_inj' h rfl
  exact ⟨this.1, by simpa using this.2⟩
/-- behind a path of the trie a unit leads on just where the node says so -/
theorem TI.kid {P : List (List Int)} {ns : List NodeM} {f : List Int → Int} (h : TI P ns f) {k : Nat} {nd : NodeM} {x : List Int} {u : Int} (hk : ns[k]? = some nd) (hx : P[k]? = some x) (hu : u ∈ nd.units) : nd.next[posN nd.units u]? = some (idxP P (x ++ [u]) : Int) :=
  (h.node k nd x hk hx).next _ _ (posN_at (h.node k nd x hk hx).sorted hu)
theorem TI.add {P : List (List Int)} {ns : List NodeM} {f : List Int → Int} (h : TI P ns f) {k : Nat} {nd : NodeM} {x : List Int} {u : Int} (hk : ns[k]? = some nd) (hx : P[k]? = some x) (hu : u ∉ nd.units) :
    TI (P ++ [x ++ [u]]) (ns.set k ⟨nd.rule, insL nd.units (posN nd.units u) u, insL nd.next (posN nd.units u) (P.length : Int)⟩ ++ [⟨-1, [], []⟩]) f := by
  have hn := h.node k nd x hk hx
  have hnew : x ++ [u] ∉ P := fun e => hu ((hn.units u).2 e)
  have hxP : x ∈ P := List.mem_of_getElem? hx
  have hkl : k < ns.length := by
    rcases Nat.lt_or_ge k ns.length with hh | hh
    · exact hh
    · rw [List.getElem?_eq_none hh] at hk; cases hk
  have hkP : k < P.length := by rw [← h.len]; exact hkl
  have hp := posN_le nd.units u
  refine ⟨by simp [h.len], ?_, ?_, ?_, ?_, ?_⟩
  · rw [List.getElem?_append_left (by omega)]; exact h.root
  · refine List.nodup_append.2 ⟨h.nodup, by simp, ?_⟩
    intro a ha b hb
    obtain rfl : b = x ++ [u] := by simpa using hb
    intro e; exact hnew (e ▸ ha)
  · intro y v hy
    rcases List.mem_append.1 hy with hy | hy
    · exact List.mem_append.2 (.inl (h.closed y v hy))
    · have := app_one_inj (by simpa using hy)
      exact List.mem_append.2 (.inl (by rw [this.1]; exact hxP))
  · intro y hy
    exact h.frame y fun e => hy (List.mem_append.2 (.inl e))
  · intro j md y h1 h2
    have hjl : j < ns.length + 1 := by
      rcases Nat.lt_or_ge j (ns.length + 1) with hh | hh
      · exact hh
      · rw [List.getElem?_eq_none (by simpa using hh)] at h1; cases h1
    by_cases hj : j = ns.length
    · subst hj
      rw [List.getElem?_append_right (by simp)] at h1
      simp at h1
      rw [h.len, List.getElem?_append_right (by simp)] at h2
      simp at h2
      subst h1 h2
      refine ⟨(h.frame _ hnew).symm, rfl, by simp, by simp, ?_, by simp⟩
      intro v
      constructor
      · intro hv; cases hv
      · intro hv
        rcases List.mem_append.1 hv with hv | hv
        · exact absurd (h.closed _ _ hv) hnew
        · simp at hv
    · have hjl2 : j < P.length := by have := h.len; omega
      rw [List.getElem?_append_left (by simp; omega)] at h1
      rw [List.getElem?_append_left hjl2] at h2
      by_cases hjk : j = k
      · subst hjk
        rw [List.getElem?_set_self hkl] at h1
        injection h1 with h1
        obtain rfl : y = x := by rw [hx] at h2; injection h2 with h2; exact h2.symm
        subst h1
        refine ⟨hn.rule, ?_, ?_, insL_sorted hn.sorted hu, ?_, ?_⟩
        · show (insL nd.next _ _).length = (insL nd.units _ _).length
          rw [insL_len _ _ _ hp, insL_len _ _ _ (by rw [hn.lens]; exact hp), hn.lens]
        · show (insL nd.units _ _).length ≤ _
          rw [insL_len _ _ _ hp]; simp; exact hn.small
        · intro v
          show v ∈ insL nd.units _ _ ↔ _
          rw [mem_insL, hn.units, List.mem_append]
          constructor
          · rintro (rfl | e)
            · exact .inr (by simp)
            · exact .inl e
          · rintro (e | e)
            · exact .inr e
            · exact .inl (app_one_inj (List.mem_singleton.1 e)).2
        · intro i v
          show (insL nd.units _ _)[i]? = some v → (insL nd.next _ _)[i]? = _
          rw [insL_get _ _ _ hp, insL_get _ _ _ (by rw [hn.lens]; exact hp)]
          intro hv
          by_cases h3 : i < posN nd.units u
          · rw [if_pos h3] at hv ⊢
            rw [hn.next _ _ hv, idxP_app _ ((hn.units v).1 (List.mem_of_getElem? hv))]
          · rw [if_neg h3] at hv ⊢
            by_cases h4 : i = posN nd.units u
            · rw [if_pos h4] at hv ⊢
              obtain rfl : u = v := by simpa using hv
              rw [idxP_new hnew]
            · rw [if_neg h4] at hv ⊢
              rw [hn.next _ _ hv, idxP_app _ ((hn.units v).1 (List.mem_of_getElem? hv))]
      · rw [List.getElem?_set_ne (fun e => hjk e.symm)] at h1
        have hm := h.node j md y h1 h2
        have hyx : y ≠ x := fun e => hjk (by rw [e] at h2; rw [← idxP_of h.nodup h2, idxP_of h.nodup hx])
        refine ⟨hm.rule, hm.lens, by have := hm.small; simp; omega, hm.sorted, ?_, ?_⟩
        · intro v
          rw [hm.units, List.mem_append]
          exact ⟨.inl, fun e => e.elim id fun e => absurd (app_one_inj (List.mem_singleton.1 e)).1 hyx⟩
        · intro i v hv
          rw [hm.next _ _ hv, idxP_app _ ((hm.units v).1 (List.mem_of_getElem? hv))]
theorem TI.put {P : List (List Int)} {ns : List NodeM} {f : List Int → Int} (h : TI P ns f) {k : Nat} {nd : NodeM} {x : List Int} (K : Int) (hk : ns[k]? = some nd) (hx : P[k]? = some x) :
    TI P (ns.set k ⟨K, nd.units, nd.next⟩) (fun y => if y = x then K else f y) := by
  have hn := h.node k nd x hk hx
  have hkl : k < ns.length := by
    rcases Nat.lt_or_ge k ns.length with hh | hh
    · exact hh
    · rw [List.getElem?_eq_none hh] at hk; cases hk
  refine ⟨by simp [h.len], h.root, h.nodup, h.closed, ?_, ?_⟩
  · intro y hy
    show (if y = x then K else f y) = -1
    rw [if_neg (fun e : y = x => hy (by rw [e]; exact List.mem_of_getElem? hx))]
    exact h.frame y hy
  · intro j md y h1 h2
    by_cases hjk : j = k
    · subst hjk
      rw [List.getElem?_set_self hkl] at h1
      injection h1 with h1
      obtain rfl : y = x := by rw [hx] at h2; injection h2 with h2; exact h2.symm
      subst h1
      exact ⟨by show K = if y = y then K else f y; rw [if_pos rfl], hn.lens, hn.small, hn.sorted, hn.units, hn.next⟩
    · rw [List.getElem?_set_ne (fun e => hjk e.symm)] at h1
      have hm := h.node j md y h1 h2
      have hyx : y ≠ x := fun e => hjk (by rw [e] at h2; rw [← idxP_of h.nodup h2, idxP_of h.nodup hx])
      exact ⟨by show md.rule = if y = x then K else f y; rw [if_neg hyx]; exact hm.rule, hm.lens, hm.small, hm.sorted, hm.units, hm.next⟩

def addP (P : List (List Int)) (x : List Int) : List (List Int) := if x ∈ P then P else P ++ [x]
theorem mem_addP {P : List (List Int)} {x y : List Int} : y ∈ addP P x ↔ y ∈ P ∨ y = x := by
  unfold addP; split
  · rename_i h
    exact ⟨.inl, fun e => e.elim id fun e => e ▸ h⟩
  · simp
theorem addP_len (P : List (List Int)) (x : List Int) : P.length ≤ (addP P x).length ∧ (addP P x).length ≤ P.length + 1 := by
  unfold addP; split <;> simp
def growP (P : List (List Int)) (pre : List Int) : List Int → List (List Int)
  | [] => P
  | u :: us => growP (addP P (pre ++ [u])) (pre ++ [u]) us
def pathsFrom (P : List (List Int)) : List (List Int × List Int) → List (List Int)
  | [] => P
  | r :: rs => pathsFrom (growP P [] r.1) rs
def pathsR (rs : List (List Int × List Int)) : List (List Int) := pathsFrom [[]] rs
theorem growP_len : ∀ (us : List Int) (P : List (List Int)) (pre : List Int), P.length ≤ (growP P pre us).length ∧ (growP P pre us).length ≤ P.length + us.length
  | [], P, _ => by simp [growP]
  | u :: us, P, pre => by
    have h1 := addP_len P (pre ++ [u])
    have h2 := growP_len us (addP P (pre ++ [u])) (pre ++ [u])
    simp only [growP, List.length_cons]; omega
theorem mem_growP : ∀ {us : List Int} {P : List (List Int)} {pre x : List Int}, x ∈ growP P pre us ↔ x ∈ P ∨ ∃ j, 1 ≤ j ∧ j ≤ us.length ∧ x = pre ++ us.take j
  | [], P, pre, x => by
    simp only [growP, List.length_nil]
    constructor
    · exact .inl
    · rintro (h | ⟨j, h1, h2, _⟩)
      · exact h
      · omega
  | u :: us, P, pre, x => by
    simp only [growP]
    rw [mem_growP, mem_addP]
    constructor
    · rintro ((h | h) | ⟨j, h1, h2, h3⟩)
      · exact .inl h
      · exact .inr ⟨1, by omega, by simp, by rw [h]; simp⟩
      · exact .inr ⟨j + 1, by omega, by simp; omega, by rw [h3]; simp⟩
    · rintro (h | ⟨j, h1, h2, h3⟩)
      · exact .inl (.inl h)
      · by_cases hj : j = 1
        · subst hj; exact .inl (.inr (by rw [h3]; simp))
        · obtain ⟨i, rfl⟩ : ∃ i, j = i + 1 := ⟨j - 1, by omega⟩
          exact .inr ⟨i, by omega, by simp at h2; exact h2, by rw [h3]; simp⟩
theorem mem_pathsFrom : ∀ {rs : List (List Int × List Int)} {P : List (List Int)} {x : List Int}, x ∈ pathsFrom P rs ↔ x ∈ P ∨ ∃ r ∈ rs, ∃ j, 1 ≤ j ∧ j ≤ r.1.length ∧ x = r.1.take j
  | [], P, x => by simp [pathsFrom]
  | r :: rs, P, x => by
    simp only [pathsFrom]
    rw [mem_pathsFrom, mem_growP]
    constructor
    · rintro ((h | ⟨j, h1, h2, h3⟩) | ⟨s, hs, h⟩)
      · exact .inl h
      · exact .inr ⟨r, by simp, j, h1, h2, by simpa using h3⟩
      · exact .inr ⟨s, by simp [hs], h⟩
    · rintro (h | ⟨s, hs, j, h1, h2, h3⟩)
      · exact .inl (.inl h)
      · rcases List.mem_cons.1 hs with rfl | hs
        · exact .inl (.inr ⟨j, h1, h2, by simpa using h3⟩)
        · exact .inr ⟨s, hs, j, h1, h2, h3⟩
theorem mem_paths {rs : List (List Int × List Int)} {x : List Int} : x ∈ pathsR rs ↔ x = [] ∨ ∃ r ∈ rs, ∃ j, 1 ≤ j ∧ j ≤ r.1.length ∧ x = r.1.take j := by
  unfold pathsR; rw [mem_pathsFrom]; simp
theorem paths_snoc : ∀ (rs : List (List Int × List Int)) (P : List (List Int)) (r : List Int × List Int), pathsFrom P (rs ++ [r]) = growP (pathsFrom P rs) [] r.1
  | [], P, r => rfl
  | s :: rs, P, r => by simp only [List.cons_append, pathsFrom]; exact paths_snoc rs _ r
theorem paths_take {rs : List (List Int × List Int)} {K : Nat} (hK : K < rs.length) : pathsR (rs.take (K + 1)) = growP (pathsR (rs.take K)) [] rs[K].1 := by
  rw [List.take_succ_eq_append_getElem hK]; exact paths_snoc _ _ _
theorem growP_snoc : ∀ (us : List Int) (P : List (List Int)) (pre : List Int) (u : Int), growP P pre (us ++ [u]) = addP (growP P pre us) (pre ++ us ++ [u])
  | [], P, pre, u => by simp [growP]
  | v :: us, P, pre, u => by simp only [List.cons_append, growP]; rw [growP_snoc us]; simp
theorem growP_take {P : List (List Int)} {us : List Int} {j : Nat} (hj : j < us.length) : growP P [] (us.take (j + 1)) = addP (growP P [] (us.take j)) (us.take j ++ [us[j]]) := by
  rw [List.take_succ_eq_append_getElem hj, growP_snoc]; simp
theorem grow_in {P : List (List Int)} {us : List Int} {j : Nat} (h0 : [] ∈ P) (hj : j ≤ us.length) : us.take j ∈ growP P [] (us.take j) := by
  rw [mem_growP]
  by_cases h : j = 0
  · subst h; exact .inl (by simpa using h0)
  · exact .inr ⟨j, by omega, by simp; omega, by rw [List.take_take, Nat.min_self]; rfl⟩

/-- what stands behind is found as it is ahead -/
theorem find_app (rs : List (List Int × List Int)) (r : List Int × List Int) (x : List Int) : findR (rs ++ [r]) x = if 0 ≤ findR rs x then findR rs x else if r.1 = x then (rs.length : Int) else -1 := by
  have : ∀ (rs : List (List Int × List Int)) (k : Int), 0 ≤ k → findFrom k (rs ++ [r]) x = if 0 ≤ findFrom k rs x then findFrom k rs x else if r.1 = x then k + rs.length else -1 := by
    intro rs
    induction rs with
    | nil =>
      intro k hk
      simp only [List.nil_append, findFrom, List.length_nil]
      rw [if_neg (show ¬ (0 : Int) ≤ -1 by omega)]
      split <;> simp
    | cons s rs ih =>
      intro k hk
      simp only [List.cons_append, findFrom]
      by_cases e : s.1 = x
      · simp only [if_pos e]; rw [if_pos hk]
      · simp only [if_neg e]
        rw [ih (k + 1) (by omega)]
        split
        · rfl
        · split
          · simp; omega
          · rfl
  have h := this rs 0 (by omega)
  unfold findR
  rw [h]
  split
  · rfl
  · split <;> simp
theorem apart_at : ∀ (rs acc : List (List Int × List Int)) (K : Nat) (hK : K < rs.length), Apart acc rs → ∀ s ∈ acc ++ rs.take K, s.1 ≠ rs[K].1
  | r :: rs, acc, 0, _, h => by simpa using h.1
  | r :: rs, acc, K + 1, hK, h => by
    intro s hs
    have := apart_at rs (acc ++ [r]) K (by simpa using hK) h.2 s (by simpa using hs)
    simpa using this
theorem put_find {rs : List (List Int × List Int)} {K : Nat} (hK : K < rs.length) (hf : findR (rs.take K) rs[K].1 < 0) : (fun y => if y = rs[K].1 then (K : Int) else findR (rs.take K) y) = findR (rs.take (K + 1)) := by
  funext y
  rw [List.take_succ_eq_append_getElem hK, find_app]
  have hl : (rs.take K).length = K := by simp; omega
  by_cases e : y = rs[K].1
  · subst e
    rw [if_pos rfl, if_neg (by omega), if_pos rfl, hl]
  · rw [if_neg e]
    have hlo := findR_lo (rs.take K) y
    split
    · rfl
    · rw [if_neg (fun h => e h.symm)]; omega
theorem check_good : ∀ (rs done : List (List Int × List Int)) (k : Int), checkFrom k done rs = (-1, 0) → 0 ≤ k → k + rs.length ≤ 512 ∧ (∀ r ∈ rs, sideB r.1 = true ∧ sideB r.2 = true) ∧ Apart done rs ∨ (rs = [])
  | [], done, k, _, _ => .inr rfl
  | r :: rs, done, k, h, hk => by
    left
    simp only [checkFrom] at h
    by_cases h1 : 512 ≤ k
    · rw [if_pos h1] at h; simp at h
    · rw [if_neg h1] at h
      by_cases h2 : (sideB r.1 && sideB r.2) = false
      · rw [if_pos h2] at h; simp at h
      · rw [if_neg h2] at h
        by_cases h3 : 0 ≤ findR done r.1
        · rw [if_pos h3] at h; simp at h
        · rw [if_neg h3] at h
          have h4 : sideB r.1 = true ∧ sideB r.2 = true := by simpa using h2
          have h5 := findR_neg.1 (show findR done r.1 < 0 by omega)
          rcases check_good rs _ (k + 1) h (by omega) with ⟨g1, g2, g3⟩ | g
          · refine ⟨by simp; omega, ?_, h5, g3⟩
            intro s hs
            rcases List.mem_cons.1 hs with rfl | hs
            · exact h4
            · exact g2 s hs
          · subst g
            refine ⟨by simp; omega, ?_, h5, trivial⟩
            intro s hs
            obtain rfl : s = r := by simpa using hs
            exact h4
/-- rules of which nothing is wrong -/
structure Good (rs : List (List Int × List Int)) : Prop where
  many : rs.length ≤ 512
  side : ∀ r ∈ rs, 1 ≤ r.1.length ∧ r.1.length ≤ 8 ∧ 1 ≤ r.2.length ∧ r.2.length ≤ 8 ∧ (∀ u ∈ r.1, 0 ≤ u ∧ u ≤ 1114111)
  apart : Apart [] rs
theorem good_of {rs : List (List Int × List Int)} (h : checkR rs = (-1, 0)) : Good rs := by
  rcases check_good rs [] 0 h (by omega) with ⟨g1, g2, g3⟩ | g
  · refine ⟨by omega, ?_, g3⟩
    intro r hr
    obtain ⟨h1, h2⟩ := g2 r hr
    simp only [sideB, decide_eq_true_eq] at h1 h2
    exact ⟨h1.1, h1.2.1, h2.1, h2.2.1, h1.2.2⟩
  · subst g; exact ⟨by simp, by simp, trivial⟩
theorem Good.first {rs : List (List Int × List Int)} (h : Good rs) {K : Nat} (hK : K < rs.length) : findR (rs.take K) rs[K].1 < 0 :=
  findR_neg.2 fun s hs => apart_at rs [] K hK h.apart s (by simpa using hs)
theorem paths_small {rs : List (List Int × List Int)} : ∀ {K : Nat}, K ≤ rs.length → (∀ r ∈ rs, r.1.length ≤ 8) → (pathsR (rs.take K)).length ≤ 1 + 8 * K
  | 0, _, _ => by simp [pathsR, pathsFrom]
  | K + 1, hK, h => by
    rw [paths_take hK]
    have h1 := paths_small (K := K) (by omega) h
    have h2 := growP_len rs[K].1 (pathsR (rs.take K)) []
    have h3 := h rs[K] (List.getElem_mem _)
    omega
end Go.Proofs.YtncpokioagpclaaGreatDoor
namespace Go.Proofs.YtncpokioagpclaaGreatDoor
/-- does rule r's In stand ahead, longer than n? -/
def hitL (r : List Int × List Int) (us : List Int) (n : Int) : Bool := decide (r.1.length ≤ us.length ∧ us.take r.1.length = r.1 ∧ n < r.1.length)
/-- are the units a beginning of r's In, and not all of it? -/
def openL (r : List Int × List Int) (us : List Int) : Bool := decide (us.length < r.1.length ∧ r.1.take us.length = us)
def longLFrom (i k n : Int) (o : Bool) (us : List Int) : List (List Int × List Int) → Int × Int × Bool
  | [] => (k, n, o)
  | r :: rs => longLFrom (i + 1) (if hitL r us n = true then i else k) (if hitL r us n = true then (r.1.length : Int) else n) (o || openL r us) us rs
def longL (rs : List (List Int × List Int)) (us : List Int) : Int × Int × Bool := longLFrom 0 (-1) 0 false us rs
/-- what the longest rule is -/
structure LongIs (rs : List (List Int × List Int)) (us : List Int) (k n : Int) (o : Bool) : Prop where
  op : o = true ↔ ∃ r ∈ rs, us.length < r.1.length ∧ r.1.take us.length = us
  max : ∀ r ∈ rs, r.1.length ≤ us.length → us.take r.1.length = r.1 → (r.1.length : Int) ≤ n
  res : (k = -1 ∧ n = 0) ∨ ∃ m : Nat, n = m ∧ 1 ≤ m ∧ m ≤ us.length ∧ k = findR rs (us.take m) ∧ ∃ r ∈ rs, r.1 = us.take m
theorem LongIs.one {rs : List (List Int × List Int)} {us : List Int} {k n k' n' : Int} {o o' : Bool} (h : LongIs rs us k n o) (h' : LongIs rs us k' n' o') : k = k' ∧ n = n' ∧ o = o' := by
  have ho : o = o' := by
    cases o with
    | true => exact (h'.op.2 (h.op.1 rfl)).symm
    | false =>
      cases o' with
      | false => rfl
      | true => exact h.op.2 (h'.op.1 rfl)
  have key : ∀ {k n k' n' : Int} {o o' : Bool}, LongIs rs us k n o → LongIs rs us k' n' o' → n' ≤ n := by
    intro k n k' n' o o' h h'
    rcases h'.res with ⟨_, e⟩ | ⟨m, e, h1, h2, _, r, hr, h3⟩
    · rcases h.res with ⟨_, e2⟩ | ⟨m, e2, _⟩
      · omega
      · omega
    · have := h.max r hr (by rw [h3]; simp; omega) (by rw [h3]; simp)
      rw [h3, List.length_take, Nat.min_eq_left h2] at this
      omega
  have hn : n = n' := by have := key h h'; have := key h' h; omega
  subst hn
  refine ⟨?_, rfl, ho⟩
  rcases h.res with ⟨e1, e2⟩ | ⟨m, e1, e2, e3, e4, _⟩
  · rcases h'.res with ⟨f1, f2⟩ | ⟨m', f1, f2, _⟩
    · omega
    · omega
  · rcases h'.res with ⟨f1, f2⟩ | ⟨m', f1, f2, f3, f4, _⟩
    · omega
    · have : m = m' := by omega
      subst this
      rw [e4, f4]
theorem longL_ls (us : List Int) : ∀ (rs done : List (List Int × List Int)) (k n : Int) (o : Bool), (∀ r ∈ rs, 1 ≤ r.1.length) → LongIs done us k n o → 0 ≤ n →
    ∃ k' n' o', longLFrom done.length k n o us rs = (k', n', o') ∧ LongIs (done ++ rs) us k' n' o'
  | [], done, k, n, o, _, h, _ => ⟨k, n, o, rfl, by simpa using h⟩
  | r :: rs, done, k, n, o, hs, h, hn => by
    simp only [longLFrom]
    have hr1 := hs r (by simp)
    have hop : ((o || openL r us) = true ↔ ∃ s ∈ done ++ [r], us.length < s.1.length ∧ s.1.take us.length = us) := by
      rw [Bool.or_eq_true, h.op]
      unfold openL
      rw [decide_eq_true_eq]
      constructor
      · rintro (⟨s, hs, h1⟩ | h1)
        · exact ⟨s, by simp [hs], h1⟩
        · exact ⟨r, by simp, h1⟩
      · rintro ⟨s, hs, h1⟩
        rcases List.mem_append.1 hs with hs | hs
        · exact .inl ⟨s, hs, h1⟩
        · obtain rfl : s = r := by simpa using hs
          exact .inr h1
    have hst : LongIs (done ++ [r]) us (if hitL r us n = true then (done.length : Int) else k) (if hitL r us n = true then (r.1.length : Int) else n) (o || openL r us) := by
      by_cases hh : hitL r us n = true
      · rw [if_pos hh, if_pos hh]
        have hh' := hh
        simp only [hitL, decide_eq_true_eq] at hh'
        obtain ⟨h1, h2, h3⟩ := hh'
        refine ⟨hop, ?_, .inr ⟨r.1.length, rfl, hr1, h1, ?_, r, by simp, h2.symm⟩⟩
        · intro s hs h4 h5
          rcases List.mem_append.1 hs with hs | hs
          · have := h.max s hs h4 h5; omega
          · obtain rfl : s = r := by simpa using hs
            omega
        · rw [h2, find_app]
          have : findR done r.1 < 0 := findR_neg.2 fun s hs e => by
            have := h.max s hs (by rw [e]; exact h1) (by rw [e]; exact h2)
            rw [e] at this; omega
          rw [if_neg (by omega), if_pos rfl]
      · rw [if_neg hh, if_neg hh]
        refine ⟨hop, ?_, ?_⟩
        · intro s hs h4 h5
          rcases List.mem_append.1 hs with hs | hs
          · exact h.max s hs h4 h5
          · obtain rfl : s = r := by simpa using hs
            have : ¬ (s.1.length ≤ us.length ∧ us.take s.1.length = s.1 ∧ n < s.1.length) := by simpa [hitL] using hh
            rcases Int.lt_or_le n s.1.length with h6 | h6
            · exact absurd ⟨h4, h5, h6⟩ this
            · exact h6
        · rcases h.res with e | ⟨m, e1, e2, e3, e4, s, hs, e5⟩
          · exact .inl e
          · refine .inr ⟨m, e1, e2, e3, ?_, s, by simp [hs], e5⟩
            rw [find_app, if_pos (by rw [← e5]; exact findR_yes hs)]
            exact e4
    obtain ⟨k', n', o', h1, h2⟩ := longL_ls us rs (done ++ [r]) _ _ _ (fun s hs' => hs s (by simp [hs'])) hst (by split <;> omega)
    refine ⟨k', n', o', ?_, by simpa using h2⟩
    rw [List.length_append] at h1
    simpa using h1
theorem longL_is {rs : List (List Int × List Int)} {us : List Int} (hs : ∀ r ∈ rs, 1 ≤ r.1.length) {k n : Int} {o : Bool} (h : LongIs rs us k n o) : longL rs us = (k, n, o) := by
  obtain ⟨k', n', o', h1, h2⟩ := longL_ls us rs [] (-1) 0 false hs ⟨by simp, by simp, .inl ⟨rfl, rfl⟩⟩ (by omega)
  have h2' : LongIs rs us k' n' o' := by simpa using h2
  obtain ⟨rfl, rfl, rfl⟩ := h.one h2'
  exact h1

/-- the longest rule among the first J units -/
structure BestP (f : List Int → Int) (us : List Int) (J : Nat) (k n : Int) : Prop where
  max : ∀ j : Nat, 1 ≤ j → j ≤ J → f (us.take j) ≠ -1 → (j : Int) ≤ n
  res : (k = -1 ∧ n = 0) ∨ ∃ m : Nat, n = m ∧ 1 ≤ m ∧ m ≤ J ∧ k = f (us.take m) ∧ f (us.take m) ≠ -1
theorem BestP.start (f : List Int → Int) (us : List Int) : BestP f us 0 (-1) 0 := ⟨fun j h1 h2 => by omega, .inl ⟨rfl, rfl⟩⟩
theorem BestP.stay {f : List Int → Int} {us : List Int} {J : Nat} {k n : Int} (h : BestP f us J k n) (hf : f (us.take (J + 1)) = -1) : BestP f us (J + 1) k n := by
  refine ⟨fun j h1 h2 h3 => ?_, ?_⟩
  · by_cases hj : j = J + 1
    · subst hj; exact absurd hf h3
    · exact h.max j h1 (by omega) h3
  · rcases h.res with e | ⟨m, e1, e2, e3, e4⟩
    · exact .inl e
    · exact .inr ⟨m, e1, e2, by omega, e4⟩
theorem BestP.move {f : List Int → Int} {us : List Int} {J : Nat} {k n : Int} (_h : BestP f us J k n) (hf : f (us.take (J + 1)) ≠ -1) : BestP f us (J + 1) (f (us.take (J + 1))) ((J : Int) + 1) :=
  ⟨fun j h1 h2 h3 => by omega, .inr ⟨J + 1, by omega, by omega, by omega, rfl, hf⟩⟩
theorem find_pos {rs : List (List Int × List Int)} {x : List Int} (h : findR rs x ≠ -1) : ∃ r ∈ rs, r.1 = x := by
  unfold findR at h
  rcases findFrom_eq rs x 0 with ⟨h1, _⟩ | ⟨_, _, h3⟩
  · exact absurd h1 h
  · exact h3
theorem BestP.ls {rs : List (List Int × List Int)} {us : List Int} {J : Nat} {k n : Int} {o : Bool} (hs : ∀ r ∈ rs, 1 ≤ r.1.length) (hJ : J ≤ us.length) (h : BestP (findR rs) us J k n) (hop : o = true ↔ ∃ r ∈ rs, us.length < r.1.length ∧ r.1.take us.length = us)
    (hmore : ∀ r ∈ rs, r.1.length ≤ us.length → us.take r.1.length = r.1 → r.1.length ≤ J) : LongIs rs us k n o := by
  refine ⟨hop, ?_, ?_⟩
  · intro r hr h1 h2
    refine h.max r.1.length (hs r hr) (hmore r hr h1 h2) ?_
    rw [h2]
    have := findR_yes hr
    omega
  · rcases h.res with e | ⟨m, e1, e2, e3, e4, e5⟩
    · exact .inl e
    · exact .inr ⟨m, e1, e2, by omega, e4, find_pos e5⟩
theorem take_path {rs : List (List Int × List Int)} {r : List Int × List Int} (hr : r ∈ rs) {j : Nat} (h1 : 1 ≤ j) (h2 : j ≤ r.1.length) : r.1.take j ∈ pathsR rs := mem_paths.2 (.inr ⟨r, hr, j, h1, h2, rfl⟩)
/-- no more units lead on -/
theorem BestP.stop {rs : List (List Int × List Int)} {us : List Int} {J : Nat} {k n : Int} (hs : ∀ r ∈ rs, 1 ≤ r.1.length) (hJ : J < us.length) (h : BestP (findR rs) us J k n) (hno : us.take (J + 1) ∉ pathsR rs) : longL rs us = (k, n, false) := by
  refine longL_is hs (h.ls hs (by omega) ?_ ?_)
  · constructor
    · intro e; cases e
    · rintro ⟨r, hr, h1, h2⟩
      refine absurd ?_ hno
      rw [← h2, List.take_take, Nat.min_eq_left (by omega)]
      exact take_path hr (by omega) (by omega)
  · intro r hr h1 h2
    rcases Nat.lt_or_ge J r.1.length with h3 | h3
    · refine absurd ?_ hno
      have : us.take (J + 1) = r.1.take (J + 1) := by rw [← h2, List.take_take, Nat.min_eq_left (by omega)]
      rw [this]
      exact take_path hr (by omega) (by omega)
    · exact h3
theorem open_kid {rs : List (List Int × List Int)} {us : List Int} : (∃ r ∈ rs, us.length < r.1.length ∧ r.1.take us.length = us) ↔ ∃ u, us ++ [u] ∈ pathsR rs := by
  constructor
  · rintro ⟨r, hr, h1, h2⟩
    refine ⟨r.1[us.length], ?_⟩
    have : us ++ [r.1[us.length]] = r.1.take (us.length + 1) := by
      rw [List.take_succ_eq_append_getElem h1, h2]
    rw [this]
    exact take_path hr (by omega) (by omega)
  · rintro ⟨u, hu⟩
    rcases mem_paths.1 hu with h | ⟨r, hr, j, h1, h2, h3⟩
    · simp at h
    · have hl := congrArg List.length h3
      simp at hl
      have hj : j = us.length + 1 := by omega
      subst hj
      refine ⟨r, hr, by omega, ?_⟩
      have := congrArg (List.take us.length) h3
      rw [List.take_take, Nat.min_eq_left (by omega)] at this
      simpa using this.symm
theorem BestP.all {rs : List (List Int × List Int)} {us : List Int} {k n : Int} {o : Bool} (hs : ∀ r ∈ rs, 1 ≤ r.1.length) (h : BestP (findR rs) us us.length k n) (ho : o = true ↔ ∃ u, us ++ [u] ∈ pathsR rs) : longL rs us = (k, n, o) :=
  longL_is hs (h.ls hs (Nat.le_refl _) (ho.trans open_kid.symm) (fun _ _ h1 _ => h1))
end Go.Proofs.YtncpokioagpclaaGreatDoor
namespace Go.Proofs.YtncpokioagpclaaGreatDoor
theorem find_take : ∀ (rs : List (List Int × List Int)) (K : Nat) (x : List Int) (k : Int), 0 ≤ k → 0 ≤ findFrom k (rs.take K) x → findFrom k rs x = findFrom k (rs.take K) x
  | [], K, x, k, _, h => by simp
  | r :: rs, 0, x, k, hk, h => by simp [findFrom] at h
  | r :: rs, K + 1, x, k, hk, h => by
    simp only [List.take_succ_cons, findFrom] at h ⊢
    by_cases e : r.1 = x
    · simp only [if_pos e]
    · simp only [if_neg e] at h ⊢
      exact find_take rs K x (k + 1) (by omega) h
theorem Good.self {rs : List (List Int × List Int)} (h : Good rs) {K : Nat} (hK : K < rs.length) : findR rs rs[K].1 = K := by
  have h1 := congrFun (put_find hK (h.first hK)) rs[K].1
  simp only [if_true] at h1
  have := find_take rs (K + 1) rs[K].1 0 (by omega) (by show 0 ≤ findR _ _; rw [← h1]; omega)
  show findFrom 0 rs _ = _
  rw [this]; exact h1.symm
theorem Good.long {rs : List (List Int × List Int)} (h : Good rs) (us : List Int) : ∃ k n o, longL rs us = (k, n, o) ∧ LongIs rs us k n o := by
  obtain ⟨k, n, o, h1, h2⟩ := longL_ls us rs [] (-1) 0 false (fun r hr => (h.side r hr).1) ⟨by simp, by simp, .inl ⟨rfl, rfl⟩⟩ (by omega)
  exact ⟨k, n, o, h1, by simpa using h2⟩
theorem paths_le {rs : List (List Int × List Int)} (h : Good rs) : (pathsR rs).length ≤ 5000 := by
  have := paths_small (rs := rs) (K := rs.length) (Nat.le_refl _) (fun r hr => (h.side r hr).2.1)
  rw [List.take_length] at this
  have := h.many
  omega
end Go.Proofs.YtncpokioagpclaaGreatDoor
namespace Go.Proofs.YtncpokioagpclaaGreatDoor
/-- a token, as plain data -/
structure Tk where
  pos : Int
  size : Int
  out : List Int
  err : Int
/-- the first token of units: its size, what is wrong, what it means -/
def stepT (rs : List (List Int × List Int)) (us : List Int) : Int × Int × List Int :=
  if (longL rs us).1 < 0 then (1, 3, []) else ((longL rs us).2.1, 0, (rs.map (·.2)).getD (longL rs us).1.toNat [])
/-- the tokens of units, the first one at at_ -/
def rewA (rs : List (List Int × List Int)) (at_ : Int) : List Int → List Tk
  | [] => []
  | u :: t => ⟨at_, (stepT rs (u :: t)).1, (stepT rs (u :: t)).2.2, (stepT rs (u :: t)).2.1⟩ :: rewA rs (at_ + (stepT rs (u :: t)).1) (t.drop ((stepT rs (u :: t)).1.toNat - 1))
termination_by us => us.length
decreasing_by simp; omega
theorem rewA_cons {rs : List (List Int × List Int)} {at_ : Int} {us o : List Int} {s e : Int} (hu : us ≠ []) (hs : stepT rs us = (s, e, o)) (h1 : 1 ≤ s) : rewA rs at_ us = ⟨at_, s, o, e⟩ :: rewA rs (at_ + s) (us.drop s.toNat) := by
  cases us with
  | nil => exact absurd rfl hu
  | cons u t =>
    rw [rewA, hs]
    simp only
    obtain ⟨m, hm⟩ : ∃ m, s.toNat = m + 1 := ⟨s.toNat - 1, by omega⟩
    rw [hm]; rfl
theorem rewA_nil (rs : List (List Int × List Int)) (at_ : Int) : rewA rs at_ [] = [] := by rw [rewA]
theorem Good.step {rs : List (List Int × List Int)} (h : Good rs) {us : List Int} {k n : Int} {o : Bool} (hl : longL rs us = (k, n, o)) :
    (k < 0 ∧ n = 0) ∨ ∃ m : Nat, n = m ∧ 1 ≤ m ∧ m ≤ us.length ∧ m ≤ 8 ∧ ∃ K : Nat, k = K ∧ ∃ hK : K < rs.length, rs[K].1 = us.take m ∧ stepT rs us = (n, 0, rs[K].2) := by
  obtain ⟨k', n', o', h1, h2⟩ := h.long us
  rw [hl] at h1
  injection h1 with e1 e2
  injection e2 with e2 e3
  subst e1 e2 e3
  rcases h2.res with ⟨e1, e2⟩ | ⟨m, e1, e2, e3, e4, r, hr, e5⟩
  · exact .inl ⟨by omega, e2⟩
  · right
    have hmem := hr
    obtain ⟨K, hK, rfl⟩ := List.getElem_of_mem hr
    rw [← e5, h.self hK] at e4
    have hlen : rs[K].1.length = m := by rw [e5, List.length_take]; omega
    refine ⟨m, e1, e2, e3, by have := (h.side _ hmem).2.1; omega, K, e4, hK, e5, ?_⟩
    unfold stepT
    rw [hl]
    simp only
    rw [if_neg (by omega), e4]
    simp [List.getD_eq_getElem?_getD, List.getElem?_eq_getElem hK]
theorem Good.stepN {rs : List (List Int × List Int)} (_h : Good rs) {us : List Int} {k n : Int} {o : Bool} (hl : longL rs us = (k, n, o)) (hk : k < 0) : stepT rs us = (1, 3, []) := by
  unfold stepT; rw [hl]; simp only; rw [if_pos hk]
/-- what a first token is like -/
structure StepP (us : List Int) (s e : Int) (o : List Int) : Prop where
  lo : 1 ≤ s
  hi : s ≤ us.length
  err : (e = 3 ∧ s = 1 ∧ o = []) ∨ (e = 0 ∧ 1 ≤ o.length)
  len : o.length ≤ 8
theorem Good.stepP {rs : List (List Int × List Int)} (h : Good rs) {us : List Int} (hu : us ≠ []) : ∃ s e o, stepT rs us = (s, e, o) ∧ StepP us s e o := by
  obtain ⟨k, n, o, hl, _⟩ := h.long us
  have hp : 1 ≤ us.length := List.length_pos_iff.2 hu
  rcases h.step hl with ⟨h1, _⟩ | ⟨m, h1, h2, h3, _, K, h5, hK, _, h7⟩
  · exact ⟨1, 3, [], h.stepN hl h1, by omega, by omega, .inl ⟨rfl, rfl, rfl⟩, by simp⟩
  · have := h.side _ (List.getElem_mem hK)
    exact ⟨n, 0, rs[K].2, h7, by omega, by omega, .inr ⟨rfl, this.2.2.1⟩, this.2.2.2.1⟩
/-- by induction along the tokens -/
theorem Good.along {rs : List (List Int × List Int)} (h : Good rs) (P : List Int → Prop) (h0 : P []) (h1 : ∀ us s e o, us ≠ [] → stepT rs us = (s, e, o) → StepP us s e o → P (us.drop s.toNat) → P us) : ∀ (n : Nat) (us : List Int), us.length ≤ n → P us
  | 0, us, hn => by
    obtain rfl : us = [] := List.eq_nil_of_length_eq_zero (by omega)
    exact h0
  | n + 1, us, hn => by
    by_cases hu : us = []
    · subst hu; exact h0
    · obtain ⟨s, e, o, g1, g2⟩ := h.stepP hu
      exact h1 us s e o hu g1 g2 (Good.along h P h0 h1 n _ (by have := g2.lo; simp; omega))
theorem Good.rew_len {rs : List (List Int × List Int)} (h : Good rs) (us : List Int) : ∀ at_ : Int, (rewA rs at_ us).length ≤ us.length := by
  refine h.along (fun us => ∀ at_ : Int, (rewA rs at_ us).length ≤ us.length) (fun _ => by simp [rewA_nil]) ?_ us.length us (Nat.le_refl _)
  intro us s e o hu hs hp ih at_
  rw [rewA_cons hu hs hp.lo]
  have := ih (at_ + s)
  have h1 := hp.lo
  have h2 := hp.hi
  simp only [List.length_cons, List.length_drop] at this ⊢
  omega
/-- a token of those that units are made into -/
structure TkP (t : Tk) : Prop where
  lo : 1 ≤ t.size
  err : (t.err = 3 ∧ t.size = 1 ∧ t.out = []) ∨ (t.err = 0 ∧ 1 ≤ t.out.length)
  len : t.out.length ≤ 8
theorem Good.rew_tk {rs : List (List Int × List Int)} (h : Good rs) (us : List Int) : ∀ at_ : Int, ∀ t ∈ rewA rs at_ us, TkP t := by
  refine h.along (fun us => ∀ at_ : Int, ∀ t ∈ rewA rs at_ us, TkP t) (fun _ => by simp [rewA_nil]) ?_ us.length us (Nat.le_refl _)
  intro us s e o hu hs hp ih at_ t ht
  rw [rewA_cons hu hs hp.lo] at ht
  rcases List.mem_cons.1 ht with rfl | ht
  · exact ⟨hp.lo, hp.err, hp.len⟩
  · exact ih _ t ht
end Go.Proofs.YtncpokioagpclaaGreatDoor
namespace Go.Proofs.YtncpokioagpclaaGreatDoor
set_option linter.unusedVariables false
set_option linter.unusedSimpArgs false
/-- are the first n units of an In an In, or one unit that no In ends with? -/
def closeAt (rs : List (List Int × List Int)) (r : List Int × List Int) (n : Nat) : Bool :=
  rs.any (fun x => decide (x.1 = r.1.take n)) || (decide (n = 1) && !rs.any fun x => decide (x.1.getD (x.1.length - 1) 0 = r.1.getD 0 0))
def closedR (rs : List (List Int × List Int)) : Bool := rs.all fun r => (List.range r.1.length).all fun n => decide (n = 0) || closeAt rs r n
/-- would units be read with those ahead? -/
def joinsR (rs : List (List Int × List Int)) (ahead us : List Int) : Bool :=
  rs.any fun r => decide (0 < ahead.length ∧ ahead.length < r.1.length ∧ r.1.length ≤ ahead.length + us.length ∧ (ahead ++ us).take r.1.length = r.1)
/-- a token behind what stands ahead -/
def joinT (rs : List (List Int × List Int)) (ahead : List Int) (t : Tk) : Tk := if t.err = 0 ∧ joinsR rs ahead t.out = true then ⟨t.pos, t.size, [], 3⟩ else t
/-- tokens, each behind the last one that is right -/
def encF (rs : List (List Int × List Int)) : List Int → List Tk → List Tk
  | _, [] => []
  | ah, t :: ts => joinT rs ah t :: encF rs (if (joinT rs ah t).err = 0 then (joinT rs ah t).out else ah) ts
def encA (rs : List (List Int × List Int)) (us : List Int) : List Tk := encF rs [] (rewA (turnR rs) 0 us)
theorem encF_len (rs : List (List Int × List Int)) : ∀ (ts : List Tk) (ah : List Int), (encF rs ah ts).length = ts.length
  | [], ah => rfl
  | t :: ts, ah => by simp only [encF, List.length_cons, encF_len rs ts]
/-- what stands ahead of token k of the result -/
def aheadF : List Int → List Tk → List Int
  | ah, [] => ah
  | ah, t :: ts => aheadF (if t.err = 0 then t.out else ah) ts
theorem encF_app (rs : List (List Int × List Int)) : ∀ (a b : List Tk) (ah : List Int), encF rs ah (a ++ b) = encF rs ah a ++ encF rs (aheadF ah (encF rs ah a)) b
  | [], b, ah => rfl
  | t :: a, b, ah => by simp only [List.cons_append, encF, aheadF, encF_app rs a b]
theorem aheadF_app : ∀ (a b : List Tk) (ah : List Int), aheadF ah (a ++ b) = aheadF (aheadF ah a) b
  | [], b, ah => rfl
  | t :: a, b, ah => by simp only [List.cons_append, aheadF, aheadF_app a b]
theorem encF_take {rs : List (List Int × List Int)} {ts : List Tk} {ah : List Int} {K : Nat} (hK : K < ts.length) : encF rs ah (ts.take (K + 1)) = encF rs ah (ts.take K) ++ [joinT rs (aheadF ah (encF rs ah (ts.take K))) ts[K]] := by
  rw [List.take_succ_eq_append_getElem hK, encF_app]; rfl
theorem aheadF_take {rs : List (List Int × List Int)} {ts : List Tk} {ah : List Int} {K : Nat} (hK : K < ts.length) :
    aheadF ah (encF rs ah (ts.take (K + 1))) = if (joinT rs (aheadF ah (encF rs ah (ts.take K))) ts[K]).err = 0 then (joinT rs (aheadF ah (encF rs ah (ts.take K))) ts[K]).out else aheadF ah (encF rs ah (ts.take K)) := by
  rw [encF_take hK, aheadF_app]; rfl
theorem joinsR_iff {rs : List (List Int × List Int)} {ahead us : List Int} : joinsR rs ahead us = true ↔ ∃ r ∈ rs, 0 < ahead.length ∧ ahead.length < r.1.length ∧ r.1.length ≤ ahead.length + us.length ∧ (ahead ++ us).take r.1.length = r.1 := by
  unfold joinsR; rw [List.any_eq_true]; simp
theorem joinsR_nil (rs : List (List Int × List Int)) (us : List Int) : joinsR rs [] us = false := by
  rw [Bool.eq_false_iff]; intro h
  obtain ⟨r, _, h1, _⟩ := joinsR_iff.1 h
  simp at h1
end Go.Proofs.YtncpokioagpclaaGreatDoor
namespace Go.Proofs.YtncpokioagpclaaGreatDoor
set_option linter.unusedVariables false
set_option linter.unusedSimpArgs false
/-- the letters and digits that all have -/
def selS : List Int := [97, 98, 99, 120, 121, 122, 65, 66, 67, 48, 49, 57, 32, 46, 44]
def selB (rs : List (List Int × List Int)) (S : List Int) (f : Int → Int) : Bool := (S.all fun s => rs.any fun r => r.1 == [s] && r.2 == [f s]) && rs.all fun r => decide (r.1.length < 2) || !(S.any fun s => r.1.getD 0 0 == s) || !(S.any fun s => r.1.getD 1 0 == s)
end Go.Proofs.YtncpokioagpclaaGreatDoor
namespace Go.Proofs.YtncpokioagpclaaGreatDoor
set_option linter.unusedVariables false
set_option linter.unusedSimpArgs false
set_option maxRecDepth 100000
theorem all_rangeT {n : Nat} {p : Nat → Bool} (h : (List.range n).all p = true) (k : Nat) (hk : k < n) : p k = true := List.all_eq_true.1 h k (List.mem_range.2 hk)
/-- the consonants; the vowels of one byte; the signs -/
def tmC : List Int := [2965, 2969, 2970, 2974, 2975, 2979, 2980, 2984, 2986, 2990, 2991, 2992, 2994, 2997, 2996, 2995, 2993, 2985, 2972, 2999, 3000, 3001]
def tmV : List Int := [2949, 2950, 2951, 2952, 2953, 2954, 2958, 2959, 2960, 2962, 2963, 2964, 2947]
def tmS : List Int := [3014, 3015, 3016, 3021, 3006, 3007, 3008, 3009, 3010, 3031]
/-- the rules; the rules turned round -/
def tmR : List (List Int × List Int) := [([0], [0]), ([1], [1]), ([2], [2]), ([3], [3]), ([4], [4]), ([5], [5]), ([6], [6]), ([7], [7]), ([8], [8]), ([9], [9]), ([10], [10]), ([11], [11]), ([12], [12]), ([13], [13]), ([14], [14]), ([15], [15]), ([16], [16]), ([17], [17]), ([18], [18]), ([19], [19]), ([20], [20]), ([21], [21]), ([22], [22]), ([23], [23]), ([24], [24]), ([25], [25]), ([26], [26]), ([27], [27]), ([28], [28]), ([29], [29]), ([30], [30]), ([31], [31]), ([32], [32]), ([33], [33]), ([34], [34]), ([35], [35]), ([36], [36]), ([37], [37]), ([38], [38]), ([39], [39]), ([40], [40]), ([41], [41]), ([42], [42]), ([43], [43]), ([44], [44]), ([45], [45]), ([46], [46]), ([47], [47]), ([48], [48]), ([49], [49]), ([50], [50]), ([51], [51]), ([52], [52]), ([53], [53]), ([54], [54]), ([55], [55]), ([56], [56]), ([57], [57]), ([58], [58]), ([59], [59]), ([60], [60]), ([61], [61]), ([62], [62]), ([63], [63]), ([64], [64]), ([65], [65]), ([66], [66]), ([67], [67]), ([68], [68]), ([69], [69]), ([70], [70]), ([71], [71]), ([72], [72]), ([73], [73]), ([74], [74]), ([75], [75]), ([76], [76]), ([77], [77]), ([78], [78]), ([79], [79]), ([80], [80]), ([81], [81]), ([82], [82]), ([83], [83]), ([84], [84]), ([85], [85]), ([86], [86]), ([87], [87]), ([88], [88]), ([89], [89]), ([90], [90]), ([91], [91]), ([92], [92]), ([93], [93]), ([94], [94]), ([95], [95]), ([96], [96]), ([97], [97]), ([98], [98]), ([99], [99]), ([100], [100]), ([101], [101]), ([102], [102]), ([103], [103]), ([104], [104]), ([105], [105]), ([106], [106]), ([107], [107]), ([108], [108]), ([109], [109]), ([110], [110]), ([111], [111]), ([112], [112]), ([113], [113]), ([114], [114]), ([115], [115]), ([116], [116]), ([117], [117]), ([118], [118]), ([119], [119]), ([120], [120]), ([121], [121]), ([122], [122]), ([123], [123]), ([124], [124]), ([125], [125]), ([126], [126]), ([127], [127]), ([145], [2949]), ([146], [2950]), ([147], [2951]), ([148], [2952]), ([149], [2953]), ([150], [2954]), ([151], [2958]), ([152], [2959]), ([153], [2960]), ([154], [2962]), ([155], [2963]), ([156], [2964]), ([157], [2947]), ([166], [3014]), ([167], [3015]), ([168], [3016]), ([169], [3021]), ([170], [3006]), ([171], [3007]), ([172], [3008]), ([173], [3009]), ([174], [3010]), ([175], [3031]), ([176], [2965]), ([208], [2965, 3021]), ([166, 176], [2965, 3014]), ([167, 176], [2965, 3015]), ([168, 176], [2965, 3016]), ([166, 176, 170], [2965, 3018]), ([167, 176, 170], [2965, 3019]), ([166, 176, 175], [2965, 3020]), ([177], [2969]), ([209], [2969, 3021]), ([166, 177], [2969, 3014]), ([167, 177], [2969, 3015]), ([168, 177], [2969, 3016]), ([166, 177, 170], [2969, 3018]), ([167, 177, 170], [2969, 3019]), ([166, 177, 175], [2969, 3020]), ([178], [2970]), ([210], [2970, 3021]), ([166, 178], [2970, 3014]), ([167, 178], [2970, 3015]), ([168, 178], [2970, 3016]), ([166, 178, 170], [2970, 3018]), ([167, 178, 170], [2970, 3019]), ([166, 178, 175], [2970, 3020]), ([179], [2974]), ([211], [2974, 3021]), ([166, 179], [2974, 3014]), ([167, 179], [2974, 3015]), ([168, 179], [2974, 3016]), ([166, 179, 170], [2974, 3018]), ([167, 179, 170], [2974, 3019]), ([166, 179, 175], [2974, 3020]), ([180], [2975]), ([212], [2975, 3021]), ([166, 180], [2975, 3014]), ([167, 180], [2975, 3015]), ([168, 180], [2975, 3016]), ([166, 180, 170], [2975, 3018]), ([167, 180, 170], [2975, 3019]), ([166, 180, 175], [2975, 3020]), ([181], [2979]), ([213], [2979, 3021]), ([166, 181], [2979, 3014]), ([167, 181], [2979, 3015]), ([168, 181], [2979, 3016]), ([166, 181, 170], [2979, 3018]), ([167, 181, 170], [2979, 3019]), ([166, 181, 175], [2979, 3020]), ([182], [2980]), ([214], [2980, 3021]), ([166, 182], [2980, 3014]), ([167, 182], [2980, 3015]), ([168, 182], [2980, 3016]), ([166, 182, 170], [2980, 3018]), ([167, 182, 170], [2980, 3019]), ([166, 182, 175], [2980, 3020]), ([183], [2984]), ([215], [2984, 3021]), ([166, 183], [2984, 3014]), ([167, 183], [2984, 3015]), ([168, 183], [2984, 3016]), ([166, 183, 170], [2984, 3018]), ([167, 183, 170], [2984, 3019]), ([166, 183, 175], [2984, 3020]), ([184], [2986]), ([216], [2986, 3021]), ([166, 184], [2986, 3014]), ([167, 184], [2986, 3015]), ([168, 184], [2986, 3016]), ([166, 184, 170], [2986, 3018]), ([167, 184, 170], [2986, 3019]), ([166, 184, 175], [2986, 3020]), ([185], [2990]), ([217], [2990, 3021]), ([166, 185], [2990, 3014]), ([167, 185], [2990, 3015]), ([168, 185], [2990, 3016]), ([166, 185, 170], [2990, 3018]), ([167, 185, 170], [2990, 3019]), ([166, 185, 175], [2990, 3020]), ([186], [2991]), ([218], [2991, 3021]), ([166, 186], [2991, 3014]), ([167, 186], [2991, 3015]), ([168, 186], [2991, 3016]), ([166, 186, 170], [2991, 3018]), ([167, 186, 170], [2991, 3019]), ([166, 186, 175], [2991, 3020]), ([187], [2992]), ([219], [2992, 3021]), ([166, 187], [2992, 3014]), ([167, 187], [2992, 3015]), ([168, 187], [2992, 3016]), ([166, 187, 170], [2992, 3018]), ([167, 187, 170], [2992, 3019]), ([166, 187, 175], [2992, 3020]), ([188], [2994]), ([220], [2994, 3021]), ([166, 188], [2994, 3014]), ([167, 188], [2994, 3015]), ([168, 188], [2994, 3016]), ([166, 188, 170], [2994, 3018]), ([167, 188, 170], [2994, 3019]), ([166, 188, 175], [2994, 3020]), ([189], [2997]), ([221], [2997, 3021]), ([166, 189], [2997, 3014]), ([167, 189], [2997, 3015]), ([168, 189], [2997, 3016]), ([166, 189, 170], [2997, 3018]), ([167, 189, 170], [2997, 3019]), ([166, 189, 175], [2997, 3020]), ([190], [2996]), ([222], [2996, 3021]), ([166, 190], [2996, 3014]), ([167, 190], [2996, 3015]), ([168, 190], [2996, 3016]), ([166, 190, 170], [2996, 3018]), ([167, 190, 170], [2996, 3019]), ([166, 190, 175], [2996, 3020]), ([191], [2995]), ([223], [2995, 3021]), ([166, 191], [2995, 3014]), ([167, 191], [2995, 3015]), ([168, 191], [2995, 3016]), ([166, 191, 170], [2995, 3018]), ([167, 191, 170], [2995, 3019]), ([166, 191, 175], [2995, 3020]), ([192], [2993]), ([224], [2993, 3021]), ([166, 192], [2993, 3014]), ([167, 192], [2993, 3015]), ([168, 192], [2993, 3016]), ([166, 192, 170], [2993, 3018]), ([167, 192, 170], [2993, 3019]), ([166, 192, 175], [2993, 3020]), ([193], [2985]), ([225], [2985, 3021]), ([166, 193], [2985, 3014]), ([167, 193], [2985, 3015]), ([168, 193], [2985, 3016]), ([166, 193, 170], [2985, 3018]), ([167, 193, 170], [2985, 3019]), ([166, 193, 175], [2985, 3020]), ([194], [2972]), ([226], [2972, 3021]), ([166, 194], [2972, 3014]), ([167, 194], [2972, 3015]), ([168, 194], [2972, 3016]), ([166, 194, 170], [2972, 3018]), ([167, 194, 170], [2972, 3019]), ([166, 194, 175], [2972, 3020]), ([195], [2999]), ([227], [2999, 3021]), ([166, 195], [2999, 3014]), ([167, 195], [2999, 3015]), ([168, 195], [2999, 3016]), ([166, 195, 170], [2999, 3018]), ([167, 195, 170], [2999, 3019]), ([166, 195, 175], [2999, 3020]), ([196], [3000]), ([228], [3000, 3021]), ([166, 196], [3000, 3014]), ([167, 196], [3000, 3015]), ([168, 196], [3000, 3016]), ([166, 196, 170], [3000, 3018]), ([167, 196, 170], [3000, 3019]), ([166, 196, 175], [3000, 3020]), ([197], [3001]), ([229], [3001, 3021]), ([166, 197], [3001, 3014]), ([167, 197], [3001, 3015]), ([168, 197], [3001, 3016]), ([166, 197, 170], [3001, 3018]), ([167, 197, 170], [3001, 3019]), ([166, 197, 175], [3001, 3020])]
def tmT : List (List Int × List Int) := tmR.map fun r => (r.2, r.1)
theorem tmC_len : tmC.length = 22 := rfl
theorem tmR_len : tmR.length = 327 := by decide +kernel
theorem tmR_takeLen (k : Nat) (h : k ≤ 327) : (tmR.take k).length = k := by rw [List.length_take, tmR_len]; omega
theorem tmR_step {k : Nat} {r : List Int × List Int} (h : tmR[k]? = some r) : tmR.take (k + 1) = tmR.take k ++ [r] := by
  obtain ⟨hk, h2⟩ := List.getElem?_eq_some_iff.1 h
  rw [List.take_succ_eq_append_getElem hk, h2]
def tmCon (k : Nat) : Int := tmC.getD k 0
theorem tmR_low (c : Nat) (h : c < 128) : tmR.take (c + 1) = tmR.take c ++ [([(c : Int)], [(c : Int)])] := by
  have := all_rangeT (show (List.range 128).all (fun c => decide (tmR[c]? = some ([(c : Int)], [(c : Int)]))) = true by decide +kernel) c h
  exact tmR_step (of_decide_eq_true this)
/-- the eight rules of consonant k -/
def tmG (k : Nat) : List (List Int × List Int) :=
  [([176 + (k : Int)], [tmCon k]), ([208 + (k : Int)], [tmCon k, 3021]), ([166, 176 + (k : Int)], [tmCon k, 3014]), ([167, 176 + (k : Int)], [tmCon k, 3015]), ([168, 176 + (k : Int)], [tmCon k, 3016]),
    ([166, 176 + (k : Int), 170], [tmCon k, 3018]), ([167, 176 + (k : Int), 170], [tmCon k, 3019]), ([166, 176 + (k : Int), 175], [tmCon k, 3020])]
theorem tmR_con (k : Nat) (h : k < 22) : tmR.take (151 + 8 * (k + 1)) = tmR.take (151 + 8 * k) ++ tmG k := by
  have := all_rangeT (show (List.range 22).all (fun k => decide (tmR.take (151 + 8 * (k + 1)) = tmR.take (151 + 8 * k) ++ tmG k)) = true by decide +kernel) k h
  exact of_decide_eq_true this
theorem tmR_all : tmR.take (151 + 8 * 22) = tmR := List.take_of_length_le (by rw [tmR_len]; omega)
theorem tmR_right : checkR tmR = (-1, 0) := by decide +kernel
theorem tmR_turn : turnR tmR = tmT := by decide +kernel
theorem tmR_closed : closedR tmR = true := by decide +kernel
end Go.Proofs.YtncpokioagpclaaGreatDoor
namespace Go.Proofs.YtncpokioagpclaaGreatDoor
/-- a byte's scalar, and whether it has one -/
def scF (c : Int) : Int × Bool := if c ≤ 127 then (c, true) else if 161 ≤ c ∧ c ≤ 218 ∨ 223 ≤ c ∧ c ≤ 251 then (c + 3424, true) else (0, false)
end Go.Proofs.YtncpokioagpclaaGreatDoor
namespace Go.Proofs.YtncpokioagpclaaGreatDoor
set_option linter.unusedVariables false
set_option linter.unusedSimpArgs false
/-- the places of the bytes from a1 on; 0: it has none -/
def inPl : List Int := [1, 2, 3, 5, 6, 7, 8, 9, 10, 11, 14, 15, 16, 13, 18, 19, 20, 17, 21, 22, 23, 24, 25, 26, 27, 28, 29, 30, 31, 32, 33, 34, 35, 36, 37, 38, 39, 40, 41, 42, 43, 44, 45, 46, 47, 95, 48, 49, 50, 51, 52, 53, 54, 55, 56, 57, 0, 62, 63, 64, 65, 66, 67, 70, 71, 72, 69, 74, 75, 76, 73, 77, 60, 0, 0, 0, 0, 0, 0, 0, 102, 103, 104, 105, 106, 107, 108, 109, 110, 111]
/-- a byte's place, or 0 -/
def inP (c : Nat) : Int := if 161 ≤ c ∧ c < 251 then inPl.getD (c - 161) 0 else 0
/-- has it one? -/
def inK (c : Nat) : Bool := inP c != 0
/-- what a nukta makes: a byte, a place -/
def inNk : List (Int × Int) := [(0xa1, 0x50), (0xa6, 0x0c), (0xa7, 0x61), (0xaa, 0x60), (0xb3, 0x58), (0xb4, 0x59), (0xb5, 0x5a), (0xba, 0x5b), (0xbf, 0x5c), (0xc0, 0x5d), (0xc9, 0x5e), (0xdb, 0x62), (0xdc, 0x63), (0xdf, 0x44)]
/-- the codes of scripts -/
def inCd : List Int := [0x42, 0x43, 0x4b, 0x4a, 0x47, 0x44, 0x45, 0x48, 0x49]
def cdC (s : Nat) : Int := inCd.getD s 0
/-- the rules that go by no pattern -/
def inS : List (List Int × List Int) := [([0xd9], [0x400d]), ([0xea], [0x2964]), ([0xea, 0xe9], [0x3d]), ([0xe8, 0xe8], [0x4d, 0x400c]), ([0xe8, 0xe9], [0x4d, 0x400d]), ([0xf0, 0xb8], [0x52]), ([0xf0, 0xbf], [0x70])]
/-- the rules -/
def inR : List (List Int × List Int) :=
  ((List.range 128).map fun c : Nat => ([(c : Int)], [8192 + (c : Int)])) ++ (((List.range 256).filter inK).map fun c : Nat => ([(c : Int)], [inP c])) ++ (inNk.map fun r => ([r.1, 233], [r.2])) ++
  ((List.range 9).map fun s : Nat => ([239, cdC s], [4096 + (s : Int)])) ++ inS
end Go.Proofs.YtncpokioagpclaaGreatDoor
namespace Go.Proofs.YtncpokioagpclaaGreatDoor
/-- may the units be the beginning of a longer In? -/
def opens (rs : List (List Int × List Int)) (us : List Int) : Bool := (longL rs us).2.2
/-- where no more may come more units change nothing -/
theorem Good.shut {rs : List (List Int × List Int)} (h : Good rs) {a : List Int} (ho : opens rs a = false) (b : List Int) : longL rs (a ++ b) = longL rs a := by
  obtain ⟨k, n, o, h1, h2⟩ := h.long a
  unfold opens at ho
  rw [h1] at ho ⊢
  obtain rfl : o = false := ho
  have hno : ∀ r ∈ rs, a.length < r.1.length → r.1.take a.length ≠ a := fun r hr h3 h4 => by
    have := h2.op.2 ⟨r, hr, h3, h4⟩
    cases this
  refine longL_is (fun r hr => (h.side r hr).1) ⟨?_, ?_, ?_⟩
  · constructor
    · intro e; cases e
    · rintro ⟨r, hr, h3, h4⟩
      rw [List.length_append] at h3 h4
      refine absurd ?_ (hno r hr (by omega))
      have := congrArg (List.take a.length) h4
      rw [List.take_take, Nat.min_eq_left (by omega), List.take_left' rfl] at this
      exact this
  · intro r hr h3 h4
    rcases Nat.lt_or_ge a.length r.1.length with h5 | h5
    · refine absurd ?_ (hno r hr h5)
      rw [← h4, List.take_take, Nat.min_eq_left (by omega), List.take_left' rfl]
    · refine h2.max r hr h5 ?_
      rw [List.take_append_of_le_length h5] at h4
      exact h4
  · rcases h2.res with e | ⟨m, e1, e2, e3, e4, e5⟩
    · exact .inl e
    · refine .inr ⟨m, e1, e2, by rw [List.length_append]; omega, ?_, ?_⟩
      · rw [List.take_append_of_le_length e3]; exact e4
      · rw [List.take_append_of_le_length e3]; exact e5
theorem Good.shut_step {rs : List (List Int × List Int)} (h : Good rs) {a : List Int} (ho : opens rs a = false) (b : List Int) : stepT rs (a ++ b) = stepT rs a := by
  unfold stepT; rw [h.shut ho b]
/-- an open row of units is shorter than the longest In -/
theorem Good.open_lt {rs : List (List Int × List Int)} (h : Good rs) {a : List Int} (ho : opens rs a = true) : ∃ r ∈ rs, a.length < r.1.length ∧ r.1.take a.length = a := by
  obtain ⟨k, n, o, h1, h2⟩ := h.long a
  unfold opens at ho
  rw [h1] at ho
  exact h2.op.1 ho
/-- the tokens that are sure, what waits then, and how many units were looked at -/
def drain (rs : List (List Int × List Int)) (at_ : Int) : List Int → List Tk × List Int × Nat
  | [] => ([], [], 0)
  | u :: t => if opens rs (u :: t) = true then ([], u :: t, t.length + 1) else
      (⟨at_, (stepT rs (u :: t)).1, (stepT rs (u :: t)).2.2, (stepT rs (u :: t)).2.1⟩ :: (drain rs (at_ + (stepT rs (u :: t)).1) (t.drop ((stepT rs (u :: t)).1.toNat - 1))).1,
       (drain rs (at_ + (stepT rs (u :: t)).1) (t.drop ((stepT rs (u :: t)).1.toNat - 1))).2.1,
       (drain rs (at_ + (stepT rs (u :: t)).1) (t.drop ((stepT rs (u :: t)).1.toNat - 1))).2.2 + (t.length + 1))
termination_by us => us.length
decreasing_by all_goals (simp; omega)
theorem drain_nil (rs : List (List Int × List Int)) (at_ : Int) : drain rs at_ [] = ([], [], 0) := by rw [drain]
theorem drain_open {rs : List (List Int × List Int)} {at_ : Int} {us : List Int} (hu : us ≠ []) (ho : opens rs us = true) : drain rs at_ us = ([], us, us.length) := by
  cases us with
  | nil => exact absurd rfl hu
  | cons u t => rw [drain, if_pos ho]; rfl
theorem drain_cons {rs : List (List Int × List Int)} {at_ : Int} {us o : List Int} {s e : Int} (hu : us ≠ []) (ho : opens rs us = false) (hs : stepT rs us = (s, e, o)) (h1 : 1 ≤ s) :
    drain rs at_ us = (⟨at_, s, o, e⟩ :: (drain rs (at_ + s) (us.drop s.toNat)).1, (drain rs (at_ + s) (us.drop s.toNat)).2.1, (drain rs (at_ + s) (us.drop s.toNat)).2.2 + us.length) := by
  cases us with
  | nil => exact absurd rfl hu
  | cons u t =>
    rw [drain, if_neg (by rw [ho]; simp), hs]
    simp only
    obtain ⟨m, hm⟩ : ∃ m, s.toNat = m + 1 := ⟨s.toNat - 1, by omega⟩
    rw [hm]; rfl
/-- what is told and what waits is all that came -/
structure Drained (rs : List (List Int × List Int)) (at_ : Int) (us : List Int) (ts : List Tk) (rest : List Int) (n : Nat) : Prop where
  tail : ∃ pre, us = pre ++ rest
  all : ∀ more, rewA rs at_ (us ++ more) = ts ++ rewA rs (at_ + us.length - rest.length) (rest ++ more)
  open_ : rest = [] ∨ opens rs rest = true
  count : ts.length + rest.length ≤ us.length
  looks : ∀ L, us.length ≤ L → n ≤ L * ts.length + L
theorem Good.drained {rs : List (List Int × List Int)} (h : Good rs) (us : List Int) : ∀ at_ : Int, Drained rs at_ us (drain rs at_ us).1 (drain rs at_ us).2.1 (drain rs at_ us).2.2 := by
  refine h.along (fun us => ∀ at_ : Int, Drained rs at_ us (drain rs at_ us).1 (drain rs at_ us).2.1 (drain rs at_ us).2.2) ?_ ?_ us.length us (Nat.le_refl _)
  · intro at_
    rw [drain_nil]
    exact ⟨⟨[], rfl⟩, fun more => by simp, .inl rfl, by simp, by simp⟩
  · intro us s e o hu hs hp ih at_
    by_cases ho : opens rs us = true
    · rw [drain_open hu ho]
      refine ⟨⟨[], rfl⟩, fun more => ?_, .inr ho, by simp, fun L hL => by simp; omega⟩
      rw [show at_ + (us.length : Int) - us.length = at_ from by omega]; rfl
    · have ho' : opens rs us = false := by simpa using ho
      have h1 := hp.lo
      have h2 := hp.hi
      rw [drain_cons hu ho' hs hp.lo]
      obtain ⟨⟨pre, g1⟩, g2, g3, g4, g5⟩ := ih (at_ + s)
      rw [List.length_drop] at g2 g4 g5
      refine ⟨⟨us.take s.toNat ++ pre, ?_⟩, fun more => ?_, g3, ?_, fun L hL => ?_⟩
      · rw [List.append_assoc, ← g1, List.take_append_drop]
      · have hne : us ++ more ≠ [] := by simp [hu]
        rw [rewA_cons hne ((h.shut_step ho' more).trans hs) h1, List.drop_append_of_le_length (by omega), g2 more]
        rw [show at_ + s + ((us.length - s.toNat : Nat) : Int) = at_ + us.length from by omega]
        rfl
      · simp only [List.length_cons]; omega
      · have := g5 L (by omega)
        simp only [List.length_cons]
        rw [Nat.mul_add, Nat.mul_one]
        omega
/-- how many units are looked at till no unit waits -/
def looksE (rs : List (List Int × List Int)) : List Int → Nat
  | [] => 0
  | u :: t => (t.length + 1) + looksE rs (t.drop ((stepT rs (u :: t)).1.toNat - 1))
termination_by us => us.length
decreasing_by simp; omega
theorem looksE_nil (rs : List (List Int × List Int)) : looksE rs [] = 0 := by rw [looksE]
theorem looksE_cons {rs : List (List Int × List Int)} {us o : List Int} {s e : Int} (hu : us ≠ []) (hs : stepT rs us = (s, e, o)) (h1 : 1 ≤ s) : looksE rs us = us.length + looksE rs (us.drop s.toNat) := by
  cases us with
  | nil => exact absurd rfl hu
  | cons u t =>
    rw [looksE, hs]
    simp only
    obtain ⟨m, hm⟩ : ∃ m, s.toNat = m + 1 := ⟨s.toNat - 1, by omega⟩
    rw [hm]; rfl
theorem Good.looksE_le {rs : List (List Int × List Int)} (h : Good rs) (us : List Int) : ∀ L, us.length ≤ L → looksE rs us ≤ L * us.length := by
  refine h.along (fun us => ∀ L, us.length ≤ L → looksE rs us ≤ L * us.length) (fun L _ => by simp [looksE_nil]) ?_ us.length us (Nat.le_refl _)
  intro us s e o hu hs hp ih L hL
  have h1 := hp.lo
  have h2 := hp.hi
  rw [looksE_cons hu hs h1]
  have := ih L (by rw [List.length_drop]; omega)
  rw [List.length_drop] at this
  have h3 : L * (us.length - s.toNat) + L ≤ L * us.length := by
    rw [← Nat.mul_succ]; exact Nat.mul_le_mul_left _ (by omega)
  omega
end Go.Proofs.YtncpokioagpclaaGreatDoor
namespace Go.Proofs.YtncpokioagpclaaGreatDoor
/-- the tokens that are taken, what waits then, how many units were looked at: at an end, or not -/
def tkE (rs : List (List Int × List Int)) (e : Bool) (at_ : Int) (us : List Int) : List Tk × List Int × Nat := if e = true then (rewA rs at_ us, [], looksE rs us) else drain rs at_ us
theorem tkE_nil (rs : List (List Int × List Int)) (e : Bool) (at_ : Int) : tkE rs e at_ [] = ([], [], 0) := by
  cases e <;> simp [tkE, rewA_nil, looksE_nil, drain_nil]
theorem tkE_open {rs : List (List Int × List Int)} {at_ : Int} {us : List Int} (hu : us ≠ []) (ho : opens rs us = true) : tkE rs false at_ us = ([], us, us.length) := by
  simp [tkE, drain_open hu ho]
theorem tkE_cons {rs : List (List Int × List Int)} {e : Bool} {at_ : Int} {us o : List Int} {s x : Int} (hu : us ≠ []) (ho : e = true ∨ opens rs us = false) (hs : stepT rs us = (s, x, o)) (h1 : 1 ≤ s) :
    tkE rs e at_ us = (⟨at_, s, o, x⟩ :: (tkE rs e (at_ + s) (us.drop s.toNat)).1, (tkE rs e (at_ + s) (us.drop s.toNat)).2.1, (tkE rs e (at_ + s) (us.drop s.toNat)).2.2 + us.length) := by
  cases e with
  | true => simp only [tkE, if_true]; rw [rewA_cons hu hs h1, looksE_cons hu hs h1, Nat.add_comm]
  | false =>
    rcases ho with h | h
    · cases h
    · simp only [tkE]; exact drain_cons hu h hs h1
theorem Good.tkE_rest {rs : List (List Int × List Int)} (h : Good rs) (e : Bool) (at_ : Int) (us : List Int) : (tkE rs e at_ us).2.1.length ≤ us.length ∧ (tkE rs e at_ us).1.length ≤ us.length ∧ (tkE rs e at_ us).2.2 ≤ us.length * us.length + us.length ∧ (e = true → (tkE rs e at_ us).2.1 = []) ∧ ((tkE rs e at_ us).2.1 = [] ∨ opens rs (tkE rs e at_ us).2.1 = true) := by
  cases e with
  | true => exact ⟨by simp [tkE], by simp only [tkE, if_true]; exact h.rew_len us at_, by simp only [tkE, if_true]; have := h.looksE_le us _ (Nat.le_refl _); omega, fun _ => by simp [tkE], .inl (by simp [tkE])⟩
  | false =>
    have hd := h.drained us at_
    have e0 : tkE rs false at_ us = drain rs at_ us := by simp [tkE]
    rw [e0]
    have h1 := hd.count
    have h2 := hd.looks us.length (Nat.le_refl _)
    refine ⟨by omega, by omega, ?_, fun h => (by cases h), hd.open_⟩
    have : us.length * (drain rs at_ us).1.length ≤ us.length * us.length := Nat.mul_le_mul_left _ (by omega)
    omega
theorem opens_lt {rs : List (List Int × List Int)} (h : Good rs) {a : List Int} (ho : a = [] ∨ opens rs a = true) : a.length ≤ 7 := by
  rcases ho with rfl | ho
  · simp
  · obtain ⟨r, hr, h1, _⟩ := h.open_lt ho
    have := (h.side r hr).2.1
    omega
/-- cells vs laid from o on -/
def lays {α : Type} (xs : List α) (o : Nat) (vs : List α) : List α := xs.take o ++ vs ++ xs.drop (o + vs.length)
theorem lays_len {α : Type} {xs vs : List α} {o : Nat} (h : o + vs.length ≤ xs.length) : (lays xs o vs).length = xs.length := by
  simp [lays]; omega
theorem lays_map {α β : Type} (f : α → β) (xs vs : List α) (o : Nat) : lays (xs.map f) o (vs.map f) = (lays xs o vs).map f := by
  simp [lays, List.map_take, List.map_drop]
theorem lays_mid {α : Type} {a : α} {xs vs tl : List α} {o : Nat} (h : o + vs.length ≤ xs.length) : lays (a :: (xs ++ tl)) (o + 1) vs = a :: (lays xs o vs ++ tl) := by
  unfold lays
  rw [show o + 1 + vs.length = (o + vs.length) + 1 from by omega, List.take_succ_cons, List.drop_succ_cons, List.take_append_of_le_length (by omega), List.drop_append_of_le_length h]
  simp
/-- units that are moved to the front, and those behind cleared -/
theorem moved {xs q : List Int} {n : Nat} (_hx : xs.take q.length = q) (hq : q.length ≤ xs.length) (hn : n ≤ q.length) : (lays (lays xs 0 (q.drop n)) (q.length - n) (List.replicate n 0)).take (q.length - n) = q.drop n ∧ (lays (lays xs 0 (q.drop n)) (q.length - n) (List.replicate n 0)).length = xs.length := by
  have h1 : (lays xs 0 (q.drop n)).length = xs.length := lays_len (by simp; omega)
  refine ⟨?_, by rw [lays_len (by rw [h1]; simp; omega), h1]⟩
  unfold lays
  rw [List.append_assoc, List.take_append_of_le_length (by simp), List.take_take, Nat.min_self]
  rw [List.take_zero, List.nil_append, List.take_append_of_le_length (by simp), List.take_of_length_le (by simp)]
/-- a unit laid behind those that wait -/
theorem laid1 {xs q : List Int} {u : Int} (hx : xs.take q.length = q) (hq : q.length < xs.length) : (xs.set q.length u).take (q ++ [u]).length = q ++ [u] := by
  rw [List.length_append, List.length_singleton, List.take_succ_eq_append_getElem (by simpa using hq), List.getElem_set_self]
  congr 1
  rw [List.take_set_of_le (Nat.le_refl _)]; exact hx
end Go.Proofs.YtncpokioagpclaaGreatDoor
namespace Go.Proofs.YtncpokioagpclaaGreatDoor
end Go.Proofs.YtncpokioagpclaaGreatDoor
namespace Go.Proofs.YtncpokioagpclaaGreatDoor
set_option linter.unusedVariables false
set_option linter.unusedSimpArgs false
/-- the row behind K tokens: a stands ahead -/
def mixF (rs : List (List Int × List Int)) (a : List Int) (ts : List Tk) (K : Nat) : List Tk := encF rs a (ts.take K) ++ ts.drop K
def ahF (rs : List (List Int × List Int)) (a : List Int) (ts : List Tk) (K : Nat) : List Int := aheadF a (encF rs a (ts.take K))
variable {rs : List (List Int × List Int)} {a : List Int} {ts : List Tk} {K : Nat}
theorem mixF_len (rs : List (List Int × List Int)) (a : List Int) (ts : List Tk) (K : Nat) : (mixF rs a ts K).length = ts.length := by
  unfold mixF; rw [List.length_append, encF_len, List.length_take, List.length_drop]; omega
theorem mixF_zero (rs : List (List Int × List Int)) (a : List Int) (ts : List Tk) : mixF rs a ts 0 = ts := by simp [mixF, encF]
theorem mixF_all (h : ts.length ≤ K) : mixF rs a ts K = encF rs a ts := by
  unfold mixF; rw [List.take_of_length_le h, List.drop_of_length_le h, List.append_nil]
theorem ahF_all (h : ts.length ≤ K) : ahF rs a ts K = aheadF a (encF rs a ts) := by
  unfold ahF; rw [List.take_of_length_le h]
theorem mixF_at (h : K < ts.length) : (mixF rs a ts K)[K]'(by rw [mixF_len]; exact h) = ts[K] := by
  have hl : (encF rs a (ts.take K)).length = K := by rw [encF_len, List.length_take]; omega
  unfold mixF
  rw [List.getElem_append_right (by omega)]
  simp [hl]
theorem mixF_next (h : K < ts.length) : mixF rs a ts (K + 1) = (mixF rs a ts K).set K (joinT rs (ahF rs a ts K) ts[K]) := by
  have hl : (encF rs a (ts.take K)).length = K := by rw [encF_len, List.length_take]; omega
  unfold mixF ahF
  rw [encF_take h, List.drop_eq_getElem_cons h, List.set_append_right (i := K) (h := by omega), hl, Nat.sub_self, List.set_cons_zero, List.append_assoc]
  rfl
theorem ahF_next (h : K < ts.length) : ahF rs a ts (K + 1) = if (joinT rs (ahF rs a ts K) ts[K]).err = 0 then (joinT rs (ahF rs a ts K) ts[K]).out else ahF rs a ts K := aheadF_take h
theorem ahF_zero (rs : List (List Int × List Int)) (a : List Int) (ts : List Tk) : ahF rs a ts 0 = a := rfl
theorem ahF_small (ha : a.length ≤ 8) (h : ∀ t ∈ ts, t.out.length ≤ 8) : ∀ K, K ≤ ts.length → (ahF rs a ts K).length ≤ 8
  | 0, _ => by rw [ahF_zero]; exact ha
  | K + 1, hK => by
    rw [ahF_next (by omega)]
    have ih := ahF_small ha h K (by omega)
    split
    · unfold joinT
      split
      · simp
      · exact h _ (List.getElem_mem _)
    · exact ih
theorem joinT_small {t : Tk} (h : t.out.length ≤ 8) : (joinT rs a t).out.length ≤ 8 := by unfold joinT; split <;> simp [h]
end Go.Proofs.YtncpokioagpclaaGreatDoor
namespace Go.Proofs.YtncpokioagpclaaGreatDoor
set_option linter.unusedVariables false
set_option linter.unusedSimpArgs false
set_option linter.unnecessarySimpa false
/-- are all the beginnings of one In there? -/
def okR (rs : List (List Int × List Int)) (r : List Int × List Int) : Bool := (List.range r.1.length).all fun n => decide (n = 0) || closeAt rs r n
theorem okR_yes {rs : List (List Int × List Int)} {r : List Int × List Int} (h : ∀ m, 1 ≤ m → m < r.1.length → closeAt rs r m = true) : okR rs r = true := by
  refine List.all_eq_true.2 fun m hm => ?_
  have := List.mem_range.1 hm
  by_cases h0 : m = 0
  · simp [h0]
  · simp [h m (by omega) this]
theorem okR_no {rs : List (List Int × List Int)} {r : List Int × List Int} {m : Nat} (h1 : 1 ≤ m) (h2 : m < r.1.length) (h : closeAt rs r m = false) : okR rs r = false := by
  rw [Bool.eq_false_iff]; intro hk
  have := List.all_eq_true.1 hk m (List.mem_range.2 h2)
  rw [h] at this
  simp at this
  omega
theorem closedR_no {rs : List (List Int × List Int)} {K : Nat} (hK : K < rs.length) (h : okR rs rs[K] = false) : closedR rs = false := by
  rw [Bool.eq_false_iff]; intro hk
  have := List.all_eq_true.1 hk _ (List.getElem_mem hK)
  have h' : okR rs rs[K] = true := this
  rw [h] at h'; cases h'
theorem closedR_yes {rs : List (List Int × List Int)} (h : ∀ r ∈ rs, okR rs r = true) : closedR rs = true := List.all_eq_true.2 h
def isT (u : List Int) (x : List Int × List Int) : Bool := decide (x.1 = u)
def endsT (u : Int) (x : List Int × List Int) : Bool := decide (x.1.getD (x.1.length - 1) 0 = u)
theorem any_take {rs : List (List Int × List Int)} {p : List Int × List Int → Bool} {I : Nat} (hI : I < rs.length) : (rs.take (I + 1)).any p = ((rs.take I).any p || p rs[I]) := by
  rw [List.take_succ_eq_append_getElem hI, List.any_append]; simp
theorem closeAt_eq (rs : List (List Int × List Int)) (r : List Int × List Int) (n : Nat) : closeAt rs r n = (rs.any (isT (r.1.take n)) || (decide (n = 1) && !rs.any (endsT (r.1.getD 0 0)))) := rfl

end Go.Proofs.YtncpokioagpclaaGreatDoor
namespace Go.Proofs.YtncpokioagpclaaGreatDoor
set_option linter.unusedVariables false
theorem joinT_len {rs : List (List Int × List Int)} {ah : List Int} {t : Tk} (h : t.out.length ≤ 8) : (joinT rs ah t).out.length ≤ 8 := by
  unfold joinT; split
  · simp
  · exact h
theorem encF_out (rs : List (List Int × List Int)) : ∀ (ts : List Tk) (ah : List Int), (∀ t ∈ ts, t.out.length ≤ 8) → ∀ t ∈ encF rs ah ts, t.out.length ≤ 8
  | [], ah, _, t, h => by cases h
  | x :: ts, ah, hs, t, h => by
    simp only [encF, List.mem_cons] at h
    rcases h with rfl | h
    · exact joinT_len (hs x (by simp))
    · exact encF_out rs ts _ (fun y hy => hs y (by simp [hy])) t h
theorem rewA_out {rs : List (List Int × List Int)} (ht : Good rs) (us : List Int) (q : Int) : ∀ t ∈ rewA rs q us, t.out.length ≤ 8 := fun t h => (ht.rew_tk us q t h).len
end Go.Proofs.YtncpokioagpclaaGreatDoor
