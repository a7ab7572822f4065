/- Layer 4, plainly: a trie's nodes, and the paths that they stand for. No program is named here. -/
import Derived.Test.YtgjmclbcmfkhdaaDoorRuleM
namespace Go.Proofs.YtgjmclbcmfkhdaaDoor
/-- how many of the units lie below u: where u stands, or would -/
def posN (zs : List Int) (u : Int) : Nat := zs.countP (· < u)
theorem posN_le (zs : List Int) (u : Int) : posN zs u ≤ zs.length := List.countP_le_length
/-- a list with u put in ahead of element i -/
def insL (zs : List Int) (i : Nat) (u : Int) : List Int := zs.take i ++ u :: zs.drop i
theorem insL_len (zs : List Int) (i : Nat) (u : Int) (h : i ≤ zs.length) : (insL zs i u).length = zs.length + 1 := by simp [insL]; omega
theorem insL_get (zs : List Int) (i : Nat) (u : Int) (h : i ≤ zs.length) (j : Nat) : (insL zs i u)[j]? = if j < i then zs[j]? else if j = i then some u else zs[j - 1]? := by
  unfold insL
  by_cases h1 : j < i
  · rw [if_pos h1, List.getElem?_append_left (by simp; omega), List.getElem?_take, if_pos h1]
  · rw [if_neg h1, List.getElem?_append_right (by simp; omega)]
    by_cases h2 : j = i
    · subst h2; rw [if_pos rfl]; simp [Nat.min_eq_left h]
    · rw [if_neg h2, List.length_take, Nat.min_eq_left h, show j - i = (j - i - 1) + 1 from by omega, List.getElem?_cons_succ, List.getElem?_drop, show i + (j - i - 1) = j - 1 from by omega]
theorem posN_split : ∀ (zs : List Int) (u : Int), zs.Pairwise (· < ·) → (∀ a ∈ zs.take (posN zs u), a < u) ∧ (∀ b ∈ zs.drop (posN zs u), u ≤ b)
  | [], u, _ => by simp [posN]
  | a :: zs, u, h => by
    have h1 := List.pairwise_cons.1 h
    by_cases ha : a < u
    · have e : posN (a :: zs) u = posN zs u + 1 := by simp [posN, ha]
      obtain ⟨g1, g2⟩ := posN_split zs u h1.2
      rw [e, List.take_succ_cons, List.drop_succ_cons]
      exact ⟨by intro b hb; rcases List.mem_cons.1 hb with rfl | hb; exact ha; exact g1 b hb, g2⟩
    · have e : posN (a :: zs) u = 0 := by
        simp only [posN, List.countP_eq_zero, decide_eq_true_eq]
        intro b hb
        rcases List.mem_cons.1 hb with rfl | hb
        · exact ha
        · have := h1.1 b hb; omega
      rw [e]
      refine ⟨by simp, ?_⟩
      intro b hb
      rcases List.mem_cons.1 (by simpa using hb) with rfl | hb
      · omega
      · have := h1.1 b hb; omega
theorem mem_insL {zs : List Int} {i : Nat} {u v : Int} : v ∈ insL zs i u ↔ v = u ∨ v ∈ zs := by
  have : v ∈ zs ↔ v ∈ zs.take i ∨ v ∈ zs.drop i := by rw [← List.mem_append, List.take_append_drop]
  unfold insL
  rw [this]
  simp only [List.mem_append, List.mem_cons]
  constructor
  · rintro (h | h | h)
    · exact .inr (.inl h)
    · exact .inl h
    · exact .inr (.inr h)
  · rintro (h | h | h)
    · exact .inr (.inl h)
    · exact .inl h
    · exact .inr (.inr h)
theorem insL_sorted {zs : List Int} {u : Int} (h : zs.Pairwise (· < ·)) (hu : u ∉ zs) : (insL zs (posN zs u) u).Pairwise (· < ·) := by
  obtain ⟨h1, h2⟩ := posN_split zs u h
  have h3 : ∀ b ∈ zs.drop (posN zs u), u < b := fun b hb => by
    have := h2 b hb
    have hne : b ≠ u := fun e => hu (e ▸ List.mem_of_mem_drop hb)
    omega
  refine List.pairwise_append.2 ⟨h.sublist (List.take_sublist _ _), List.pairwise_cons.2 ⟨h3, h.sublist (List.drop_sublist _ _)⟩, ?_⟩
  intro a ha b hb
  have := h1 a ha
  rcases List.mem_cons.1 hb with rfl | hb
  · exact this
  · have := h3 b hb; omega
theorem posN_at {zs : List Int} {u : Int} (h : zs.Pairwise (· < ·)) (hu : u ∈ zs) : zs[posN zs u]? = some u := by
  obtain ⟨h1, h2⟩ := posN_split zs u h
  have hm : u ∈ zs.drop (posN zs u) := by
    have : u ∈ zs.take (posN zs u) ++ zs.drop (posN zs u) := by rw [List.take_append_drop]; exact hu
    rcases List.mem_append.1 this with h | h
    · have := h1 u h; omega
    · exact h
  have hp := h.sublist (List.drop_sublist (posN zs u) zs)
  cases hd : zs.drop (posN zs u) with
  | nil => rw [hd] at hm; cases hm
  | cons b t =>
    rw [hd] at hm hp h2
    have hb := h2 b (by simp)
    have hub : u = b := by
      rcases List.mem_cons.1 hm with e | e
      · exact e
      · have := (List.pairwise_cons.1 hp).1 u e; omega
    have : (zs.drop (posN zs u))[0]? = some b := by rw [hd]; rfl
    rw [List.getElem?_drop] at this
    rw [hub]; rw [hub] at this; simpa using this

/-- where a path stands -/
def idxP : List (List Int) → List Int → Nat
  | [], _ => 0
  | y :: P, x => if y = x then 0 else idxP P x + 1
theorem idxP_lt : ∀ {P : List (List Int)} {x : List Int}, x ∈ P → idxP P x < P.length ∧ P[idxP P x]? = some x
  | y :: P, x, h => by
    simp only [idxP]
    by_cases e : y = x
    · rw [if_pos e]; exact ⟨by simp, by rw [e]; rfl⟩
    · rw [if_neg e]
      obtain ⟨h1, h2⟩ := idxP_lt (P := P) (x := x) (by rcases List.mem_cons.1 h with h | h; exact absurd h.symm e; exact h)
      exact ⟨by simp; omega, by simpa using h2⟩
theorem idxP_app : ∀ {P : List (List Int)} {x : List Int} (Q : List (List Int)), x ∈ P → idxP (P ++ Q) x = idxP P x
  | y :: P, x, Q, h => by
    simp only [List.cons_append, idxP]
    by_cases e : y = x
    · rw [if_pos e, if_pos e]
    · rw [if_neg e, if_neg e, idxP_app (P := P) Q (by rcases List.mem_cons.1 h with h | h; exact absurd h.symm e; exact h)]
theorem idxP_new : ∀ {P : List (List Int)} {x : List Int}, x ∉ P → idxP (P ++ [x]) x = P.length
  | [], x, _ => by simp [idxP]
  | y :: P, x, h => by
    simp only [List.cons_append, idxP]
    rw [if_neg (fun e => h (by simp [e])), idxP_new (fun e => h (by simp [e]))]
    simp
theorem idxP_of {P : List (List Int)} {x : List Int} {m : Nat} (hn : P.Nodup) (h : P[m]? = some x) : idxP P x = m := by
  have hm : m < P.length := by
    rcases Nat.lt_or_ge m P.length with hh | hh
    · exact hh
    · rw [List.getElem?_eq_none hh] at h; cases h
  have hx : x ∈ P := List.mem_of_getElem? h
  obtain ⟨h1, h2⟩ := idxP_lt hx
  have := (List.getElem?_inj h1 hn).1 (h2.trans h.symm)
  exact this

structure NodeM where
  rule : Int
  units : List Int
  next : List Int
/-- a node tells what its path says -/
structure NI (P : List (List Int)) (f : List Int → Int) (x : List Int) (nd : NodeM) : Prop where
  rule : nd.rule = f x
  lens : nd.next.length = nd.units.length
  small : nd.units.length ≤ P.length
  sorted : nd.units.Pairwise (· < ·)
  units : ∀ u, u ∈ nd.units ↔ x ++ [u] ∈ P
  next : ∀ (j : Nat) (u : Int), nd.units[j]? = some u → nd.next[j]? = some (idxP P (x ++ [u]) : Int)
structure TI (P : List (List Int)) (ns : List NodeM) (f : List Int → Int) : Prop where
  len : ns.length = P.length
  root : P[0]? = some []
  nodup : P.Nodup
  closed : ∀ x u, x ++ [u] ∈ P → x ∈ P
  frame : ∀ x, x ∉ P → f x = -1
  node : ∀ (k : Nat) nd x, ns[k]? = some nd → P[k]? = some x → NI P f x nd
theorem TI.new : TI [[]] [⟨-1, [], []⟩] (fun _ => -1) := by
  refine ⟨rfl, rfl, by simp, by simp, fun _ _ => rfl, ?_⟩
  intro k nd x h1 h2
  match k with
  | 0 =>
    simp at h1 h2
    subst h1 h2
    exact ⟨rfl, rfl, by simp, by simp, by simp, by simp⟩
  | k + 1 => simp at h1
theorem app_one_inj {x y : List Int} {u v : Int} (h : x ++ [u] = y ++ [v]) : x = y ∧ u = v := by
  have := List.append_inj' h rfl
  exact ⟨this.1, by simpa using this.2⟩
/-- behind a path of the trie a unit leads on just where the node says so -/
theorem TI.kid {P : List (List Int)} {ns : List NodeM} {f : List Int → Int} (h : TI P ns f) {k : Nat} {nd : NodeM} {x : List Int} {u : Int} (hk : ns[k]? = some nd) (hx : P[k]? = some x) (hu : u ∈ nd.units) : nd.next[posN nd.units u]? = some (idxP P (x ++ [u]) : Int) :=
  (h.node k nd x hk hx).next _ _ (posN_at (h.node k nd x hk hx).sorted hu)
theorem TI.add {P : List (List Int)} {ns : List NodeM} {f : List Int → Int} (h : TI P ns f) {k : Nat} {nd : NodeM} {x : List Int} {u : Int} (hk : ns[k]? = some nd) (hx : P[k]? = some x) (hu : u ∉ nd.units) :
    TI (P ++ [x ++ [u]]) (ns.set k ⟨nd.rule, insL nd.units (posN nd.units u) u, insL nd.next (posN nd.units u) (P.length : Int)⟩ ++ [⟨-1, [], []⟩]) f := by
  have hn := h.node k nd x hk hx
  have hnew : x ++ [u] ∉ P := fun e => hu ((hn.units u).2 e)
  have hxP : x ∈ P := List.mem_of_getElem? hx
  have hkl : k < ns.length := by
    rcases Nat.lt_or_ge k ns.length with hh | hh
    · exact hh
    · rw [List.getElem?_eq_none hh] at hk; cases hk
  have hkP : k < P.length := by rw [← h.len]; exact hkl
  have hp := posN_le nd.units u
  refine ⟨by simp [h.len], ?_, ?_, ?_, ?_, ?_⟩
  · rw [List.getElem?_append_left (by omega)]; exact h.root
  · refine List.nodup_append.2 ⟨h.nodup, by simp, ?_⟩
    intro a ha b hb
    obtain rfl : b = x ++ [u] := by simpa using hb
    intro e; exact hnew (e ▸ ha)
  · intro y v hy
    rcases List.mem_append.1 hy with hy | hy
    · exact List.mem_append.2 (.inl (h.closed y v hy))
    · have := app_one_inj (by simpa using hy)
      exact List.mem_append.2 (.inl (by rw [this.1]; exact hxP))
  · intro y hy
    exact h.frame y fun e => hy (List.mem_append.2 (.inl e))
  · intro j md y h1 h2
    have hjl : j < ns.length + 1 := by
      rcases Nat.lt_or_ge j (ns.length + 1) with hh | hh
      · exact hh
      · rw [List.getElem?_eq_none (by simpa using hh)] at h1; cases h1
    by_cases hj : j = ns.length
    · subst hj
      rw [List.getElem?_append_right (by simp)] at h1
      simp at h1
      rw [h.len, List.getElem?_append_right (by simp)] at h2
      simp at h2
      subst h1 h2
      refine ⟨(h.frame _ hnew).symm, rfl, by simp, by simp, ?_, by simp⟩
      intro v
      constructor
      · intro hv; cases hv
      · intro hv
        rcases List.mem_append.1 hv with hv | hv
        · exact absurd (h.closed _ _ hv) hnew
        · simp at hv
    · have hjl2 : j < P.length := by have := h.len; omega
      rw [List.getElem?_append_left (by simp; omega)] at h1
      rw [List.getElem?_append_left hjl2] at h2
      by_cases hjk : j = k
      · subst hjk
        rw [List.getElem?_set_self hkl] at h1
        injection h1 with h1
        obtain rfl : y = x := by rw [hx] at h2; injection h2 with h2; exact h2.symm
        subst h1
        refine ⟨hn.rule, ?_, ?_, insL_sorted hn.sorted hu, ?_, ?_⟩
        · show (insL nd.next _ _).length = (insL nd.units _ _).length
          rw [insL_len _ _ _ hp, insL_len _ _ _ (by rw [hn.lens]; exact hp), hn.lens]
        · show (insL nd.units _ _).length ≤ _
          rw [insL_len _ _ _ hp]; simp; exact hn.small
        · intro v
          show v ∈ insL nd.units _ _ ↔ _
          rw [mem_insL, hn.units, List.mem_append]
          constructor
          · rintro (rfl | e)
            · exact .inr (by simp)
            · exact .inl e
          · rintro (e | e)
            · exact .inr e
            · exact .inl (app_one_inj (List.mem_singleton.1 e)).2
        · intro i v
          show (insL nd.units _ _)[i]? = some v → (insL nd.next _ _)[i]? = _
          rw [insL_get _ _ _ hp, insL_get _ _ _ (by rw [hn.lens]; exact hp)]
          intro hv
          by_cases h3 : i < posN nd.units u
          · rw [if_pos h3] at hv ⊢
            rw [hn.next _ _ hv, idxP_app _ ((hn.units v).1 (List.mem_of_getElem? hv))]
          · rw [if_neg h3] at hv ⊢
            by_cases h4 : i = posN nd.units u
            · rw [if_pos h4] at hv ⊢
              obtain rfl : u = v := by simpa using hv
              rw [idxP_new hnew]
            · rw [if_neg h4] at hv ⊢
              rw [hn.next _ _ hv, idxP_app _ ((hn.units v).1 (List.mem_of_getElem? hv))]
      · rw [List.getElem?_set_ne (fun e => hjk e.symm)] at h1
        have hm := h.node j md y h1 h2
        have hyx : y ≠ x := fun e => hjk (by rw [e] at h2; rw [← idxP_of h.nodup h2, idxP_of h.nodup hx])
        refine ⟨hm.rule, hm.lens, by have := hm.small; simp; omega, hm.sorted, ?_, ?_⟩
        · intro v
          rw [hm.units, List.mem_append]
          exact ⟨.inl, fun e => e.elim id fun e => absurd (app_one_inj (List.mem_singleton.1 e)).1 hyx⟩
        · intro i v hv
          rw [hm.next _ _ hv, idxP_app _ ((hm.units v).1 (List.mem_of_getElem? hv))]
theorem TI.put {P : List (List Int)} {ns : List NodeM} {f : List Int → Int} (h : TI P ns f) {k : Nat} {nd : NodeM} {x : List Int} (K : Int) (hk : ns[k]? = some nd) (hx : P[k]? = some x) :
    TI P (ns.set k ⟨K, nd.units, nd.next⟩) (fun y => if y = x then K else f y) := by
  have hn := h.node k nd x hk hx
  have hkl : k < ns.length := by
    rcases Nat.lt_or_ge k ns.length with hh | hh
    · exact hh
    · rw [List.getElem?_eq_none hh] at hk; cases hk
  refine ⟨by simp [h.len], h.root, h.nodup, h.closed, ?_, ?_⟩
  · intro y hy
    show (if y = x then K else f y) = -1
    rw [if_neg (fun e : y = x => hy (by rw [e]; exact List.mem_of_getElem? hx))]
    exact h.frame y hy
  · intro j md y h1 h2
    by_cases hjk : j = k
    · subst hjk
      rw [List.getElem?_set_self hkl] at h1
      injection h1 with h1
      obtain rfl : y = x := by rw [hx] at h2; injection h2 with h2; exact h2.symm
      subst h1
      exact ⟨by show K = if y = y then K else f y; rw [if_pos rfl], hn.lens, hn.small, hn.sorted, hn.units, hn.next⟩
    · rw [List.getElem?_set_ne (fun e => hjk e.symm)] at h1
      have hm := h.node j md y h1 h2
      have hyx : y ≠ x := fun e => hjk (by rw [e] at h2; rw [← idxP_of h.nodup h2, idxP_of h.nodup hx])
      exact ⟨by show md.rule = if y = x then K else f y; rw [if_neg hyx]; exact hm.rule, hm.lens, hm.small, hm.sorted, hm.units, hm.next⟩

def addP (P : List (List Int)) (x : List Int) : List (List Int) := if x ∈ P then P else P ++ [x]
theorem mem_addP {P : List (List Int)} {x y : List Int} : y ∈ addP P x ↔ y ∈ P ∨ y = x := by
  unfold addP; split
  · rename_i h
    exact ⟨.inl, fun e => e.elim id fun e => e ▸ h⟩
  · simp
theorem addP_len (P : List (List Int)) (x : List Int) : P.length ≤ (addP P x).length ∧ (addP P x).length ≤ P.length + 1 := by
  unfold addP; split <;> simp
def growP (P : List (List Int)) (pre : List Int) : List Int → List (List Int)
  | [] => P
  | u :: us => growP (addP P (pre ++ [u])) (pre ++ [u]) us
def pathsFrom (P : List (List Int)) : List (List Int × List Int) → List (List Int)
  | [] => P
  | r :: rs => pathsFrom (growP P [] r.1) rs
def pathsR (rs : List (List Int × List Int)) : List (List Int) := pathsFrom [[]] rs
theorem growP_len : ∀ (us : List Int) (P : List (List Int)) (pre : List Int), P.length ≤ (growP P pre us).length ∧ (growP P pre us).length ≤ P.length + us.length
  | [], P, _ => by simp [growP]
  | u :: us, P, pre => by
    have h1 := addP_len P (pre ++ [u])
    have h2 := growP_len us (addP P (pre ++ [u])) (pre ++ [u])
    simp only [growP, List.length_cons]; omega
theorem mem_growP : ∀ {us : List Int} {P : List (List Int)} {pre x : List Int}, x ∈ growP P pre us ↔ x ∈ P ∨ ∃ j, 1 ≤ j ∧ j ≤ us.length ∧ x = pre ++ us.take j
  | [], P, pre, x => by
    simp only [growP, List.length_nil]
    constructor
    · exact .inl
    · rintro (h | ⟨j, h1, h2, _⟩)
      · exact h
      · omega
  | u :: us, P, pre, x => by
    simp only [growP]
    rw [mem_growP, mem_addP]
    constructor
    · rintro ((h | h) | ⟨j, h1, h2, h3⟩)
      · exact .inl h
      · exact .inr ⟨1, by omega, by simp, by rw [h]; simp⟩
      · exact .inr ⟨j + 1, by omega, by simp; omega, by rw [h3]; simp⟩
    · rintro (h | ⟨j, h1, h2, h3⟩)
      · exact .inl (.inl h)
      · by_cases hj : j = 1
        · subst hj; exact .inl (.inr (by rw [h3]; simp))
        · obtain ⟨i, rfl⟩ : ∃ i, j = i + 1 := ⟨j - 1, by omega⟩
          exact .inr ⟨i, by omega, by simp at h2; exact h2, by rw [h3]; simp⟩
theorem mem_pathsFrom : ∀ {rs : List (List Int × List Int)} {P : List (List Int)} {x : List Int}, x ∈ pathsFrom P rs ↔ x ∈ P ∨ ∃ r ∈ rs, ∃ j, 1 ≤ j ∧ j ≤ r.1.length ∧ x = r.1.take j
  | [], P, x => by simp [pathsFrom]
  | r :: rs, P, x => by
    simp only [pathsFrom]
    rw [mem_pathsFrom, mem_growP]
    constructor
    · rintro ((h | ⟨j, h1, h2, h3⟩) | ⟨s, hs, h⟩)
      · exact .inl h
      · exact .inr ⟨r, by simp, j, h1, h2, by simpa using h3⟩
      · exact .inr ⟨s, by simp [hs], h⟩
    · rintro (h | ⟨s, hs, j, h1, h2, h3⟩)
      · exact .inl (.inl h)
      · rcases List.mem_cons.1 hs with rfl | hs
        · exact .inl (.inr ⟨j, h1, h2, by simpa using h3⟩)
        · exact .inr ⟨s, hs, j, h1, h2, h3⟩
theorem mem_paths {rs : List (List Int × List Int)} {x : List Int} : x ∈ pathsR rs ↔ x = [] ∨ ∃ r ∈ rs, ∃ j, 1 ≤ j ∧ j ≤ r.1.length ∧ x = r.1.take j := by
  unfold pathsR; rw [mem_pathsFrom]; simp
theorem paths_snoc : ∀ (rs : List (List Int × List Int)) (P : List (List Int)) (r : List Int × List Int), pathsFrom P (rs ++ [r]) = growP (pathsFrom P rs) [] r.1
  | [], P, r => rfl
  | s :: rs, P, r => by simp only [List.cons_append, pathsFrom]; exact paths_snoc rs _ r
theorem paths_take {rs : List (List Int × List Int)} {K : Nat} (hK : K < rs.length) : pathsR (rs.take (K + 1)) = growP (pathsR (rs.take K)) [] rs[K].1 := by
  rw [List.take_succ_eq_append_getElem hK]; exact paths_snoc _ _ _
theorem growP_snoc : ∀ (us : List Int) (P : List (List Int)) (pre : List Int) (u : Int), growP P pre (us ++ [u]) = addP (growP P pre us) (pre ++ us ++ [u])
  | [], P, pre, u => by simp [growP]
  | v :: us, P, pre, u => by simp only [List.cons_append, growP]; rw [growP_snoc us]; simp
theorem growP_take {P : List (List Int)} {us : List Int} {j : Nat} (hj : j < us.length) : growP P [] (us.take (j + 1)) = addP (growP P [] (us.take j)) (us.take j ++ [us[j]]) := by
  rw [List.take_succ_eq_append_getElem hj, growP_snoc]; simp
theorem grow_in {P : List (List Int)} {us : List Int} {j : Nat} (h0 : [] ∈ P) (hj : j ≤ us.length) : us.take j ∈ growP P [] (us.take j) := by
  rw [mem_growP]
  by_cases h : j = 0
  · subst h; exact .inl (by simpa using h0)
  · exact .inr ⟨j, by omega, by simp; omega, by rw [List.take_take, Nat.min_self]; rfl⟩

/-- what stands behind is found as it is ahead -/
theorem find_app (rs : List (List Int × List Int)) (r : List Int × List Int) (x : List Int) : findR (rs ++ [r]) x = if 0 ≤ findR rs x then findR rs x else if r.1 = x then (rs.length : Int) else -1 := by
  have : ∀ (rs : List (List Int × List Int)) (k : Int), 0 ≤ k → findFrom k (rs ++ [r]) x = if 0 ≤ findFrom k rs x then findFrom k rs x else if r.1 = x then k + rs.length else -1 := by
    intro rs
    induction rs with
    | nil =>
      intro k hk
      simp only [List.nil_append, findFrom, List.length_nil]
      rw [if_neg (show ¬ (0 : Int) ≤ -1 by omega)]
      split <;> simp
    | cons s rs ih =>
      intro k hk
      simp only [List.cons_append, findFrom]
      by_cases e : s.1 = x
      · simp only [if_pos e]; rw [if_pos hk]
      · simp only [if_neg e]
        rw [ih (k + 1) (by omega)]
        split
        · rfl
        · split
          · simp; omega
          · rfl
  have h := this rs 0 (by omega)
  unfold findR
  rw [h]
  split
  · rfl
  · split <;> simp
theorem apart_at : ∀ (rs acc : List (List Int × List Int)) (K : Nat) (hK : K < rs.length), Apart acc rs → ∀ s ∈ acc ++ rs.take K, s.1 ≠ rs[K].1
  | r :: rs, acc, 0, _, h => by simpa using h.1
  | r :: rs, acc, K + 1, hK, h => by
    intro s hs
    have := apart_at rs (acc ++ [r]) K (by simpa using hK) h.2 s (by simpa using hs)
    simpa using this
theorem put_find {rs : List (List Int × List Int)} {K : Nat} (hK : K < rs.length) (hf : findR (rs.take K) rs[K].1 < 0) : (fun y => if y = rs[K].1 then (K : Int) else findR (rs.take K) y) = findR (rs.take (K + 1)) := by
  funext y
  rw [List.take_succ_eq_append_getElem hK, find_app]
  have hl : (rs.take K).length = K := by simp; omega
  by_cases e : y = rs[K].1
  · subst e
    rw [if_pos rfl, if_neg (by omega), if_pos rfl, hl]
  · rw [if_neg e]
    have hlo := findR_lo (rs.take K) y
    split
    · rfl
    · rw [if_neg (fun h => e h.symm)]; omega
theorem check_good : ∀ (rs done : List (List Int × List Int)) (k : Int), checkFrom k done rs = (-1, 0) → 0 ≤ k → k + rs.length ≤ 512 ∧ (∀ r ∈ rs, sideB r.1 = true ∧ sideB r.2 = true) ∧ Apart done rs ∨ (rs = [])
  | [], done, k, _, _ => .inr rfl
  | r :: rs, done, k, h, hk => by
    left
    simp only [checkFrom] at h
    by_cases h1 : 512 ≤ k
    · rw [if_pos h1] at h; simp at h
    · rw [if_neg h1] at h
      by_cases h2 : (sideB r.1 && sideB r.2) = false
      · rw [if_pos h2] at h; simp at h
      · rw [if_neg h2] at h
        by_cases h3 : 0 ≤ findR done r.1
        · rw [if_pos h3] at h; simp at h
        · rw [if_neg h3] at h
          have h4 : sideB r.1 = true ∧ sideB r.2 = true := by simpa using h2
          have h5 := findR_neg.1 (show findR done r.1 < 0 by omega)
          rcases check_good rs _ (k + 1) h (by omega) with ⟨g1, g2, g3⟩ | g
          · refine ⟨by simp; omega, ?_, h5, g3⟩
            intro s hs
            rcases List.mem_cons.1 hs with rfl | hs
            · exact h4
            · exact g2 s hs
          · subst g
            refine ⟨by simp; omega, ?_, h5, trivial⟩
            intro s hs
            obtain rfl : s = r := by simpa using hs
            exact h4
/-- rules of which nothing is wrong -/
structure Good (rs : List (List Int × List Int)) : Prop where
  many : rs.length ≤ 512
  side : ∀ r ∈ rs, 1 ≤ r.1.length ∧ r.1.length ≤ 8 ∧ 1 ≤ r.2.length ∧ r.2.length ≤ 8 ∧ (∀ u ∈ r.1, 0 ≤ u ∧ u ≤ 1114111)
  apart : Apart [] rs
theorem good_of {rs : List (List Int × List Int)} (h : checkR rs = (-1, 0)) : Good rs := by
  rcases check_good rs [] 0 h (by omega) with ⟨g1, g2, g3⟩ | g
  · refine ⟨by omega, ?_, g3⟩
    intro r hr
    obtain ⟨h1, h2⟩ := g2 r hr
    simp only [sideB, decide_eq_true_eq] at h1 h2
    exact ⟨h1.1, h1.2.1, h2.1, h2.2.1, h1.2.2⟩
  · subst g; exact ⟨by simp, by simp, trivial⟩
theorem Good.first {rs : List (List Int × List Int)} (h : Good rs) {K : Nat} (hK : K < rs.length) : findR (rs.take K) rs[K].1 < 0 :=
  findR_neg.2 fun s hs => apart_at rs [] K hK h.apart s (by simpa using hs)
theorem paths_small {rs : List (List Int × List Int)} : ∀ {K : Nat}, K ≤ rs.length → (∀ r ∈ rs, r.1.length ≤ 8) → (pathsR (rs.take K)).length ≤ 1 + 8 * K
  | 0, _, _ => by simp [pathsR, pathsFrom]
  | K + 1, hK, h => by
    rw [paths_take hK]
    have h1 := paths_small (K := K) (by omega) h
    have h2 := growP_len rs[K].1 (pathsR (rs.take K)) []
    have h3 := h rs[K] (List.getElem_mem _)
    omega
end Go.Proofs.YtgjmclbcmfkhdaaDoor
