/- Layer 10: letters put together and apart, in plain words: what a letter and a sign are, step by step, and what follows. -/
import Derived.Test.YtjolbdfkkhphiaaDoorVietS
import Derived.Test.YtjolbdfkkhphiaaDoorVietL
namespace Go.Proofs.YtjolbdfkkhphiaaDoor
set_option linter.unusedVariables false
set_option linter.unusedSimpArgs false
set_option linter.unnecessarySimpa false
open Go.RowKit Go.Shelf

/-- the mark, and the tone, that sign j adds -/
def mM (j : Nat) : Nat := [1, 2, 3, 0, 0, 0, 0, 0].getD j 0
def mT (j : Nat) : Nat := [0, 0, 0, 1, 2, 3, 4, 5].getD j 0
/-- which sign a scalar is -/
def sgI (s : Int) : Option Nat := (List.range 8).find? fun j => mkS j == s
theorem sgI_lt {s : Int} {j : Nat} (h : sgI s = some j) : j < 8 ∧ mkS j = s := ⟨List.mem_range.1 (List.mem_of_find?_eq_some h), by have := List.find?_some h; exact eq_of_beq this⟩
theorem mk_fl (j : Nat) (h : j < 8) : mkR j = fl (mM j) ∧ mkI j = fl (mT j) ∧ mM j ≤ 3 ∧ mT j ≤ 5 := by
  have := all_range (show (List.range 8).all (fun j => decide (mkR j = fl (mM j) ∧ mkI j = fl (mT j) ∧ mM j ≤ 3 ∧ mT j ≤ 5)) = true by decide +kernel) j h
  exact of_decide_eq_true this
theorem sgI_of (j : Nat) (h : j < 8) : sgI (mkS j) = some j := by
  have := all_range (show (List.range 8).all (fun j => decide (sgI (mkS j) = some j)) = true by decide +kernel) j h
  exact of_decide_eq_true this
theorem sg_none : ∀ (K : Nat) {s : Int}, (∀ j, j < K → (mkS j == s) = false) → sgK K s = (0, 0, false)
  | 0, _, _ => rfl
  | K + 1, s, h => by
    unfold sgK
    rw [h K (by omega)]
    exact sg_none K fun j hj => h j (by omega)
theorem sg_some (j : Nat) (h : j < 8) : sgK 8 (mkS j) = (mkR j, mkI j, true) := by
  have := all_range (show (List.range 8).all (fun j => decide (sgK 8 (mkS j) = (mkR j, mkI j, true))) = true by decide +kernel) j h
  exact of_decide_eq_true this
theorem sgK_eq (s : Int) : sgK 8 s = match sgI s with | some j => (fl (mM j), fl (mT j), true) | none => (0, 0, false) := by
  cases h : sgI s with
  | none =>
    unfold sgI at h
    rw [List.find?_eq_none] at h
    exact sg_none 8 fun j hj => by
      have := h j (List.mem_range.2 hj)
      simpa using this
  | some j =>
    obtain ⟨h1, h2⟩ := sgI_lt h
    have := mk_fl j h1
    subst h2
    rw [sg_some j h1, this.1, this.2.1]
/-- small sums and products of floats -/
theorem fadd_small (a b : Nat) (ha : a < 6) (hb : b < 6) : floatBits .add .f64 (fl a) (fl b) = some (fl (a + b)) := by
  have := all_range (show (List.range 6).all (fun a => (List.range 6).all fun b => decide (floatBits .add .f64 (fl a) (fl b) = some (fl (a + b)))) = true by decide +kernel) a ha
  have := all_range this b hb
  exact of_decide_eq_true this
theorem fmul_small (a b : Nat) (ha : a < 6) (hb : b < 6) : floatBits .mul .f64 (fl a) (fl b) = some (fl (a * b)) ∧ feq (fl (a * b)) 0 = (a == 0 || b == 0) := by
  have := all_range (show (List.range 6).all (fun a => (List.range 6).all fun b => decide (floatBits .mul .f64 (fl a) (fl b) = some (fl (a * b)) ∧ feq (fl (a * b)) 0 = (a == 0 || b == 0))) = true by decide +kernel) a ha
  have := all_range this b hb
  exact of_decide_eq_true this
theorem SumIs.det {a c r v : Nat} (h : SumIs a c r) (k : floatBits .add .f64 a c = some v) : r = v := by
  rcases h with h | ⟨h, _⟩
  · rw [k] at h; injection h with h; exact h.symm
  · rw [k] at h; cases h
theorem feq_zero (a : Nat) (ha : a ≤ 6) : feq (fl a) 0 = (a == 0) := by
  have := feq_fl a 0 ha (by omega)
  rwa [fl_zero] at this
/-- both have a mark, or both a tone -/
def bothK (k j : Nat) : Bool := (LM k != 0 && mM j != 0) || (LT k != 0 && mT j != 0)
theorem bothF_eq (k j : Nat) (hk : k < 148) (hj : j < 8) : bothF (fl (LM k)) (fl (LT k)) (fl (mM j)) (fl (mT j)) = bothK k j := by
  have h1 := letter_small k hk
  have h2 := mk_fl j hj
  unfold bothF bothK
  rw [feq_zero _ (by omega), feq_zero _ (by omega), feq_zero _ (by omega), feq_zero _ (by omega)]
  rfl
theorem both_small {k j : Nat} (hk : k < 148) (hj : j < 8) (h : bothK k j = false) : LM k + mM j ≤ 4 ∧ LT k + mT j ≤ 5 ∧ (LM k = 0 ∨ mM j = 0) ∧ (LT k = 0 ∨ mT j = 0) := by
  have h1 := letter_small k hk
  have h2 := mk_fl j hj
  unfold bothK at h
  simp only [Bool.or_eq_false_iff, Bool.and_eq_false_imp, bne_iff_ne, ne_eq, bne_eq_false_iff_eq] at h
  omega
/-- the letter that is letter k with sign j more, if there is one -/
def sumP (k j i : Nat) : Bool := LB k == LB i && (LM k + mM j == LM i && LT k + mT j == LT i)
def sumK (k j : Nat) : Option Nat := findL (sumP k j)
def addK (k j : Nat) : Option Nat := if bothK k j = true then none else sumK k j
theorem join_sum (k j : Nat) (hk : k < 148) (hj : j < 8) (h : bothK k j = false) : joinF (LB k) (fl (LM k + mM j)) (fl (LT k + mT j)) = sumK k j := by
  have h1 := both_small hk hj h
  unfold joinF
  rw [join_same]
  unfold findL sumK findL
  have hp : ∀ i ∈ List.range 148, jnP (LB k) (fl (LM k + mM j)) (fl (LT k + mT j)) i = sumP k j i := fun i hi => by
    have h2 := letter_small i (List.mem_range.1 hi)
    unfold jnP sumP
    rw [feq_fl _ _ (by omega) (by omega), feq_fl _ _ (by omega) (by omega)]
  exact find_congr hp
where
  find_congr {l : List Nat} {p q : Nat → Bool} (h : ∀ i ∈ l, p i = q i) : l.find? p = l.find? q := by
    induction l with
    | nil => rfl
    | cons a l ih =>
      rw [List.find?_cons, List.find?_cons, h a (List.mem_cons_self), ih fun i hi => h i (List.mem_cons_of_mem _ hi)]
theorem sumK_lt {k j i : Nat} (h : sumK k j = some i) : i < 148 ∧ LB i = LB k ∧ LM i = LM k + mM j ∧ LT i = LT k + mT j := by
  have h1 := List.mem_range.1 (List.mem_of_find?_eq_some h)
  have h2 := List.find?_some h
  unfold sumP at h2
  simp only [Bool.and_eq_true, beq_iff_eq] at h2
  exact ⟨h1, h2.1.symm, h2.2.1.symm, h2.2.2.symm⟩

/-- s is the scalar of a letter -/
def isL (s : Int) : Bool := (splitF s).isSome
/-- the scalar of the letter c with the sign s more -/
def tog (c s : Int) : Option Int := match sgI s, splitF c with
  | some j, some k => (addK k j).map LS
  | _, _ => none
theorem isL_at (k : Nat) (h : k < 148) : isL (LS k) = true := by
  unfold isL splitF; rw [split_of k h]; rfl
theorem splitF_LS {s : Int} {k : Nat} (h : splitF s = some k) : k < 148 ∧ s = LS k := by
  have := findP_lt h
  exact ⟨this.1, by have h2 := this.2; unfold spP at h2; exact eq_of_beq h2⟩
theorem isL_zero : isL 0 = false := by decide +kernel
theorem isL_ne {s : Int} (h : isL s = true) : s ≠ 0 := fun e => by rw [e, isL_zero] at h; cases h
theorem tog_letter {c s u : Int} (h : tog c s = some u) : isL u = true := by
  unfold tog at h
  split at h
  · rename_i j k hj hk
    unfold addK at h
    split at h
    · cases h
    · cases e : sumK k j with
      | none => rw [e] at h; cases h
      | some i => rw [e] at h; injection h with h; rw [← h]; exact isL_at i (sumK_lt e).1
  · cases h
theorem sign_no_letter {s : Int} {j : Nat} (h : sgI s = some j) : isL s = false := by
  obtain ⟨h1, rfl⟩ := sgI_lt h
  have := all_range (show (List.range 8).all (fun j => decide (isL (mkS j) = false)) = true by decide +kernel) j h1
  exact of_decide_eq_true this
theorem tog_isL {c s : Int} (h : isL s = true) : tog c s = none := by
  unfold tog
  split
  · rename_i hj _
    rw [sign_no_letter hj] at h; cases h
  · rfl
theorem tog_no {c s : Int} (h : isL c = false) : tog c s = none := by
  unfold tog
  split
  · rename_i hk
    unfold isL at h; rw [hk] at h; cases h
  · rfl
theorem tog_zero (s : Int) : tog 0 s = none := tog_no isL_zero

/-- what waits -/
def kn (c : Int) : List Int := if c = 0 then [] else [c]
theorem kn_zero : kn 0 = [] := rfl
theorem kn_ne {c : Int} (h : c ≠ 0) : kn c = [c] := by unfold kn; rw [if_neg h]
theorem kn_len (c : Int) : (kn c).length ≤ 1 := by unfold kn; split <;> simp
/-- P10.1: what waits, and what is returned -/
def stepC (c s : Int) : Int × List Int := match tog c s with
  | some u => (u, [])
  | none => if isL s = true then (s, kn c) else (0, kn c ++ [s])
theorem stepC_len (c s : Int) : (stepC c s).2.length + (kn (stepC c s).1).length ≤ (kn c).length + 1 := by
  unfold stepC
  cases h : tog c s with
  | some u =>
    have := isL_ne (tog_letter h)
    have hc : c ≠ 0 := fun e => by rw [e, tog_zero] at h; cases h
    simp [kn_ne this, kn_ne hc]
  | none =>
    have := kn_len s
    cases hs : isL s <;> simp [kn_zero]; omega
theorem stepC_len2 (c s : Int) : (stepC c s).2.length ≤ 2 := by
  have := stepC_len c s
  have := kn_len c
  omega
/-- what waits is a letter, or none does -/
def St (c : Int) : Prop := c = 0 ∨ isL c = true
theorem stepC_St (c s : Int) : St (stepC c s).1 := by
  unfold stepC
  cases h : tog c s with
  | some u => exact .inr (tog_letter h)
  | none =>
    cases hs : isL s with
    | true => exact .inr hs
    | false => exact .inl rfl
/-- all, with c waiting -/
def cGo : Int → List Int → List Int
  | c, [] => kn c
  | c, s :: t => (stepC c s).2 ++ cGo (stepC c s).1 t
theorem cGo_len : ∀ (c : Int) (t : List Int), (cGo c t).length ≤ (kn c).length + t.length
  | c, [] => by simp [cGo]
  | c, s :: t => by
    have h1 := stepC_len c s
    have h2 := cGo_len (stepC c s).1 t
    simp only [cGo, List.length_append, List.length_cons]
    omega
/-- what is known after some, and what waits then -/
def cOut : Int → List Int → List Int
  | _, [] => []
  | c, s :: t => (stepC c s).2 ++ cOut (stepC c s).1 t
def cSt : Int → List Int → Int
  | c, [] => c
  | c, s :: t => cSt (stepC c s).1 t
theorem cGo_eq : ∀ (c : Int) (t : List Int), cGo c t = cOut c t ++ kn (cSt c t)
  | c, [] => by simp [cGo, cOut, cSt]
  | c, s :: t => by simp only [cGo, cOut, cSt, cGo_eq _ t, List.append_assoc]
theorem cOut_snoc : ∀ (c : Int) (t : List Int) (s : Int), cOut c (t ++ [s]) = cOut c t ++ (stepC (cSt c t) s).2 ∧ cSt c (t ++ [s]) = (stepC (cSt c t) s).1
  | c, [], s => by simp [cOut, cSt]
  | c, x :: t, s => by
    have := cOut_snoc (stepC c x).1 t s
    simp only [List.cons_append, cOut, cSt, this, List.append_assoc, and_self]
theorem cSt_St : ∀ {c : Int} (t : List Int), St c → St (cSt c t)
  | _, [], h => h
  | _, s :: t, _ => cSt_St t (stepC_St _ s)
theorem cOut_len (c : Int) (t : List Int) : (cOut c t).length ≤ (kn c).length + t.length := by
  have h := cGo_len c t
  rw [cGo_eq, List.length_append] at h
  omega
theorem cGo_app : ∀ (c : Int) (x y : List Int), cGo c (x ++ y) = cOut c x ++ cGo (cSt c x) y
  | c, [], y => by simp [cOut, cSt]
  | c, s :: x, y => by simp only [List.cons_append, cGo, cOut, cSt, cGo_app _ x y, List.append_assoc]

/-! P10.2: once and for all -/
/-- none of these is a sign that the one ahead takes -/
def Still : Int → List Int → Prop
  | _, [] => True
  | p, s :: t => tog p s = none ∧ Still s t
theorem Still.any : ∀ {p q : Int} {t : List Int}, Still p t → (∀ s, t.head? = some s → tog q s = none) → Still q t
  | _, _, [], _, _ => trivial
  | _, _, s :: t, h, k => ⟨k s rfl, h.2⟩
/-- rows in which nothing is to be put together stay -/
theorem cGo_still : ∀ {c : Int} (t : List Int), St c → Still c t → cGo c t = kn c ++ t
  | c, [], _, _ => by simp [cGo]
  | c, s :: t, hc, h => by
    have hs : stepC c s = if isL s = true then (s, kn c) else (0, kn c ++ [s]) := by unfold stepC; rw [h.1]
    simp only [cGo, hs]
    cases e : isL s with
    | true =>
      simp only [if_true]
      rw [cGo_still t (.inr e) h.2, kn_ne (isL_ne e)]; rfl
    | false =>
      simp only [Bool.false_eq_true, if_false]
      rw [cGo_still t (.inl rfl) (h.2.any fun s' _ => tog_zero s'), kn_zero]; simp
/-- what comes of a letter that waits begins with a letter, and nothing in it is to be put together -/
theorem still_go : ∀ (c : Int) (t : List Int), St c → (isL c = true → ∃ u r, cGo c t = u :: r ∧ isL u = true ∧ Still u r) ∧ (c = 0 → Still 0 (cGo 0 t))
  | c, [], hc => ⟨fun h => ⟨c, [], by simp [cGo, kn_ne (isL_ne h)], h, trivial⟩, fun _ => by simp [cGo, kn_zero, Still]⟩
  | c, s :: t, hc => by
    have ih := still_go (stepC c s).1 t (stepC_St c s)
    refine ⟨fun h => ?_, fun h => ?_⟩
    · cases ht : tog c s with
      | some u =>
        have hs : stepC c s = (u, []) := by unfold stepC; rw [ht]
        rw [hs] at ih
        obtain ⟨v, r, h1, h2, h3⟩ := ih.1 (tog_letter ht)
        exact ⟨v, r, by simp [cGo, hs, h1], h2, h3⟩
      | none =>
        cases e : isL s with
        | true =>
          have hs : stepC c s = (s, kn c) := by unfold stepC; rw [ht]; simp [e]
          rw [hs] at ih
          obtain ⟨v, r, h1, h2, h3⟩ := ih.1 e
          exact ⟨c, v :: r, by simp [cGo, hs, h1, kn_ne (isL_ne h)], h, tog_isL h2, h3⟩
        | false =>
          have hs : stepC c s = (0, kn c ++ [s]) := by unfold stepC; rw [ht]; simp [e]
          rw [hs] at ih
          have := ih.2 rfl
          exact ⟨c, s :: cGo 0 t, by simp [cGo, hs, kn_ne (isL_ne h)], h, ht, this.any fun s' _ => tog_no e⟩
    · subst h
      cases e : isL s with
      | true =>
        have hs : stepC 0 s = (s, []) := by unfold stepC; rw [tog_zero]; simp [e, kn_zero]
        rw [hs] at ih
        obtain ⟨v, r, h1, h2, h3⟩ := ih.1 e
        simp only [cGo, hs, h1, List.nil_append]
        exact ⟨tog_zero v, h3⟩
      | false =>
        have hs : stepC 0 s = (0, [s]) := by unfold stepC; rw [tog_zero]; simp [e, kn_zero]
        rw [hs] at ih
        have := ih.2 rfl
        simp only [cGo, hs, List.cons_append, List.nil_append]
        exact ⟨tog_zero s, this.any fun s' _ => tog_no e⟩
theorem cGo_twice (x : List Int) : cGo 0 (cGo 0 x) = cGo 0 x := by
  have := cGo_still (cGo 0 x) (.inl rfl) ((still_go 0 x (.inl rfl)).2 rfl)
  rw [this, kn_zero, List.nil_append]

/-! parts -/
theorem cGo_parts (x y : List Int) (s : Int) (h1 : isL s = false) (h2 : ∀ c, tog c s = none) : cGo 0 (x ++ s :: y) = cGo 0 x ++ cGo 0 (s :: y) := by
  have hs : ∀ c, stepC c s = (0, kn c ++ [s]) := fun c => by unfold stepC; rw [h2]; simp [h1]
  rw [cGo_app, cGo_eq 0 x]
  simp only [cGo, hs, kn_zero, List.append_assoc, List.nil_append]
theorem tog_x (c : Int) : tog c 120 = none := by
  unfold tog
  have : sgI 120 = none := by decide +kernel
  rw [this]

/-! P10.3 -/
/-- the scalars that are combined with letter k's base -/
def apS (k : Nat) : List Int := ((List.range 8).filter fun j => (mM j == LM k && mT j == 0) || (mM j == 0 && mT j == LT k)).map mkS
/-- one scalar apart -/
def ap1 (s : Int) : List Int := match splitF s with
  | none => [s]
  | some k => if LM k = 4 then [s] else LB k :: apS k
def apF (ss : List Int) : List Int := ss.flatMap ap1
theorem ap1_len (s : Int) : 1 ≤ (ap1 s).length ∧ (ap1 s).length ≤ 3 := by
  unfold ap1
  split
  · simp
  · rename_i k hk
    have h := (findP_lt hk).1
    have := all_range (show (List.range 148).all (fun k => decide ((apS k).length ≤ 2)) = true by decide +kernel) k h
    have := of_decide_eq_true this
    split <;> simp <;> omega
theorem apF_len (ss : List Int) : ss.length ≤ (apF ss).length ∧ (apF ss).length ≤ 3 * ss.length := by
  induction ss with
  | nil => simp [apF]
  | cons s t ih =>
    have := ap1_len s
    simp only [apF, List.flatMap_cons, List.length_append, List.length_cons] at ih ⊢
    omega
/-- a letter's parts put together are the letter -/
def goK : Option Int → List Int → Option Int
  | c, [] => c
  | none, _ => none
  | some c, s :: t => goK (tog c s) t
theorem ap_back (k : Nat) (h : k < 148) (h4 : LM k ≠ 4) : isL (LB k) = true ∧ goK (some (LB k)) (apS k) = some (LS k) := by
  have := all_range (show (List.range 148).all (fun k => decide (LM k ≠ 4 → isL (LB k) = true ∧ goK (some (LB k)) (apS k) = some (LS k))) = true by decide +kernel) k h
  exact of_decide_eq_true this h4
theorem goK_none : ∀ (t : List Int) (u : Int), goK none t = some u → False
  | [], _, h => by cases h
  | _ :: _, _, h => by cases h
theorem cGo_goK : ∀ {c u : Int} {t : List Int} (y : List Int), goK (some c) t = some u → cGo c (t ++ y) = cGo u y
  | c, u, [], y, h => by injection h with h; rw [h]; rfl
  | c, u, s :: t, y, h => by
    simp only [goK] at h
    cases e : tog c s with
    | none => rw [e] at h; exact (goK_none t u h).elim
    | some v =>
      rw [e] at h
      have hs : stepC c s = (v, []) := by unfold stepC; rw [e]
      simp only [List.cons_append, cGo, hs, List.nil_append]
      exact cGo_goK y h
theorem cGo_ap1 (c s : Int) (y : List Int) : cGo c (ap1 s ++ y) = cGo c (s :: y) := by
  unfold ap1
  split
  · rfl
  · rename_i k hk
    split
    · rfl
    · rename_i h4
      obtain ⟨h1, h2⟩ := splitF_LS hk
      obtain ⟨h3, h5⟩ := ap_back k h1 h4
      have hL := isL_at k h1
      rw [← h2] at hL h5
      have e1 : stepC c (LB k) = (LB k, kn c) := by unfold stepC; rw [tog_isL h3]; simp [h3]
      have e2 : stepC c s = (s, kn c) := by unfold stepC; rw [tog_isL hL]; simp [hL]
      simp only [List.cons_append, cGo, e1, e2]
      rw [cGo_goK y h5]
theorem cGo_apF : ∀ (c : Int) (x : List Int), cGo c (apF x) = cGo c x
  | c, [] => rfl
  | c, s :: x => by
    show cGo c (ap1 s ++ apF x) = _
    rw [cGo_ap1]
    simp only [cGo]
    rw [cGo_apF _ x]
end Go.Proofs.YtjolbdfkkhphiaaDoor
