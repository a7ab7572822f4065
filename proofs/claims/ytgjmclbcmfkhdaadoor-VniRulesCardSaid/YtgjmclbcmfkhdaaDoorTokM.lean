/- Layer 5, plainly: tokens; what units are made into. No program is named here. -/
import Derived.Test.YtgjmclbcmfkhdaaDoorTrieO
namespace Go.Proofs.YtgjmclbcmfkhdaaDoor
/-- a token, as plain data -/
structure Tk where
  pos : Int
  size : Int
  out : List Int
  err : Int
/-- the first token of units: its size, what is wrong, what it means -/
def stepT (rs : List (List Int × List Int)) (us : List Int) : Int × Int × List Int :=
  if (longL rs us).1 < 0 then (1, 3, []) else ((longL rs us).2.1, 0, (rs.map (·.2)).getD (longL rs us).1.toNat [])
/-- the tokens of units, the first one at at_ -/
def rewA (rs : List (List Int × List Int)) (at_ : Int) : List Int → List Tk
  | [] => []
  | u :: t => ⟨at_, (stepT rs (u :: t)).1, (stepT rs (u :: t)).2.2, (stepT rs (u :: t)).2.1⟩ :: rewA rs (at_ + (stepT rs (u :: t)).1) (t.drop ((stepT rs (u :: t)).1.toNat - 1))
termination_by us => us.length
decreasing_by simp; omega
theorem rewA_cons {rs : List (List Int × List Int)} {at_ : Int} {us o : List Int} {s e : Int} (hu : us ≠ []) (hs : stepT rs us = (s, e, o)) (h1 : 1 ≤ s) : rewA rs at_ us = ⟨at_, s, o, e⟩ :: rewA rs (at_ + s) (us.drop s.toNat) := by
  cases us with
  | nil => exact absurd rfl hu
  | cons u t =>
    rw [rewA, hs]
    simp only
    obtain ⟨m, hm⟩ : ∃ m, s.toNat = m + 1 := ⟨s.toNat - 1, by omega⟩
    rw [hm]; rfl
theorem rewA_nil (rs : List (List Int × List Int)) (at_ : Int) : rewA rs at_ [] = [] := by rw [rewA]
theorem rewA_ne {rs : List (List Int × List Int)} {at_ : Int} {us : List Int} (h : us ≠ []) : rewA rs at_ us ≠ [] := by
  cases us with
  | nil => exact absurd rfl h
  | cons u t => rw [rewA]; simp
theorem Good.step {rs : List (List Int × List Int)} (h : Good rs) {us : List Int} {k n : Int} {o : Bool} (hl : longL rs us = (k, n, o)) :
    (k < 0 ∧ n = 0) ∨ ∃ m : Nat, n = m ∧ 1 ≤ m ∧ m ≤ us.length ∧ m ≤ 8 ∧ ∃ K : Nat, k = K ∧ ∃ hK : K < rs.length, rs[K].1 = us.take m ∧ stepT rs us = (n, 0, rs[K].2) := by
  obtain ⟨k', n', o', h1, h2⟩ := h.long us
  rw [hl] at h1
  injection h1 with e1 e2
  injection e2 with e2 e3
  subst e1 e2 e3
  rcases h2.res with ⟨e1, e2⟩ | ⟨m, e1, e2, e3, e4, r, hr, e5⟩
  · exact .inl ⟨by omega, e2⟩
  · right
    have hmem := hr
    obtain ⟨K, hK, rfl⟩ := List.getElem_of_mem hr
    rw [← e5, h.self hK] at e4
    have hlen : rs[K].1.length = m := by rw [e5, List.length_take]; omega
    refine ⟨m, e1, e2, e3, by have := (h.side _ hmem).2.1; omega, K, e4, hK, e5, ?_⟩
    unfold stepT
    rw [hl]
    simp only
    rw [if_neg (by omega), e4]
    simp [List.getD_eq_getElem?_getD, List.getElem?_eq_getElem hK]
theorem Good.stepN {rs : List (List Int × List Int)} (_h : Good rs) {us : List Int} {k n : Int} {o : Bool} (hl : longL rs us = (k, n, o)) (hk : k < 0) : stepT rs us = (1, 3, []) := by
  unfold stepT; rw [hl]; simp only; rw [if_pos hk]
/-- what a first token is like -/
structure StepP (us : List Int) (s e : Int) (o : List Int) : Prop where
  lo : 1 ≤ s
  hi : s ≤ us.length
  err : (e = 3 ∧ s = 1 ∧ o = []) ∨ (e = 0 ∧ 1 ≤ o.length)
  len : o.length ≤ 8
theorem Good.stepP {rs : List (List Int × List Int)} (h : Good rs) {us : List Int} (hu : us ≠ []) : ∃ s e o, stepT rs us = (s, e, o) ∧ StepP us s e o := by
  obtain ⟨k, n, o, hl, _⟩ := h.long us
  have hp : 1 ≤ us.length := List.length_pos_iff.2 hu
  rcases h.step hl with ⟨h1, _⟩ | ⟨m, h1, h2, h3, _, K, h5, hK, _, h7⟩
  · exact ⟨1, 3, [], h.stepN hl h1, by omega, by omega, .inl ⟨rfl, rfl, rfl⟩, by simp⟩
  · have := h.side _ (List.getElem_mem hK)
    exact ⟨n, 0, rs[K].2, h7, by omega, by omega, .inr ⟨rfl, this.2.2.1⟩, this.2.2.2.1⟩
/-- by induction along the tokens -/
theorem Good.along {rs : List (List Int × List Int)} (h : Good rs) (P : List Int → Prop) (h0 : P []) (h1 : ∀ us s e o, us ≠ [] → stepT rs us = (s, e, o) → StepP us s e o → P (us.drop s.toNat) → P us) : ∀ (n : Nat) (us : List Int), us.length ≤ n → P us
  | 0, us, hn => by
    obtain rfl : us = [] := List.eq_nil_of_length_eq_zero (by omega)
    exact h0
  | n + 1, us, hn => by
    by_cases hu : us = []
    · subst hu; exact h0
    · obtain ⟨s, e, o, g1, g2⟩ := h.stepP hu
      exact h1 us s e o hu g1 g2 (Good.along h P h0 h1 n _ (by have := g2.lo; simp; omega))
theorem Good.rew_len {rs : List (List Int × List Int)} (h : Good rs) (us : List Int) : ∀ at_ : Int, (rewA rs at_ us).length ≤ us.length := by
  refine h.along (fun us => ∀ at_ : Int, (rewA rs at_ us).length ≤ us.length) (fun _ => by simp [rewA_nil]) ?_ us.length us (Nat.le_refl _)
  intro us s e o hu hs hp ih at_
  rw [rewA_cons hu hs hp.lo]
  have := ih (at_ + s)
  have h1 := hp.lo
  have h2 := hp.hi
  simp only [List.length_cons, List.length_drop] at this ⊢
  omega
/-- a token of those that units are made into -/
structure TkP (t : Tk) : Prop where
  lo : 1 ≤ t.size
  err : (t.err = 3 ∧ t.size = 1 ∧ t.out = []) ∨ (t.err = 0 ∧ 1 ≤ t.out.length)
  len : t.out.length ≤ 8
theorem Good.rew_tk {rs : List (List Int × List Int)} (h : Good rs) (us : List Int) : ∀ at_ : Int, ∀ t ∈ rewA rs at_ us, TkP t := by
  refine h.along (fun us => ∀ at_ : Int, ∀ t ∈ rewA rs at_ us, TkP t) (fun _ => by simp [rewA_nil]) ?_ us.length us (Nat.le_refl _)
  intro us s e o hu hs hp ih at_ t ht
  rw [rewA_cons hu hs hp.lo] at ht
  rcases List.mem_cons.1 ht with rfl | ht
  · exact ⟨hp.lo, hp.err, hp.len⟩
  · exact ih _ t ht
/-- tokens one behind the other, from p to q -/
def chain : Int → List Tk → Int → Prop
  | p, [], q => p = q
  | p, t :: ts, q => t.pos = p ∧ chain (p + t.size) ts q
theorem Good.rew_chain {rs : List (List Int × List Int)} (h : Good rs) (us : List Int) : ∀ at_ : Int, chain at_ (rewA rs at_ us) (at_ + us.length) := by
  refine h.along (fun us => ∀ at_ : Int, chain at_ (rewA rs at_ us) (at_ + us.length)) (fun _ => by simp [rewA_nil, chain]) ?_ us.length us (Nat.le_refl _)
  intro us s e o hu hs hp ih at_
  rw [rewA_cons hu hs hp.lo]
  have h1 := hp.lo
  have h2 := hp.hi
  refine ⟨rfl, ?_⟩
  have := ih (at_ + s)
  rw [show at_ + s + ((us.drop s.toNat).length : Int) = at_ + us.length from by simp; omega] at this
  exact this
/-- what tokens mean -/
def outsT (ts : List Tk) : List Int := ts.flatMap (·.out)
/-- the first token that is wrong -/
def wrongT : List Tk → Tk
  | [] => ⟨0, 0, [], 0⟩
  | t :: ts => if t.err = 0 then wrongT ts else t
theorem outsT_take {ts : List Tk} {K : Nat} (hK : K < ts.length) : outsT (ts.take (K + 1)) = outsT (ts.take K) ++ ts[K].out := by
  unfold outsT; rw [List.take_succ_eq_append_getElem hK, List.flatMap_append]; simp only [List.flatMap_cons, List.flatMap_nil, List.append_nil]
theorem outsT_app (a b : List Tk) : outsT (a ++ b) = outsT a ++ outsT b := by simp [outsT]
theorem wrongT_y {t : Tk} {ts : List Tk} (h : t.err = 0) : wrongT (t :: ts) = wrongT ts := by simp [wrongT, h]
theorem wrongT_n {t : Tk} {ts : List Tk} (h : t.err ≠ 0) : wrongT (t :: ts) = t := by simp [wrongT, h]
theorem wrongT_app : ∀ (a b : List Tk), wrongT (a ++ b) = if (wrongT a).err = 0 then wrongT b else wrongT a
  | [], b => by simp [wrongT]
  | t :: a, b => by
    rw [List.cons_append]
    by_cases h : t.err = 0
    · rw [wrongT_y h, wrongT_y h]; exact wrongT_app a b
    · rw [wrongT_n h, wrongT_n h, if_neg h]
theorem wrongT_take {ts : List Tk} {K : Nat} (hK : K < ts.length) : wrongT (ts.take (K + 1)) = if (wrongT (ts.take K)).err = 0 then (if ts[K].err = 0 then ⟨0, 0, [], 0⟩ else ts[K]) else wrongT (ts.take K) := by
  rw [List.take_succ_eq_append_getElem hK, wrongT_app]; rfl
theorem wrongT_none : ∀ {ts : List Tk}, (wrongT ts).err = 0 → wrongT ts = ⟨0, 0, [], 0⟩
  | [], _ => rfl
  | t :: ts, h => by
    by_cases e : t.err = 0
    · rw [wrongT_y e] at h ⊢; exact wrongT_none h
    · rw [wrongT_n e] at h; exact absurd h e
end Go.Proofs.YtgjmclbcmfkhdaaDoor
