/- Layer 6, plainly: units that come one by one. No program is named here. -/
import Derived.Test.YtmjcnopkckkaoaaTokM
namespace Go.Proofs.Ytmjcnopkckkaoaa
/-- may the units be the beginning of a longer In? -/
def opens (rs : List (List Int × List Int)) (us : List Int) : Bool := (longL rs us).2.2
/-- where no more may come more units change nothing -/
theorem Good.shut {rs : List (List Int × List Int)} (h : Good rs) {a : List Int} (ho : opens rs a = false) (b : List Int) : longL rs (a ++ b) = longL rs a := by
  obtain ⟨k, n, o, h1, h2⟩ := h.long a
  unfold opens at ho
  rw [h1] at ho ⊢
  obtain rfl : o = false := ho
  have hno : ∀ r ∈ rs, a.length < r.1.length → r.1.take a.length ≠ a := fun r hr h3 h4 => by
    have := h2.op.2 ⟨r, hr, h3, h4⟩
    cases this
  refine longL_is (fun r hr => (h.side r hr).1) ⟨?_, ?_, ?_⟩
  · constructor
    · intro e; cases e
    · rintro ⟨r, hr, h3, h4⟩
      rw [List.length_append] at h3 h4
      refine absurd ?_ (hno r hr (by omega))
      have := congrArg (List.take a.length) h4
      rw [List.take_take, Nat.min_eq_left (by omega), List.take_left' rfl] at this
      exact this
  · intro r hr h3 h4
    rcases Nat.lt_or_ge a.length r.1.length with h5 | h5
    · refine absurd ?_ (hno r hr h5)
      rw [← h4, List.take_take, Nat.min_eq_left (by omega), List.take_left' rfl]
    · refine h2.max r hr h5 ?_
      rw [List.take_append_of_le_length h5] at h4
      exact h4
  · rcases h2.res with e | ⟨m, e1, e2, e3, e4, e5⟩
    · exact .inl e
    · refine .inr ⟨m, e1, e2, by rw [List.length_append]; omega, ?_, ?_⟩
      · rw [List.take_append_of_le_length e3]; exact e4
      · rw [List.take_append_of_le_length e3]; exact e5
theorem Good.shut_step {rs : List (List Int × List Int)} (h : Good rs) {a : List Int} (ho : opens rs a = false) (b : List Int) : stepT rs (a ++ b) = stepT rs a := by
  unfold stepT; rw [h.shut ho b]
/-- an open row of units is shorter than the longest In -/
theorem Good.open_lt {rs : List (List Int × List Int)} (h : Good rs) {a : List Int} (ho : opens rs a = true) : ∃ r ∈ rs, a.length < r.1.length ∧ r.1.take a.length = a := by
  obtain ⟨k, n, o, h1, h2⟩ := h.long a
  unfold opens at ho
  rw [h1] at ho
  exact h2.op.1 ho
/-- the tokens that are sure, what waits then, and how many units were looked at -/
def drain (rs : List (List Int × List Int)) (at_ : Int) : List Int → List Tk × List Int × Nat
  | [] => ([], [], 0)
  | u :: t => if opens rs (u :: t) = true then ([], u :: t, t.length + 1) else
      (⟨at_, (stepT rs (u :: t)).1, (stepT rs (u :: t)).2.2, (stepT rs (u :: t)).2.1⟩ :: (drain rs (at_ + (stepT rs (u :: t)).1) (t.drop ((stepT rs (u :: t)).1.toNat - 1))).1,
       (drain rs (at_ + (stepT rs (u :: t)).1) (t.drop ((stepT rs (u :: t)).1.toNat - 1))).2.1,
       (drain rs (at_ + (stepT rs (u :: t)).1) (t.drop ((stepT rs (u :: t)).1.toNat - 1))).2.2 + (t.length + 1))
termination_by us => us.length
decreasing_by all_goals (simp; omega)
theorem drain_nil (rs : List (List Int × List Int)) (at_ : Int) : drain rs at_ [] = ([], [], 0) := by rw [drain]
theorem drain_open {rs : List (List Int × List Int)} {at_ : Int} {us : List Int} (hu : us ≠ []) (ho : opens rs us = true) : drain rs at_ us = ([], us, us.length) := by
  cases us with
  | nil => exact absurd rfl hu
  | cons u t => rw [drain, if_pos ho]; rfl
theorem drain_cons {rs : List (List Int × List Int)} {at_ : Int} {us o : List Int} {s e : Int} (hu : us ≠ []) (ho : opens rs us = false) (hs : stepT rs us = (s, e, o)) (h1 : 1 ≤ s) :
    drain rs at_ us = (⟨at_, s, o, e⟩ :: (drain rs (at_ + s) (us.drop s.toNat)).1, (drain rs (at_ + s) (us.drop s.toNat)).2.1, (drain rs (at_ + s) (us.drop s.toNat)).2.2 + us.length) := by
  cases us with
  | nil => exact absurd rfl hu
  | cons u t =>
    rw [drain, if_neg (by rw [ho]; simp), hs]
    simp only
    obtain ⟨m, hm⟩ : ∃ m, s.toNat = m + 1 := ⟨s.toNat - 1, by omega⟩
    rw [hm]; rfl
/-- what is told and what waits is all that came -/
structure Drained (rs : List (List Int × List Int)) (at_ : Int) (us : List Int) (ts : List Tk) (rest : List Int) (n : Nat) : Prop where
  tail : ∃ pre, us = pre ++ rest
  all : ∀ more, rewA rs at_ (us ++ more) = ts ++ rewA rs (at_ + us.length - rest.length) (rest ++ more)
  open_ : rest = [] ∨ opens rs rest = true
  count : ts.length + rest.length ≤ us.length
  looks : ∀ L, us.length ≤ L → n ≤ L * ts.length + L
theorem Good.drained {rs : List (List Int × List Int)} (h : Good rs) (us : List Int) : ∀ at_ : Int, Drained rs at_ us (drain rs at_ us).1 (drain rs at_ us).2.1 (drain rs at_ us).2.2 := by
  refine h.along (fun us => ∀ at_ : Int, Drained rs at_ us (drain rs at_ us).1 (drain rs at_ us).2.1 (drain rs at_ us).2.2) ?_ ?_ us.length us (Nat.le_refl _)
  · intro at_
    rw [drain_nil]
    exact ⟨⟨[], rfl⟩, fun more => by simp, .inl rfl, by simp, by simp⟩
  · intro us s e o hu hs hp ih at_
    by_cases ho : opens rs us = true
    · rw [drain_open hu ho]
      refine ⟨⟨[], rfl⟩, fun more => ?_, .inr ho, by simp, fun L hL => by simp; omega⟩
      rw [show at_ + (us.length : Int) - us.length = at_ from by omega]; rfl
    · have ho' : opens rs us = false := by simpa using ho
      have h1 := hp.lo
      have h2 := hp.hi
      rw [drain_cons hu ho' hs hp.lo]
      obtain ⟨⟨pre, g1⟩, g2, g3, g4, g5⟩ := ih (at_ + s)
      rw [List.length_drop] at g2 g4 g5
      refine ⟨⟨us.take s.toNat ++ pre, ?_⟩, fun more => ?_, g3, ?_, fun L hL => ?_⟩
      · rw [List.append_assoc, ← g1, List.take_append_drop]
      · have hne : us ++ more ≠ [] := by simp [hu]
        rw [rewA_cons hne ((h.shut_step ho' more).trans hs) h1, List.drop_append_of_le_length (by omega), g2 more]
        rw [show at_ + s + ((us.length - s.toNat : Nat) : Int) = at_ + us.length from by omega]
        rfl
      · simp only [List.length_cons]; omega
      · have := g5 L (by omega)
        simp only [List.length_cons]
        rw [Nat.mul_add, Nat.mul_one]
        omega
/-- how many units are looked at till no unit waits -/
def looksE (rs : List (List Int × List Int)) : List Int → Nat
  | [] => 0
  | u :: t => (t.length + 1) + looksE rs (t.drop ((stepT rs (u :: t)).1.toNat - 1))
termination_by us => us.length
decreasing_by simp; omega
theorem looksE_nil (rs : List (List Int × List Int)) : looksE rs [] = 0 := by rw [looksE]
theorem looksE_cons {rs : List (List Int × List Int)} {us o : List Int} {s e : Int} (hu : us ≠ []) (hs : stepT rs us = (s, e, o)) (h1 : 1 ≤ s) : looksE rs us = us.length + looksE rs (us.drop s.toNat) := by
  cases us with
  | nil => exact absurd rfl hu
  | cons u t =>
    rw [looksE, hs]
    simp only
    obtain ⟨m, hm⟩ : ∃ m, s.toNat = m + 1 := ⟨s.toNat - 1, by omega⟩
    rw [hm]; rfl
theorem Good.looksE_le {rs : List (List Int × List Int)} (h : Good rs) (us : List Int) : ∀ L, us.length ≤ L → looksE rs us ≤ L * us.length := by
  refine h.along (fun us => ∀ L, us.length ≤ L → looksE rs us ≤ L * us.length) (fun L _ => by simp [looksE_nil]) ?_ us.length us (Nat.le_refl _)
  intro us s e o hu hs hp ih L hL
  have h1 := hp.lo
  have h2 := hp.hi
  rw [looksE_cons hu hs h1]
  have := ih L (by rw [List.length_drop]; omega)
  rw [List.length_drop] at this
  have h3 : L * (us.length - s.toNat) + L ≤ L * us.length := by
    rw [← Nat.mul_succ]; exact Nat.mul_le_mul_left _ (by omega)
  omega
end Go.Proofs.Ytmjcnopkckkaoaa
