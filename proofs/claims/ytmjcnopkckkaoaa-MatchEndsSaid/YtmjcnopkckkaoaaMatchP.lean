/- Layer 6, plainly: what take does, at an end or not; lists that are written in place. No program is named here. -/
import Derived.Test.YtmjcnopkckkaoaaMatchM
namespace Go.Proofs.Ytmjcnopkckkaoaa
/-- the tokens that are taken, what waits then, how many units were looked at: at an end, or not -/
def tkE (rs : List (List Int × List Int)) (e : Bool) (at_ : Int) (us : List Int) : List Tk × List Int × Nat := if e = true then (rewA rs at_ us, [], looksE rs us) else drain rs at_ us
theorem tkE_nil (rs : List (List Int × List Int)) (e : Bool) (at_ : Int) : tkE rs e at_ [] = ([], [], 0) := by
  cases e <;> simp [tkE, rewA_nil, looksE_nil, drain_nil]
theorem tkE_open {rs : List (List Int × List Int)} {at_ : Int} {us : List Int} (hu : us ≠ []) (ho : opens rs us = true) : tkE rs false at_ us = ([], us, us.length) := by
  simp [tkE, drain_open hu ho]
theorem tkE_cons {rs : List (List Int × List Int)} {e : Bool} {at_ : Int} {us o : List Int} {s x : Int} (hu : us ≠ []) (ho : e = true ∨ opens rs us = false) (hs : stepT rs us = (s, x, o)) (h1 : 1 ≤ s) :
    tkE rs e at_ us = (⟨at_, s, o, x⟩ :: (tkE rs e (at_ + s) (us.drop s.toNat)).1, (tkE rs e (at_ + s) (us.drop s.toNat)).2.1, (tkE rs e (at_ + s) (us.drop s.toNat)).2.2 + us.length) := by
  cases e with
  | true => simp only [tkE, if_true]; rw [rewA_cons hu hs h1, looksE_cons hu hs h1, Nat.add_comm]
  | false =>
    rcases ho with h | h
    · cases h
    · simp only [tkE]; exact drain_cons hu h hs h1
theorem Good.tkE_rest {rs : List (List Int × List Int)} (h : Good rs) (e : Bool) (at_ : Int) (us : List Int) : (tkE rs e at_ us).2.1.length ≤ us.length ∧ (tkE rs e at_ us).1.length ≤ us.length ∧ (tkE rs e at_ us).2.2 ≤ us.length * us.length + us.length ∧ (e = true → (tkE rs e at_ us).2.1 = []) ∧ ((tkE rs e at_ us).2.1 = [] ∨ opens rs (tkE rs e at_ us).2.1 = true) := by
  cases e with
  | true => exact ⟨by simp [tkE], by simp only [tkE, if_true]; exact h.rew_len us at_, by simp only [tkE, if_true]; have := h.looksE_le us _ (Nat.le_refl _); omega, fun _ => by simp [tkE], .inl (by simp [tkE])⟩
  | false =>
    have hd := h.drained us at_
    have e0 : tkE rs false at_ us = drain rs at_ us := by simp [tkE]
    rw [e0]
    have h1 := hd.count
    have h2 := hd.looks us.length (Nat.le_refl _)
    refine ⟨by omega, by omega, ?_, fun h => (by cases h), hd.open_⟩
    have : us.length * (drain rs at_ us).1.length ≤ us.length * us.length := Nat.mul_le_mul_left _ (by omega)
    omega
theorem opens_lt {rs : List (List Int × List Int)} (h : Good rs) {a : List Int} (ho : a = [] ∨ opens rs a = true) : a.length ≤ 7 := by
  rcases ho with rfl | ho
  · simp
  · obtain ⟨r, hr, h1, _⟩ := h.open_lt ho
    have := (h.side r hr).2.1
    omega
/-- cells vs laid from o on -/
def lays {α : Type} (xs : List α) (o : Nat) (vs : List α) : List α := xs.take o ++ vs ++ xs.drop (o + vs.length)
theorem lays_len {α : Type} {xs vs : List α} {o : Nat} (h : o + vs.length ≤ xs.length) : (lays xs o vs).length = xs.length := by
  simp [lays]; omega
theorem lays_map {α β : Type} (f : α → β) (xs vs : List α) (o : Nat) : lays (xs.map f) o (vs.map f) = (lays xs o vs).map f := by
  simp [lays, List.map_take, List.map_drop]
theorem lays_mid {α : Type} {a : α} {xs vs tl : List α} {o : Nat} (h : o + vs.length ≤ xs.length) : lays (a :: (xs ++ tl)) (o + 1) vs = a :: (lays xs o vs ++ tl) := by
  unfold lays
  rw [show o + 1 + vs.length = (o + vs.length) + 1 from by omega, List.take_succ_cons, List.drop_succ_cons, List.take_append_of_le_length (by omega), List.drop_append_of_le_length h]
  simp
/-- units that are moved to the front, and those behind cleared -/
theorem moved {xs q : List Int} {n : Nat} (_hx : xs.take q.length = q) (hq : q.length ≤ xs.length) (hn : n ≤ q.length) : (lays (lays xs 0 (q.drop n)) (q.length - n) (List.replicate n 0)).take (q.length - n) = q.drop n ∧ (lays (lays xs 0 (q.drop n)) (q.length - n) (List.replicate n 0)).length = xs.length := by
  have h1 : (lays xs 0 (q.drop n)).length = xs.length := lays_len (by simp; omega)
  refine ⟨?_, by rw [lays_len (by rw [h1]; simp; omega), h1]⟩
  unfold lays
  rw [List.append_assoc, List.take_append_of_le_length (by simp), List.take_take, Nat.min_self]
  rw [List.take_zero, List.nil_append, List.take_append_of_le_length (by simp), List.take_of_length_le (by simp)]
/-- a unit laid behind those that wait -/
theorem laid1 {xs q : List Int} {u : Int} (hx : xs.take q.length = q) (hq : q.length < xs.length) : (xs.set q.length u).take (q ++ [u]).length = q ++ [u] := by
  rw [List.length_append, List.length_singleton, List.take_succ_eq_append_getElem (by simpa using hq), List.getElem_set_self]
  congr 1
  rw [List.take_set_of_le (Nat.le_refl _)]; exact hx
end Go.Proofs.Ytmjcnopkckkaoaa
