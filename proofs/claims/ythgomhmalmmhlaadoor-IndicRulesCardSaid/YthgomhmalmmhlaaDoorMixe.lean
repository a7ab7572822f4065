/- A region that draws its order, as in Mix, but the world behind an operation that does more is just the one at hand: rows of one's own stay known from one such operation to the next. No program is named here. -/
import Derived.Test.YthgomhmalmmhlaaDoorMix
namespace Go.Proofs.YthgomhmalmmhlaaDoor
set_option linter.unusedVariables false
open Go.RowKit

section
variable {P : Program} {ops : Array Oper} {Q : Exit → Act → World → Prop} {md : Region.Mode} {G : World → World → Prop}

/-- Whatever order is picked from here on, from this very world. -/
def AnyE (P : Program) (md : Region.Mode) (ops : Array Oper) (Q : Exit → Act → World → Prop) (G : World → World → Prop) : Nat → Array Bool → Act → World → Prop
  | 0, listed, a, u => Region.ready md ops listed = [] ∧ Q .normal a u
  | f + 1, listed, a, u => (Region.ready md ops listed = [] → Q .normal a u) ∧ ∀ i ∈ Region.ready md ops listed, wpOp P ops Q i (fun a' w'' => G u w'' ∧ AnyE P md ops Q G f (listed.setIfInBounds i true) a' w'') a u

theorem AnyE.any : ∀ (f : Nat) (listed : Array Bool) (a : Act) (u : World), AnyE P md ops Q G f listed a u → wpAny P md ops Q f listed a u
  | 0, _, _, _, H => H
  | f + 1, _, _, _, H => ⟨H.1, fun i hi => wpOp_mono (fun a' w' h' => AnyE.any f _ a' w' h'.2) (H.2 i hi)⟩

theorem AnyE.take (Gr : ∀ w : World, G w w) (Gt : ∀ a b c : World, G a b → G b c → G a c) (hQ : ∀ c a w, ¬ Q (.panic c) a w) (hs : Region.noSelect ops = true) {i : Nat} {o : Oper} {v : Value} (ho : ops[i]? = some o) :
    ∀ (n : Nat) {listed : Array Bool} {a : Act} {u : World}, Foremost md ops o i listed → YieldsIf P ops (G u) o v a →
      AnyE P md ops Q G n (listed.setIfInBounds i true) (a.put o.dst v) u → AnyE P md ops Q G (n + 1) listed a u
  | n, listed, a, u, hf, hy, H => by
    constructor
    · intro none_; have := hf.up; rw [none_] at this; cases this
    intro j hj
    by_cases hji : j = i
    · rw [hji]; exact hy.wpOp ho (Gr u) ⟨Gr u, H⟩
    have hji' : j ∈ Region.ready md ops (listed.setIfInBounds i true) := ready_mono hj hji
    cases n with
    | zero => rw [H.1] at hji'; cases hji'
    | succ n =>
      obtain ⟨_, oj, hoj, _⟩ := mem_ready.1 hj
      have sel := Region.noSelect_spec hs
      refine wpOp_mono ?_ (wpOp_putIf hoj (hf.apart hj hji hoj) (fun cs b => sel i o cs b ho) (fun cs b => sel j oj cs b hoj) (fun c a w h => absurd h (hQ _ _ _)) hy (H.2 j hji'))
      rintro a' w'' ⟨hy', hG, H'⟩
      refine ⟨hG, AnyE.take Gr Gt hQ hs ho n (hf.past hj hji) (yields_fewer (fun x hx => Gt _ _ _ hG hx) hy') ?_⟩
      rw [Array.setIfInBounds_comm _ _ hji]
      exact H'

/-- The walk in the order tau. -/
def Mixe (P : Program) (ops : Array Oper) (Q : Exit → Act → World → Prop) (G : World → World → Prop) : List (Nat × Bool) → Act → World → Prop
  | [], a, u => Q .normal a u
  | (i, false) :: τ, a, u => ∃ o v, ops[i]? = some o ∧ YieldsIf P ops (G u) o v a ∧ Mixe P ops Q G τ (a.put o.dst v) u
  | (i, true) :: τ, a, u => wpOp P ops Q i (fun a' w'' => G u w'' ∧ Mixe P ops Q G τ a' w'') a u

theorem mixe_any (Gr : ∀ w : World, G w w) (Gt : ∀ a b c : World, G a b → G b c → G a c) (hQ : ∀ c a w, ¬ Q (.panic c) a w) (hs : Region.noSelect ops = true) :
    ∀ (τ : List (Nat × Bool)) (listed : Array Bool) (a : Act) (u : World), mixB md ops τ listed = true → Mixe P ops Q G τ a u → AnyE P md ops Q G τ.length listed a u
  | [], listed, a, u, hB, H => ⟨by simpa [mixB] using hB, H⟩
  | (i, false) :: τ, listed, a, u, hB, H => by
    obtain ⟨o, v, ho, hy, hk⟩ := H
    simp only [mixB, Bool.and_eq_true] at hB
    exact AnyE.take Gr Gt hQ hs ho τ.length ⟨by simpa using hB.1.1, Region.free_spec ho hB.1.2⟩ hy (mixe_any Gr Gt hQ hs τ _ _ u hB.2 hk)
  | (i, true) :: τ, listed, a, u, hB, H => by
    simp only [mixB, Bool.and_eq_true, beq_iff_eq] at hB
    refine ⟨fun h => (by rw [hB.1] at h; cases h), fun j hj => ?_⟩
    rw [hB.1] at hj
    obtain rfl : j = i := by simpa using hj
    exact wpOp_mono (fun a' w'' h => ⟨h.1, mixe_any Gr Gt hQ hs τ _ a' w'' hB.2 h.2⟩) H

theorem wp_region_mixe {id : Nat} {l : List Oper} {a : Act} {w : World} (τ : List (Nat × Bool)) (Gr : ∀ w : World, G w w) (Gt : ∀ a b c : World, G a b → G b c → G a c) (hm : P.follows .mixedOrders = true)
    (hl : τ.length = l.length) (hs : Region.noSelect l.toArray = true) (hB : mixB .any l.toArray τ (Array.replicate l.length false) = true)
    (h : Mixe P l.toArray (NoPanic Q) G τ a w.drew) : (Code.region id l.toArray true).wp P Q a w := by
  refine wp_region_noPanic (wp_region_any hm ?_)
  have h1 := mixe_any (md := .any) Gr Gt (fun _ _ _ h => h) hs τ (Array.replicate l.length false) a w.drew hB h
  rw [hl] at h1
  have h2 := AnyE.any _ _ _ _ h1
  simpa using h2

theorem below_fix (B : Nat) (w : World) : Below B w w := Below.refl _ _
theorem below_fix_trans (B : Nat) (a b c : World) (h : Below B a b) (k : Below B b c) : Below B a c := h.trans k
theorem mixe_one {l : List Oper} {i : Nat} {τ : List (Nat × Bool)} {o : Oper} {a : Act} {u : World} (ho : l[i]? = some o) (hs : softOp o = true)
    (h : wpQuiet P l.toArray (G u) (fun a' => Mixe P l.toArray Q G τ a' u) [o] a) : Mixe P l.toArray Q G ((i, false) :: τ) a u := by
  have ho' : l.toArray[i]? = some o := by simpa using ho
  have h' : qOp P l.toArray (G u) i (fun a' => Mixe P l.toArray Q G τ a' u) a := by unfold qOp; simp only [ho']; exact h
  obtain ⟨v, hy, hk⟩ := yieldsIn_of_qOp ho' h'
  refine ⟨o, v, ho', ?_, hk⟩
  rcases hy with ⟨hw, hv⟩ | hy
  · refine .inl ⟨hw, fun w hG => ?_⟩
    have h1 := hv w hG
    unfold Oper.quietAt at h1
    cases hr : (execOp a.eval o).run P w with
    | halt x w1 => rw [hr] at h1; exact h1.elim
    | ok r w1 =>
      obtain ⟨u, rfl⟩ := soft_value _ o hs w r w1 hr
      rw [hr] at h1
      obtain ⟨rfl, rfl⟩ := h1
      rfl
  · exact .inr hy
theorem mixe_call {l : List Oper} {i : Nat} {τ : List (Nat × Bool)} {o : Oper} {a : Act} {u : World} (ho : l[i]? = some o)
    (h : wpList P l.toArray (Exit.then (fun a' w'' => G u w'' ∧ Mixe P l.toArray Q G τ a' w'') Q) [o] a u) : Mixe P l.toArray Q G ((i, true) :: τ) a u := by
  have ho' : l.toArray[i]? = some o := by simpa using ho
  show wpOp P l.toArray Q i (fun a' w'' => G u w'' ∧ Mixe P l.toArray Q G τ a' w'') a u
  unfold wpOp
  simp only [ho']
  simp only [wpList] at h
  by_cases hwd : Region.wanted o (yielded l.toArray a.tmps) = true
  · simp only [hwd, if_true] at h ⊢
    exact h.imp wp_then (fun h => ⟨h.1, lets_then h.2⟩)
  · simp only [hwd] at h ⊢
    exact h
end
end Go.Proofs.YthgomhmalmmhlaaDoor
