/- Texts of this seat, one behind the other: MixIn. -/
import Derived.Test.YtmenjcdmdmngcaaGreatDoorZ1
import Derived.OrdersIn
import Derived.OwnWalkIn
namespace Go.Proofs.YtmenjcdmdmngcaaGreatDoor
set_option linter.unusedVariables false
set_option linter.unusedSimpArgs false
set_option linter.unnecessarySimpa false
open Go.RowKit

def noDefer (ops : Array Oper) : Bool := ops.all fun o => match o.op with | .defer _ => false | _ => true
theorem noDefer_spec {ops : Array Oper} (h : noDefer ops = true) {i : Nat} {o : Oper} (ho : ops[i]? = some o) : ∀ c, o.op ≠ .defer c := by
  intro c e
  unfold noDefer at h
  rw [Array.all_eq_true] at h
  obtain ⟨hl, hi⟩ := Array.getElem?_eq_some_iff.1 ho
  have := h i hl
  rw [hi, e] at this
  cases this
theorem soft_about {P : Program} (o : Oper) (h : softOp o = true) (w : World) (ρ : Operand → Value) : o.about P w ρ = none := by
  obtain ⟨dst, op, ty, pos, after, guard⟩ := o
  cases op with
  | call c =>
    obtain ⟨callee, cargs, ctys⟩ := c
    cases callee with
    | builtin b => simp [Oper.about, resolve, Target.leads, Sem.run_pure]
    | _ => exact absurd h (by simp [softOp])
  | _ => rfl

section
variable {F : Fence} {n : Nat} {P : Program} {ops : Array Oper} {Q : Exit → Act → World → Prop} {md : Region.Mode} {G : World → World → Prop}

/-- it yields, and is about to make no call -/
def YieldsF (P : Program) (ops : Array Oper) (S : World → Prop) (o : Oper) (v : Value) (a : Act) : Prop := YieldsIf P ops S o v a ∧ softOp o = true
theorem yieldsF_fewer {S S' : World → Prop} {o : Oper} {v : Value} {a : Act} (h : ∀ x, S' x → S x) (k : YieldsF P ops S o v a) : YieldsF P ops S' o v a := ⟨yields_fewer h k.1, k.2⟩
theorem YieldsF.wpOpIn {S : World → Prop} {i : Nat} {o : Oper} {v : Value} {a : Act} (hnd : noDefer ops = true) (hi : ops[i]? = some o) (hy : YieldsF P ops S o v a)
    {K : Act → World → Prop} {w : World} (hS : S w) (h : K (a.put o.dst v) w) : wpOpIn F n P ops Q i K a w := by
  unfold Go.wpOpIn
  simp only [hi]
  have hab : ∀ f, o.about P w a.eval = some f → F.fn f := fun f hf => by rw [soft_about o hy.2] at hf; cases hf
  rcases hy.1 with ⟨hw, hv⟩ | ⟨hw, rfl⟩
  · simp only [hw, if_true, Oper.wpIn]
    rw [Oper.semAt_plain F _ _ (noDefer_spec hnd hi), hv w hS]
    simp only [Oper.uponIn]
    exact ⟨hab, h⟩
  · simp only [hw, Bool.false_eq_true, if_false]; exact ⟨hab, h⟩
theorem wpOpIn_putF {S : World → Prop} {j : Nat} {oi oj : Oper} {v : Value} (hnd : noDefer ops = true) (hj : ops[j]? = some oj) (hap : oi.apart ops oj = true)
    (hsi : ∀ cs b, oi.op ≠ .select cs b) (hsj : ∀ cs b, oj.op ≠ .select cs b)
    (hQ : ∀ c a w, Q (.panic c) (a.put oi.dst v) w → Q (.panic c) a w) {K : Act → World → Prop} {a : Act} {w : World}
    (hy : YieldsIf P ops S oi v a) (h : wpOpIn F n P ops Q j K (a.put oi.dst v) w) :
    wpOpIn F n P ops Q j (fun a' w' => YieldsIf P ops S oi v a' ∧ K (a'.put oi.dst v) w') a w := by
  obtain ⟨h1, h2, h3⟩ := Oper.apart_spec hap
  have keep : ∀ (a : Act), YieldsIf P ops S oi v a → ∀ u, YieldsIf P ops S oi v (a.put oj.dst u) := fun a hy u =>
    hy.of_same (execOp_put oi hsi a oj.dst u h3) (wanted_put oi a oj.dst u h3)
  have hdj := noDefer_spec hnd hj
  unfold wpOpIn at *
  simp only [hj] at *
  rw [wanted_put oj a oi.dst v h1, about_put oj w a oi.dst v h1] at h
  split
  · rename_i hw
    simp only [hw, if_true] at h
    unfold Oper.wpIn at *
    rw [about_put oj w a oi.dst v h1] at h
    refine ⟨h.1, ?_⟩
    have h := h.2
    rw [Oper.semAt_plain F _ _ hdj, execOp_put oj hsj a oi.dst v h1] at h
    rw [Oper.semAt_plain F _ _ hdj]
    generalize (execOp a.eval oj).run P w = r at *
    cases r with
    | ok x w' =>
      cases x <;> simp only [Oper.uponIn] at h ⊢
      case value u => exact ⟨keep a hy u, by rw [← Act.put_comm a v u h2]; exact h⟩
      case skip => exact ⟨keep a hy _, by rw [← Act.put_comm a v undef h2]; exact h⟩
      case defer d =>
        refine ⟨keep _ (show YieldsIf P ops S oi v { a with defers := d :: a.defers } from hy.of_same rfl rfl) _, ?_⟩
        rw [← Act.put_comm _ v undef h2, ← Act.put_defers]
        exact h
      case enter f args =>
        refine ⟨h.1, CallsIn.mono h.2 fun e w'' he => ?_⟩
        cases e with
        | returned u => exact ⟨keep a hy u, by rw [← Act.put_comm a v u h2]; exact he⟩
        | panicked c => exact hQ _ _ _ he
        | outgrown => exact he
      case row row args => exact ⟨h.1, RowsIn.mono h.2 fun u w'' he => ⟨keep a hy u, by rw [← Act.put_comm a v u h2]; exact he⟩⟩
      case round l f tmps assign body =>
        refine ⟨h.1, RoundIn.mono h.2 fun e w'' he => ?_⟩
        cases e with
        | returned u => exact ⟨keep a hy u, by rw [← Act.put_comm a v u h2]; exact he⟩
        | panicked c => exact hQ _ _ _ he
        | outgrown => exact he
    | halt x w' =>
      cases x <;> simp only [Oper.uponIn] at h ⊢
      case panic u => exact hQ _ _ _ h
  · rename_i hw
    simp only [hw] at h
    exact ⟨h.1, keep a hy _, by rw [← Act.put_comm a v undef h2]; exact h.2⟩

def AnyI (F : Fence) (n : Nat) (P : Program) (md : Region.Mode) (ops : Array Oper) (Q : Exit → Act → World → Prop) (G : World → World → Prop) : Nat → Array Bool → Act → World → Prop
  | 0, listed, a, u => Region.ready md ops listed = [] ∧ Q .normal a u
  | f + 1, listed, a, u => (Region.ready md ops listed = [] → Q .normal a u) ∧ ∀ i ∈ Region.ready md ops listed, wpOpIn F n P ops Q i (fun a' w'' => G u w'' ∧ AnyI F n P md ops Q G f (listed.setIfInBounds i true) a' w'') a u
theorem AnyI.any : ∀ (f : Nat) (listed : Array Bool) (a : Act) (u : World), AnyI F n P md ops Q G f listed a u → wpAnyIn F n P md ops Q f listed a u
  | 0, _, _, _, H => H
  | f + 1, _, _, _, H => ⟨H.1, fun i hi => wpOpIn_mono (fun a' w' h' => AnyI.any f _ a' w' h'.2) (H.2 i hi)⟩
theorem AnyI.take (Gr : ∀ w : World, G w w) (Gt : ∀ a b c : World, G a b → G b c → G a c) (hQ : ∀ c a w, ¬ Q (.panic c) a w) (hs : Region.noSelect ops = true) (hnd : noDefer ops = true) {i : Nat} {o : Oper} {v : Value} (ho : ops[i]? = some o) :
    ∀ (k : Nat) {listed : Array Bool} {a : Act} {u : World}, Foremost md ops o i listed → YieldsF P ops (G u) o v a →
      AnyI F n P md ops Q G k (listed.setIfInBounds i true) (a.put o.dst v) u → AnyI F n P md ops Q G (k + 1) listed a u
  | k, listed, a, u, hf, hy, H => by
    constructor
    · intro none_; have := hf.up; rw [none_] at this; cases this
    intro j hj
    by_cases hji : j = i
    · rw [hji]; exact hy.wpOpIn hnd ho (Gr u) ⟨Gr u, H⟩
    have hji' : j ∈ Region.ready md ops (listed.setIfInBounds i true) := ready_mono hj hji
    cases k with
    | zero => rw [H.1] at hji'; cases hji'
    | succ k =>
      obtain ⟨_, oj, hoj, _⟩ := mem_ready.1 hj
      have sel := Region.noSelect_spec hs
      refine wpOpIn_mono ?_ (wpOpIn_putF hnd hoj (hf.apart hj hji hoj) (fun cs b => sel i o cs b ho) (fun cs b => sel j oj cs b hoj) (fun c a w h => absurd h (hQ _ _ _)) hy.1 (H.2 j hji'))
      rintro a' w'' ⟨hy', hG, H'⟩
      refine ⟨hG, AnyI.take Gr Gt hQ hs hnd ho k (hf.past hj hji) (yieldsF_fewer (fun x hx => Gt _ _ _ hG hx) ⟨hy', hy.2⟩) ?_⟩
      rw [Array.setIfInBounds_comm _ _ hji]
      exact H'
/-- The walk in the order tau. -/
def MixI (F : Fence) (n : Nat) (P : Program) (ops : Array Oper) (Q : Exit → Act → World → Prop) (G : World → World → Prop) : List (Nat × Bool) → Act → World → Prop
  | [], a, u => Q .normal a u
  | (i, false) :: τ, a, u => ∃ o v, ops[i]? = some o ∧ YieldsF P ops (G u) o v a ∧ MixI F n P ops Q G τ (a.put o.dst v) u
  | (i, true) :: τ, a, u => wpOpIn F n P ops Q i (fun a' w'' => G u w'' ∧ MixI F n P ops Q G τ a' w'') a u
theorem mixi_any (Gr : ∀ w : World, G w w) (Gt : ∀ a b c : World, G a b → G b c → G a c) (hQ : ∀ c a w, ¬ Q (.panic c) a w) (hs : Region.noSelect ops = true) (hnd : noDefer ops = true) :
    ∀ (τ : List (Nat × Bool)) (listed : Array Bool) (a : Act) (u : World), mixB md ops τ listed = true → MixI F n P ops Q G τ a u → AnyI F n P md ops Q G τ.length listed a u
  | [], listed, a, u, hB, H => ⟨by simpa [mixB] using hB, H⟩
  | (i, false) :: τ, listed, a, u, hB, H => by
    obtain ⟨o, v, ho, hy, hk⟩ := H
    simp only [mixB, Bool.and_eq_true] at hB
    exact AnyI.take Gr Gt hQ hs hnd ho τ.length ⟨by simpa using hB.1.1, Region.free_spec ho hB.1.2⟩ hy (mixi_any Gr Gt hQ hs hnd τ _ _ u hB.2 hk)
  | (i, true) :: τ, listed, a, u, hB, H => by
    simp only [mixB, Bool.and_eq_true, beq_iff_eq] at hB
    refine ⟨fun h => (by rw [hB.1] at h; cases h), fun j hj => ?_⟩
    rw [hB.1] at hj
    obtain rfl : j = i := by simpa using hj
    exact wpOpIn_mono (fun a' w'' h => ⟨h.1, mixi_any Gr Gt hQ hs hnd τ _ a' w'' hB.2 h.2⟩) H
theorem wpIn_region_mixe {id : Nat} {l : List Oper} {a : Act} {w : World} (τ : List (Nat × Bool)) (Gr : ∀ w : World, G w w) (Gt : ∀ a b c : World, G a b → G b c → G a c) (hm : P.follows .mixedOrders = true)
    (hl : τ.length = l.length) (hs : Region.noSelect l.toArray = true) (hnd : noDefer l.toArray = true) (hB : mixB .any l.toArray τ (Array.replicate l.length false) = true)
    (h : MixI F n P l.toArray (NoPanic Q) G τ a w.drew) : (Code.region id l.toArray true).wpIn F n P Q a w := by
  refine Code.wpIn_mono NoPanic.imp (wpIn_region_any hm ?_)
  have h1 := mixi_any (md := .any) Gr Gt (fun _ _ _ h => h) hs hnd τ (Array.replicate l.length false) a w.drew hB h
  rw [hl] at h1
  have h2 := AnyI.any _ _ _ _ h1
  simpa using h2
theorem mixi_one {l : List Oper} {i : Nat} {τ : List (Nat × Bool)} {o : Oper} {a : Act} {u : World} (ho : l[i]? = some o) (hs : softOp o = true)
    (h : wpQuiet P l.toArray (G u) (fun a' => MixI F n P l.toArray Q G τ a' u) [o] a) : MixI F n P l.toArray Q G ((i, false) :: τ) a u := by
  have ho' : l.toArray[i]? = some o := by simpa using ho
  have h' : qOp P l.toArray (G u) i (fun a' => MixI F n P l.toArray Q G τ a' u) a := by unfold qOp; simp only [ho']; exact h
  obtain ⟨v, hy, hk⟩ := yieldsIn_of_qOp ho' h'
  refine ⟨o, v, ho', ⟨?_, hs⟩, hk⟩
  rcases hy with ⟨hw, hv⟩ | hy
  · refine .inl ⟨hw, fun w hG => ?_⟩
    have h1 := hv w hG
    unfold Oper.quietAt at h1
    cases hr : (execOp a.eval o).run P w with
    | halt x w1 => rw [hr] at h1; exact h1.elim
    | ok r w1 =>
      obtain ⟨u, rfl⟩ := soft_value _ o hs w r w1 hr
      rw [hr] at h1
      obtain ⟨rfl, rfl⟩ := h1
      rfl
  · exact .inr hy
theorem wpIn_then {o : Oper} {a : Act} {w : World} {K : Act → World → Prop} (h : o.wpIn F n P a w K (Exit.then K Q)) : o.wpIn F n P a w K Q := by
  unfold Oper.wpIn at *
  refine ⟨h.1, ?_⟩
  have h := h.2
  generalize (o.semAt F.round a.eval).run P w = r at *
  cases r with
  | ok x w' => cases x <;> exact h
  | halt x w' => cases x <;> exact h
theorem mixi_call {l : List Oper} {i : Nat} {τ : List (Nat × Bool)} {o : Oper} {a : Act} {u : World} (ho : l[i]? = some o)
    (h : wpListIn F n P l.toArray (Exit.then (fun a' w'' => G u w'' ∧ MixI F n P l.toArray Q G τ a' w'') Q) [o] a u) : MixI F n P l.toArray Q G ((i, true) :: τ) a u := by
  have ho' : l.toArray[i]? = some o := by simpa using ho
  show wpOpIn F n P l.toArray Q i (fun a' w'' => G u w'' ∧ MixI F n P l.toArray Q G τ a' w'') a u
  unfold wpOpIn
  simp only [ho']
  simp only [wpListIn] at h
  by_cases hwd : Region.wanted o (yielded l.toArray a.tmps) = true
  · simp only [hwd, if_true] at h ⊢
    exact wpIn_then h
  · simp only [hwd] at h ⊢
    exact h
/-! a region none of whose operations is taken out of the way: a tree of orders -/
theorem anyIn_start {id : Nat} {l : List Oper} {a : Act} {w : World} (hm : P.follows .mixedOrders = true) (h : wpAnyIn F n P .any l.toArray Q l.length (Array.replicate l.length false) a w.drew) : (Code.region id l.toArray true).wpIn F n P Q a w :=
  wpIn_region_any hm (by simpa using h)
theorem anyIn_op {l : List Oper} {i f : Nat} {listed : Array Bool} {o : Oper} {a : Act} {u : World} (ho : l[i]? = some o)
    (h : wpListIn F n P l.toArray (Exit.then (wpAnyIn F n P md l.toArray Q f (listed.setIfInBounds i true)) Q) [o] a u) : wpOpIn F n P l.toArray Q i (wpAnyIn F n P md l.toArray Q f (listed.setIfInBounds i true)) a u := by
  have ho' : l.toArray[i]? = some o := by simpa using ho
  unfold wpOpIn
  simp only [ho']
  simp only [wpListIn] at h
  by_cases hwd : Region.wanted o (yielded l.toArray a.tmps) = true
  · simp only [hwd, if_true] at h ⊢
    exact wpIn_then h
  · simp only [hwd] at h ⊢
    exact h
theorem anyIn_one {l : List Oper} (i : Nat) {f : Nat} {listed : Array Bool} {o : Oper} {a : Act} {u : World} (hr : Region.ready md l.toArray listed = [i]) (ho : l[i]? = some o)
    (h : wpListIn F n P l.toArray (Exit.then (wpAnyIn F n P md l.toArray Q f (listed.setIfInBounds i true)) Q) [o] a u) : wpAnyIn F n P md l.toArray Q (f + 1) listed a u := by
  refine ⟨fun h => (by rw [hr] at h; cases h), fun j hj => ?_⟩
  rw [hr] at hj
  obtain rfl : j = i := by simpa using hj
  exact anyIn_op ho h
theorem anyIn_two {l : List Oper} (i k : Nat) {f : Nat} {listed : Array Bool} {o o' : Oper} {a : Act} {u : World} (hr : Region.ready md l.toArray listed = [i, k]) (ho : l[i]? = some o) (ho' : l[k]? = some o')
    (h : wpListIn F n P l.toArray (Exit.then (wpAnyIn F n P md l.toArray Q f (listed.setIfInBounds i true)) Q) [o] a u)
    (h' : wpListIn F n P l.toArray (Exit.then (wpAnyIn F n P md l.toArray Q f (listed.setIfInBounds k true)) Q) [o'] a u) : wpAnyIn F n P md l.toArray Q (f + 1) listed a u := by
  refine ⟨fun h => (by rw [hr] at h; cases h), fun j hj => ?_⟩
  rw [hr] at hj
  rcases (show j = i ∨ j = k by simpa using hj) with rfl | rfl
  · exact anyIn_op ho h
  · exact anyIn_op ho' h'
theorem anyIn_end {l : List Oper} {listed : Array Bool} {a : Act} {u : World} (hr : Region.ready md l.toArray listed = []) (h : Q .normal a u) : wpAnyIn F n P md l.toArray Q 0 listed a u := ⟨hr, h⟩
end
end Go.Proofs.YtmenjcdmdmngcaaGreatDoor
