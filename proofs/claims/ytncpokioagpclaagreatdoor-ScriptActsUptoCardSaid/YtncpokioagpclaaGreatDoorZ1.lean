/- Texts of this seat, one behind the other: Mix, Mixe. -/
import Derived.Test.YtncpokioagpclaaGreatDoorLib
import Derived.Deep.RegionHeld3
import Derived.Deep.RegionWith
namespace Go.Proofs.YtncpokioagpclaaGreatDoor
set_option linter.unusedVariables false
open Go.RowKit

/-- an operation that never enters a function -/
def softOp (o : Oper) : Bool :=
  match o.op with
  | .move _ | .assign _ | .pick .. | .nilCheck _ | .alloc _ | .box .. | .build .. | .buildSlice .. | .load .. | .binOp .. | .unOp .. | .convert .. | .makeInterface .. | .makeFunc .. | .slice .. | .fieldAddr .. | .field .. | .indexAddr .. | .index .. | .lookup .. | .extract .. | .typeAssert .. => true
  | .call { callee := .builtin .len, .. } | .call { callee := .builtin .cap, .. } | .call { callee := .builtin .min, .. } | .call { callee := .builtin .max, .. } => true
  | _ => false

theorem value_only {P : Program} (s : Sem Value) (w : World) (r : Next) (w' : World) (h : (do pure (Next.value (← s)) : Sem Next).run P w = .ok r w') : ∃ v, r = .value v := by
  simp only [Sem.run_bind, Sem.run_pure] at h
  cases hs : s.run P w with
  | ok v w1 => rw [hs] at h; simp [Result.andThen] at h; exact ⟨v, h.1.symm⟩
  | halt x w1 => rw [hs] at h; simp [Result.andThen] at h

theorem bind_value {P : Program} {α : Type} (s : Sem α) (k : α → Sem Next) (hk : ∀ x w r w', (k x).run P w = .ok r w' → ∃ v, r = .value v) (w : World) (r : Next) (w' : World) (h : (s >>= k).run P w = .ok r w') : ∃ v, r = .value v := by
  rw [Sem.run_bind] at h
  cases hs : s.run P w with
  | ok v w1 => rw [hs] at h; exact hk _ _ _ _ h
  | halt x w1 => rw [hs] at h; simp [Result.andThen] at h

theorem soft_value {P : Program} (ρ : Operand → Value) (o : Oper) (h : softOp o = true) (w : World) (r : Next) (w' : World) (hr : (execOp ρ o).run P w = .ok r w') : ∃ v, r = .value v := by
  obtain ⟨dst, op, ty, pos, after, guard⟩ := o
  cases op with
  | call c =>
    obtain ⟨callee, cargs, ctys⟩ := c
    cases callee with
    | builtin b =>
      cases b <;> first
        | (refine absurd h ?_; simp [softOp]; done)
        | (have hv := value_only (P := P)
           simp only [Sem.run_bind, Sem.run_pure] at hv
           simp only [execOp, resolve, invoke, builtin, Sem.run_bind, Sem.run_pure, Result.andThen_ok] at hr
           exact hv _ _ _ _ hr)
    | _ => exact absurd h (by simp [softOp])
  | move x => simp [execOp, Sem.run_pure] at hr; exact ⟨_, hr.1.symm⟩
  | assign x => simp [execOp, Sem.run_pure] at hr; exact ⟨_, hr.1.symm⟩
  | pick c a b =>
    simp only [execOp, Sem.run_bind, Sem.run_pure] at hr
    cases hs : (asBool (ρ c)).run P w with
    | ok v w1 => rw [hs] at hr; simp [Result.andThen] at hr; exact ⟨_, hr.1.symm⟩
    | halt x w1 => rw [hs] at hr; simp [Result.andThen] at hr
  | nilCheck x =>
    simp only [execOp] at hr
    split at hr
    · simp [runtimePanic, goPanic, Sem.run_bind, Sem.run] at hr
    · simp [runtimePanic, goPanic, Sem.run_bind, Sem.run] at hr
    · simp [runtimePanic, goPanic, Sem.run_bind, Sem.run] at hr
    · have last : ∀ (v : Value) (w : World) (r : Next) (w' : World), (pure (Next.value v) : Sem Next).run P w = .ok r w' → ∃ v, r = .value v := fun v w r w' h => by
        simp [Sem.run_pure] at h; exact ⟨_, h.1.symm⟩
      split at hr
      · simp [runtimePanic, goPanic, Sem.run_bind, Sem.run] at hr
      · refine bind_value _ _ (fun p w r w' h => bind_value _ _ (fun b w r w' h => ?_) _ _ _ h) _ _ _ hr
        split at h
        · exact bind_value _ _ (fun _ w r w' h => last _ w r w' h) _ _ _ h
        · exact last _ _ _ _ h
      · exact last _ _ _ _ hr
    · simp [Sem.run_pure] at hr; exact ⟨_, hr.1.symm⟩
  | _ => first
    | (refine absurd h ?_; simp [softOp]; done)
    | exact value_only _ _ _ _ hr

section
variable {P : Program} {ops : Array Oper} {Q : Exit → Act → World → Prop} {md : Region.Mode} {G : World → World → Prop}

/-- Whatever order is picked from here on, from whatever world that is later than u. -/
def AnyK (P : Program) (md : Region.Mode) (ops : Array Oper) (Q : Exit → Act → World → Prop) (G : World → World → Prop) : Nat → Array Bool → Act → World → Prop
  | 0, listed, a, u => ∀ w', G u w' → Region.ready md ops listed = [] ∧ Q .normal a w'
  | f + 1, listed, a, u => ∀ w', G u w' → (Region.ready md ops listed = [] → Q .normal a w') ∧
      ∀ i ∈ Region.ready md ops listed, wpOp P ops Q i (fun a' w'' => G w' w'' ∧ AnyK P md ops Q G f (listed.setIfInBounds i true) a' w'') a w'

theorem AnyK.later (Gt : ∀ a b c : World, G a b → G b c → G a c) : ∀ {f : Nat} {listed : Array Bool} {a : Act} {u u' : World}, G u u' → AnyK P md ops Q G f listed a u → AnyK P md ops Q G f listed a u'
  | 0, _, _, _, _, h, H => fun w' hw => H w' (Gt _ _ _ h hw)
  | _ + 1, _, _, _, _, h, H => fun w' hw => H w' (Gt _ _ _ h hw)

theorem AnyK.any (Gr : ∀ w : World, G w w) : ∀ (f : Nat) (listed : Array Bool) (a : Act) (u w : World), AnyK P md ops Q G f listed a u → G u w → wpAny P md ops Q f listed a w
  | 0, _, _, _, w, H, h => H w h
  | f + 1, _, _, _, w, H, h => ⟨(H w h).1, fun i hi => wpOp_mono (fun a' w' h' => AnyK.any Gr f _ a' w' w' h'.2 (Gr w')) ((H w h).2 i hi)⟩

theorem yields_fewer {S S' : World → Prop} {o : Oper} {v : Value} {a : Act} (h : ∀ x, S' x → S x) : YieldsIf P ops S o v a → YieldsIf P ops S' o v a
  | .inl ⟨hw, hv⟩ => .inl ⟨hw, fun x hx => hv x (h x hx)⟩
  | .inr hs => .inr hs

/-- number i may come up now, and nobody who is still to come, and does not wait for it, touches what it touches -/
structure Foremost (md : Region.Mode) (ops : Array Oper) (o : Oper) (i : Nat) (listed : Array Bool) : Prop where
  up : i ∈ Region.ready md ops listed
  alone : ∀ k ok, ops[k]? = some ok → k ≠ i → listed.getD k true = false → (∀ e ∈ ok.after, Region.binds md e = true → e.on ≠ i) → o.apart ops ok = true

/-- whoever comes up beside it does not wait for it -/
theorem Foremost.apart {o oj : Oper} {i j : Nat} {listed : Array Bool} (h : Foremost md ops o i listed) (hj : j ∈ Region.ready md ops listed) (hne : j ≠ i) (ho : ops[j]? = some oj) : o.apart ops oj = true := by
  obtain ⟨open_, oj', ho', waits⟩ := mem_ready.1 hj
  obtain rfl : oj = oj' := Option.some.inj (ho.symm.trans ho')
  refine h.alone j oj ho hne open_ fun e he hb hon => ?_
  have over : listed.getD i false = true := hon ▸ waits e he hb
  have still : listed.getD i true = false := (mem_ready.1 h.up).1
  by_cases hs : i < listed.size
  · simp only [Array.getD_eq_getD_getElem?, Array.getElem?_eq_getElem hs, Option.getD_some] at over still
    exact Bool.noConfusion (over.symm.trans still)
  · simp only [Array.getD_eq_getD_getElem?, Array.getElem?_eq_none (Nat.le_of_not_lt hs), Option.getD_none] at over
    cases over

/-- it stays foremost when another has come up -/
theorem Foremost.past {o : Oper} {i j : Nat} {listed : Array Bool} (h : Foremost md ops o i listed) (hj : j ∈ Region.ready md ops listed) (hne : j ≠ i) : Foremost md ops o i (listed.setIfInBounds j true) where
  up := ready_mono h.up fun e => hne e.symm
  alone k ok hk hki still free := h.alone k ok hk hki (if e : j = k then e ▸ (mem_ready.1 hj).1 else (getD_set_ne true e) ▸ still) free

theorem AnyK.take (Gr : ∀ w : World, G w w) (Gt : ∀ a b c : World, G a b → G b c → G a c) (hQ : ∀ c a w, ¬ Q (.panic c) a w) (hs : Region.noSelect ops = true) {i : Nat} {o : Oper} {v : Value} (ho : ops[i]? = some o) :
    ∀ (n : Nat) {listed : Array Bool} {a : Act} {u : World}, Foremost md ops o i listed → YieldsIf P ops (G u) o v a →
      AnyK P md ops Q G n (listed.setIfInBounds i true) (a.put o.dst v) u → AnyK P md ops Q G (n + 1) listed a u
  | n, listed, a, u, hf, hy, H => fun w' hw => by
    constructor
    · intro none_; have := hf.up; rw [none_] at this; cases this
    intro j hj
    by_cases hji : j = i
    · rw [hji]; exact hy.wpOp ho hw ⟨Gr w', AnyK.later Gt hw H⟩
    have hji' : j ∈ Region.ready md ops (listed.setIfInBounds i true) := ready_mono hj hji
    cases n with
    | zero => rw [(H w' hw).1] at hji'; cases hji'
    | succ n =>
      obtain ⟨_, oj, hoj, _⟩ := mem_ready.1 hj
      have sel := Region.noSelect_spec hs
      refine wpOp_mono ?_ (wpOp_putIf hoj (hf.apart hj hji hoj) (fun cs b => sel i o cs b ho) (fun cs b => sel j oj cs b hoj) (fun c a w h => absurd h (hQ _ _ _)) hy ((H w' hw).2 j hji'))
      rintro a' w'' ⟨hy', hG, H'⟩
      refine ⟨hG, AnyK.take Gr Gt hQ hs ho n (hf.past hj hji) (yields_fewer (fun x hx => Gt _ _ _ hw (Gt _ _ _ hG hx)) hy') ?_⟩
      rw [Array.setIfInBounds_comm _ _ hji]
      exact H'

/-- The walk in the order tau: false: an operation that yields the same in every world later than u; true: one that may do more; the worlds are counted anew behind it. -/
def Mix (P : Program) (ops : Array Oper) (Q : Exit → Act → World → Prop) (G : World → World → Prop) : List (Nat × Bool) → Act → World → Prop
  | [], a, u => ∀ w', G u w' → Q .normal a w'
  | (i, false) :: τ, a, u => ∃ o v, ops[i]? = some o ∧ YieldsIf P ops (G u) o v a ∧ Mix P ops Q G τ (a.put o.dst v) u
  | (i, true) :: τ, a, u => ∀ w', G u w' → wpOp P ops Q i (fun a' w'' => G w' w'' ∧ Mix P ops Q G τ a' w'') a w'

def mixB (md : Region.Mode) (ops : Array Oper) : List (Nat × Bool) → Array Bool → Bool
  | [], listed => (Region.ready md ops listed).isEmpty
  | (i, false) :: τ, listed => (Region.ready md ops listed).contains i && Region.free md ops listed i && mixB md ops τ (listed.setIfInBounds i true)
  | (i, true) :: τ, listed => (Region.ready md ops listed == [i]) && mixB md ops τ (listed.setIfInBounds i true)

theorem mix_any (Gr : ∀ w : World, G w w) (Gt : ∀ a b c : World, G a b → G b c → G a c) (hQ : ∀ c a w, ¬ Q (.panic c) a w) (hs : Region.noSelect ops = true) :
    ∀ (τ : List (Nat × Bool)) (listed : Array Bool) (a : Act) (u : World), mixB md ops τ listed = true → Mix P ops Q G τ a u → AnyK P md ops Q G τ.length listed a u
  | [], listed, a, u, hB, H => fun w' hw => ⟨by simpa [mixB] using hB, H w' hw⟩
  | (i, false) :: τ, listed, a, u, hB, H => by
    obtain ⟨o, v, ho, hy, hk⟩ := H
    simp only [mixB, Bool.and_eq_true] at hB
    exact AnyK.take Gr Gt hQ hs ho τ.length ⟨by simpa using hB.1.1, Region.free_spec ho hB.1.2⟩ hy (mix_any Gr Gt hQ hs τ _ _ u hB.2 hk)
  | (i, true) :: τ, listed, a, u, hB, H => by
    simp only [mixB, Bool.and_eq_true, beq_iff_eq] at hB
    intro w' hw
    refine ⟨fun h => (by rw [hB.1] at h; cases h), fun j hj => ?_⟩
    rw [hB.1] at hj
    obtain rfl : j = i := by simpa using hj
    exact wpOp_mono (fun a' w'' h => ⟨h.1, mix_any Gr Gt hQ hs τ _ a' w'' hB.2 h.2⟩) (H w' hw)

/-- A region that draws its order, walked once. -/
theorem wp_region_mix {id : Nat} {l : List Oper} {a : Act} {w : World} (τ : List (Nat × Bool)) (Gr : ∀ w : World, G w w) (Gt : ∀ a b c : World, G a b → G b c → G a c) (hm : P.follows .mixedOrders = true)
    (hl : τ.length = l.length) (hs : Region.noSelect l.toArray = true) (hB : mixB .any l.toArray τ (Array.replicate l.length false) = true) (hd : G w w.drew)
    (h : Mix P l.toArray (NoPanic Q) G τ a w) : (Code.region id l.toArray true).wp P Q a w := by
  refine wp_region_noPanic (wp_region_any hm ?_)
  have h1 := mix_any (md := .any) Gr Gt (fun _ _ _ h => h) hs τ (Array.replicate l.length false) a w hB h
  rw [hl] at h1
  have h2 := AnyK.any Gr _ _ _ w w.drew h1 hd
  simpa using h2

theorem below_refl (w : World) : Below w.heap.size w w := Below.refl _ _
theorem below_trans (a b c : World) (h : Below a.heap.size a b) (k : Below b.heap.size b c) : Below a.heap.size a c := h.trans (k.mono h.size)
theorem mix_nil {a : Act} {u : World} (h : ∀ w', G u w' → Q .normal a w') : Mix P ops Q G [] a u := h
/-- one operation that only yields, by the kit's quiet step -/
theorem mix_one0 {i : Nat} {τ : List (Nat × Bool)} {o : Oper} {a : Act} {u : World} (ho : ops[i]? = some o) (hs : softOp o = true)
    (h : wpQuiet P ops (G u) (fun a' => Mix P ops Q G τ a' u) [o] a) : Mix P ops Q G ((i, false) :: τ) a u := by
  have h' : qOp P ops (G u) i (fun a' => Mix P ops Q G τ a' u) a := by unfold qOp; simp only [ho]; exact h
  obtain ⟨v, hy, hk⟩ := yieldsIn_of_qOp ho h'
  refine ⟨o, v, ho, ?_, hk⟩
  rcases hy with ⟨hw, hv⟩ | hy
  · refine .inl ⟨hw, fun w hG => ?_⟩
    have h1 := hv w hG
    unfold Oper.quietAt at h1
    cases hr : (execOp a.eval o).run P w with
    | halt x w1 => rw [hr] at h1; exact h1.elim
    | ok r w1 =>
      obtain ⟨u, rfl⟩ := soft_value _ o hs w r w1 hr
      rw [hr] at h1
      obtain ⟨rfl, rfl⟩ := h1
      rfl
  · exact .inr hy
theorem lets_then {K : Act → World → Prop} (h : LetsOut (Exit.then K Q)) : LetsOut Q := h
theorem wp_then {o : Oper} {a : Act} {w : World} {K : Act → World → Prop} (h : o.wp P a w K (Exit.then K Q)) : o.wp P a w K Q := by
  unfold Oper.wp at *
  generalize (execOp a.eval o).run P w = r at *
  cases r with
  | ok n w' => cases n <;> exact h
  | halt x w' => cases x <;> exact h
/-- one operation that may do more -/
theorem mix_call0 {i : Nat} {τ : List (Nat × Bool)} {o : Oper} {a : Act} {u : World} (ho : ops[i]? = some o)
    (h : ∀ w', G u w' → wpList P ops (Exit.then (fun a' w'' => G w' w'' ∧ Mix P ops Q G τ a' w'') Q) [o] a w') : Mix P ops Q G ((i, true) :: τ) a u := by
  intro w' hw
  have h1 := h w' hw
  unfold wpOp
  simp only [ho]
  simp only [wpList] at h1
  by_cases hwd : Region.wanted o (yielded ops a.tmps) = true
  · simp only [hwd, if_true] at h1 ⊢
    exact h1.imp wp_then (fun h => ⟨h.1, lets_then h.2⟩)
  · simp only [hwd] at h1 ⊢
    exact h1
theorem mix_one {l : List Oper} {i : Nat} {τ : List (Nat × Bool)} {o : Oper} {a : Act} {u : World} (ho : l[i]? = some o) (hs : softOp o = true)
    (h : wpQuiet P l.toArray (G u) (fun a' => Mix P l.toArray Q G τ a' u) [o] a) : Mix P l.toArray Q G ((i, false) :: τ) a u := mix_one0 (by simpa using ho) hs h
theorem mix_call {l : List Oper} {i : Nat} {τ : List (Nat × Bool)} {o : Oper} {a : Act} {u : World} (ho : l[i]? = some o)
    (h : ∀ w', G u w' → wpList P l.toArray (Exit.then (fun a' w'' => G w' w'' ∧ Mix P l.toArray Q G τ a' w'') Q) [o] a w') : Mix P l.toArray Q G ((i, true) :: τ) a u := mix_call0 (by simpa using ho) h
end
end Go.Proofs.YtncpokioagpclaaGreatDoor
namespace Go.Proofs.YtncpokioagpclaaGreatDoor
set_option linter.unusedVariables false
open Go.RowKit

section
variable {P : Program} {ops : Array Oper} {Q : Exit → Act → World → Prop} {md : Region.Mode} {G : World → World → Prop}

/-- Whatever order is picked from here on, from this very world. -/
def AnyE (P : Program) (md : Region.Mode) (ops : Array Oper) (Q : Exit → Act → World → Prop) (G : World → World → Prop) : Nat → Array Bool → Act → World → Prop
  | 0, listed, a, u => Region.ready md ops listed = [] ∧ Q .normal a u
  | f + 1, listed, a, u => (Region.ready md ops listed = [] → Q .normal a u) ∧ ∀ i ∈ Region.ready md ops listed, wpOp P ops Q i (fun a' w'' => G u w'' ∧ AnyE P md ops Q G f (listed.setIfInBounds i true) a' w'') a u

theorem AnyE.any : ∀ (f : Nat) (listed : Array Bool) (a : Act) (u : World), AnyE P md ops Q G f listed a u → wpAny P md ops Q f listed a u
  | 0, _, _, _, H => H
  | f + 1, _, _, _, H => ⟨H.1, fun i hi => wpOp_mono (fun a' w' h' => AnyE.any f _ a' w' h'.2) (H.2 i hi)⟩

theorem AnyE.take (Gr : ∀ w : World, G w w) (Gt : ∀ a b c : World, G a b → G b c → G a c) (hQ : ∀ c a w, ¬ Q (.panic c) a w) (hs : Region.noSelect ops = true) {i : Nat} {o : Oper} {v : Value} (ho : ops[i]? = some o) :
    ∀ (n : Nat) {listed : Array Bool} {a : Act} {u : World}, Foremost md ops o i listed → YieldsIf P ops (G u) o v a →
      AnyE P md ops Q G n (listed.setIfInBounds i true) (a.put o.dst v) u → AnyE P md ops Q G (n + 1) listed a u
  | n, listed, a, u, hf, hy, H => by
    constructor
    · intro none_; have := hf.up; rw [none_] at this; cases this
    intro j hj
    by_cases hji : j = i
    · rw [hji]; exact hy.wpOp ho (Gr u) ⟨Gr u, H⟩
    have hji' : j ∈ Region.ready md ops (listed.setIfInBounds i true) := ready_mono hj hji
    cases n with
    | zero => rw [H.1] at hji'; cases hji'
    | succ n =>
      obtain ⟨_, oj, hoj, _⟩ := mem_ready.1 hj
      have sel := Region.noSelect_spec hs
      refine wpOp_mono ?_ (wpOp_putIf hoj (hf.apart hj hji hoj) (fun cs b => sel i o cs b ho) (fun cs b => sel j oj cs b hoj) (fun c a w h => absurd h (hQ _ _ _)) hy (H.2 j hji'))
      rintro a' w'' ⟨hy', hG, H'⟩
      refine ⟨hG, AnyE.take Gr Gt hQ hs ho n (hf.past hj hji) (yields_fewer (fun x hx => Gt _ _ _ hG hx) hy') ?_⟩
      rw [Array.setIfInBounds_comm _ _ hji]
      exact H'

/-- The walk in the order tau. -/
def Mixe (P : Program) (ops : Array Oper) (Q : Exit → Act → World → Prop) (G : World → World → Prop) : List (Nat × Bool) → Act → World → Prop
  | [], a, u => Q .normal a u
  | (i, false) :: τ, a, u => ∃ o v, ops[i]? = some o ∧ YieldsIf P ops (G u) o v a ∧ Mixe P ops Q G τ (a.put o.dst v) u
  | (i, true) :: τ, a, u => wpOp P ops Q i (fun a' w'' => G u w'' ∧ Mixe P ops Q G τ a' w'') a u

theorem mixe_any (Gr : ∀ w : World, G w w) (Gt : ∀ a b c : World, G a b → G b c → G a c) (hQ : ∀ c a w, ¬ Q (.panic c) a w) (hs : Region.noSelect ops = true) :
    ∀ (τ : List (Nat × Bool)) (listed : Array Bool) (a : Act) (u : World), mixB md ops τ listed = true → Mixe P ops Q G τ a u → AnyE P md ops Q G τ.length listed a u
  | [], listed, a, u, hB, H => ⟨by simpa [mixB] using hB, H⟩
  | (i, false) :: τ, listed, a, u, hB, H => by
    obtain ⟨o, v, ho, hy, hk⟩ := H
    simp only [mixB, Bool.and_eq_true] at hB
    exact AnyE.take Gr Gt hQ hs ho τ.length ⟨by simpa using hB.1.1, Region.free_spec ho hB.1.2⟩ hy (mixe_any Gr Gt hQ hs τ _ _ u hB.2 hk)
  | (i, true) :: τ, listed, a, u, hB, H => by
    simp only [mixB, Bool.and_eq_true, beq_iff_eq] at hB
    refine ⟨fun h => (by rw [hB.1] at h; cases h), fun j hj => ?_⟩
    rw [hB.1] at hj
    obtain rfl : j = i := by simpa using hj
    exact wpOp_mono (fun a' w'' h => ⟨h.1, mixe_any Gr Gt hQ hs τ _ a' w'' hB.2 h.2⟩) H

theorem wp_region_mixe {id : Nat} {l : List Oper} {a : Act} {w : World} (τ : List (Nat × Bool)) (Gr : ∀ w : World, G w w) (Gt : ∀ a b c : World, G a b → G b c → G a c) (hm : P.follows .mixedOrders = true)
    (hl : τ.length = l.length) (hs : Region.noSelect l.toArray = true) (hB : mixB .any l.toArray τ (Array.replicate l.length false) = true)
    (h : Mixe P l.toArray (NoPanic Q) G τ a w.drew) : (Code.region id l.toArray true).wp P Q a w := by
  refine wp_region_noPanic (wp_region_any hm ?_)
  have h1 := mixe_any (md := .any) Gr Gt (fun _ _ _ h => h) hs τ (Array.replicate l.length false) a w.drew hB h
  rw [hl] at h1
  have h2 := AnyE.any _ _ _ _ h1
  simpa using h2

theorem mixe_one {l : List Oper} {i : Nat} {τ : List (Nat × Bool)} {o : Oper} {a : Act} {u : World} (ho : l[i]? = some o) (hs : softOp o = true)
    (h : wpQuiet P l.toArray (G u) (fun a' => Mixe P l.toArray Q G τ a' u) [o] a) : Mixe P l.toArray Q G ((i, false) :: τ) a u := by
  have ho' : l.toArray[i]? = some o := by simpa using ho
  have h' : qOp P l.toArray (G u) i (fun a' => Mixe P l.toArray Q G τ a' u) a := by unfold qOp; simp only [ho']; exact h
  obtain ⟨v, hy, hk⟩ := yieldsIn_of_qOp ho' h'
  refine ⟨o, v, ho', ?_, hk⟩
  rcases hy with ⟨hw, hv⟩ | hy
  · refine .inl ⟨hw, fun w hG => ?_⟩
    have h1 := hv w hG
    unfold Oper.quietAt at h1
    cases hr : (execOp a.eval o).run P w with
    | halt x w1 => rw [hr] at h1; exact h1.elim
    | ok r w1 =>
      obtain ⟨u, rfl⟩ := soft_value _ o hs w r w1 hr
      rw [hr] at h1
      obtain ⟨rfl, rfl⟩ := h1
      rfl
  · exact .inr hy
theorem mixe_call {l : List Oper} {i : Nat} {τ : List (Nat × Bool)} {o : Oper} {a : Act} {u : World} (ho : l[i]? = some o)
    (h : wpList P l.toArray (Exit.then (fun a' w'' => G u w'' ∧ Mixe P l.toArray Q G τ a' w'') Q) [o] a u) : Mixe P l.toArray Q G ((i, true) :: τ) a u := by
  have ho' : l.toArray[i]? = some o := by simpa using ho
  show wpOp P l.toArray Q i (fun a' w'' => G u w'' ∧ Mixe P l.toArray Q G τ a' w'') a u
  unfold wpOp
  simp only [ho']
  simp only [wpList] at h
  by_cases hwd : Region.wanted o (yielded l.toArray a.tmps) = true
  · simp only [hwd, if_true] at h ⊢
    exact h.imp wp_then (fun h => ⟨h.1, lets_then h.2⟩)
  · simp only [hwd] at h ⊢
    exact h
end
end Go.Proofs.YtncpokioagpclaaGreatDoor
