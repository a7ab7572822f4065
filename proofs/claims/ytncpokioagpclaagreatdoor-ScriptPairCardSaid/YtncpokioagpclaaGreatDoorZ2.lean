/- Texts of this seat, one behind the other: Fork. -/
import Derived.Test.YtncpokioagpclaaGreatDoorZ1
import Derived.Deep.DeepCutAuto
namespace Go.Proofs.YtncpokioagpclaaGreatDoor
set_option linter.unusedVariables false
open Go.RowKit

/-- an order with forks -/
inductive OT where
  | done
  | soft (i : Nat) (t : OT)
  | one (i : Nat) (t : OT)
  | two (i j : Nat) (t s : OT)
def OT.fits : OT → Nat → Bool
  | .done, 0 => true
  | .soft _ t, n + 1 => t.fits n
  | .one _ t, n + 1 => t.fits n
  | .two _ _ t s, n + 1 => t.fits n && s.fits n
  | _, _ => false
section
variable {P : Program} {ops : Array Oper} {Q : Exit → Act → World → Prop} {md : Region.Mode} {G : World → World → Prop}
def forkB (md : Region.Mode) (ops : Array Oper) : OT → Array Bool → Bool
  | .done, listed => (Region.ready md ops listed).isEmpty
  | .soft i t, listed => (Region.ready md ops listed).contains i && Region.free md ops listed i && forkB md ops t (listed.setIfInBounds i true)
  | .one i t, listed => (Region.ready md ops listed == [i]) && forkB md ops t (listed.setIfInBounds i true)
  | .two i j t s, listed => (Region.ready md ops listed == [i, j]) && forkB md ops t (listed.setIfInBounds i true) && forkB md ops s (listed.setIfInBounds j true)
def Fork (P : Program) (ops : Array Oper) (Q : Exit → Act → World → Prop) (G : World → World → Prop) : OT → Act → World → Prop
  | .done, a, u => Q .normal a u
  | .soft i t, a, u => ∃ o v, ops[i]? = some o ∧ YieldsIf P ops (G u) o v a ∧ Fork P ops Q G t (a.put o.dst v) u
  | .one i t, a, u => wpOp P ops Q i (fun a' w'' => G u w'' ∧ Fork P ops Q G t a' w'') a u
  | .two i j t s, a, u => wpOp P ops Q i (fun a' w'' => G u w'' ∧ Fork P ops Q G t a' w'') a u ∧ wpOp P ops Q j (fun a' w'' => G u w'' ∧ Fork P ops Q G s a' w'') a u
theorem fork_any (Gr : ∀ w : World, G w w) (Gt : ∀ a b c : World, G a b → G b c → G a c) (hQ : ∀ c a w, ¬ Q (.panic c) a w) (hs : Region.noSelect ops = true) :
    ∀ (t : OT) (n : Nat) (listed : Array Bool) (a : Act) (u : World), t.fits n = true → forkB md ops t listed = true → Fork P ops Q G t a u → AnyE P md ops Q G n listed a u
  | .done, 0, listed, a, u, _, hB, H => ⟨by simpa [forkB] using hB, H⟩
  | .soft i t, n + 1, listed, a, u, hn, hB, H => by
    obtain ⟨o, v, ho, hy, hk⟩ := H
    simp only [forkB, Bool.and_eq_true] at hB
    exact AnyE.take Gr Gt hQ hs ho n ⟨by simpa using hB.1.1, Region.free_spec ho hB.1.2⟩ hy (fork_any Gr Gt hQ hs t n _ _ u hn hB.2 hk)
  | .one i t, n + 1, listed, a, u, hn, hB, H => by
    simp only [forkB, Bool.and_eq_true, beq_iff_eq] at hB
    refine ⟨fun h => (by rw [hB.1] at h; cases h), fun j hj => ?_⟩
    rw [hB.1] at hj
    obtain rfl : j = i := by simpa using hj
    exact wpOp_mono (fun a' w'' h => ⟨h.1, fork_any Gr Gt hQ hs t n _ a' w'' hn hB.2 h.2⟩) H
  | .two i k t s, n + 1, listed, a, u, hn, hB, H => by
    simp only [forkB, Bool.and_eq_true, beq_iff_eq] at hB
    simp only [OT.fits, Bool.and_eq_true] at hn
    refine ⟨fun h => (by rw [hB.1.1] at h; cases h), fun j hj => ?_⟩
    rw [hB.1.1] at hj
    simp only [List.mem_cons, List.not_mem_nil, or_false] at hj
    rcases hj with rfl | rfl
    · exact wpOp_mono (fun a' w'' h => ⟨h.1, fork_any Gr Gt hQ hs t n _ a' w'' hn.1 hB.1.2 h.2⟩) H.1
    · exact wpOp_mono (fun a' w'' h => ⟨h.1, fork_any Gr Gt hQ hs s n _ a' w'' hn.2 hB.2 h.2⟩) H.2
  | .done, _ + 1, _, _, _, hn, _, _ => by simp [OT.fits] at hn
  | .soft _ _, 0, _, _, _, hn, _, _ => by simp [OT.fits] at hn
  | .one _ _, 0, _, _, _, hn, _, _ => by simp [OT.fits] at hn
  | .two _ _ _ _, 0, _, _, _, hn, _, _ => by simp [OT.fits] at hn

theorem wp_region_fork {id : Nat} {l : List Oper} {a : Act} {w : World} (t : OT) (Gr : ∀ w : World, G w w) (Gt : ∀ a b c : World, G a b → G b c → G a c) (hm : P.follows .mixedOrders = true)
    (hl : t.fits l.length = true) (hs : Region.noSelect l.toArray = true) (hB : forkB .any l.toArray t (Array.replicate l.length false) = true)
    (h : Fork P l.toArray (NoPanic Q) G t a w.drew) : (Code.region id l.toArray true).wp P Q a w := by
  refine wp_region_noPanic (wp_region_any hm ?_)
  have h1 := fork_any (md := .any) Gr Gt (fun _ _ _ h => h) hs t l.length (Array.replicate l.length false) a w.drew hl hB h
  have h2 := AnyE.any _ _ _ _ h1
  simpa using h2
theorem fork_done {a : Act} {u : World} (h : Q .normal a u) : Fork P ops Q G .done a u := h
theorem fork_soft {l : List Oper} {i : Nat} {t : OT} {o : Oper} {a : Act} {u : World} (ho : l[i]? = some o) (hs : softOp o = true)
    (h : wpQuiet P l.toArray (G u) (fun a' => Fork P l.toArray Q G t a' u) [o] a) : Fork P l.toArray Q G (.soft i t) a u := by
  have ho' : l.toArray[i]? = some o := by simpa using ho
  have h' : qOp P l.toArray (G u) i (fun a' => Fork P l.toArray Q G t a' u) a := by unfold qOp; simp only [ho']; exact h
  obtain ⟨v, hy, hk⟩ := yieldsIn_of_qOp ho' h'
  refine ⟨o, v, ho', ?_, hk⟩
  rcases hy with ⟨hw, hv⟩ | hy
  · refine .inl ⟨hw, fun w hG => ?_⟩
    have h1 := hv w hG
    unfold Oper.quietAt at h1
    cases hr : (execOp a.eval o).run P w with
    | halt x w1 => rw [hr] at h1; exact h1.elim
    | ok r w1 =>
      obtain ⟨u, rfl⟩ := soft_value _ o hs w r w1 hr
      rw [hr] at h1
      obtain ⟨rfl, rfl⟩ := h1
      rfl
  · exact .inr hy
theorem fork_call {l : List Oper} {i : Nat} {o : Oper} {a : Act} {u : World} {K : Act → World → Prop} (ho : l[i]? = some o)
    (h : wpList P l.toArray (Exit.then K Q) [o] a u) : wpOp P l.toArray Q i K a u := by
  have ho' : l.toArray[i]? = some o := by simpa using ho
  unfold wpOp
  simp only [ho']
  simp only [wpList] at h
  by_cases hwd : Region.wanted o (yielded l.toArray a.tmps) = true
  · simp only [hwd, if_true] at h ⊢
    exact h.imp wp_then (fun h => ⟨h.1, lets_then h.2⟩)
  · simp only [hwd] at h ⊢
    exact h
theorem fork_one {l : List Oper} {i : Nat} {t : OT} {o : Oper} {a : Act} {u : World} (ho : l[i]? = some o)
    (h : wpList P l.toArray (Exit.then (fun a' w'' => G u w'' ∧ Fork P l.toArray Q G t a' w'') Q) [o] a u) : Fork P l.toArray Q G (.one i t) a u := fork_call ho h
theorem fork_two {l : List Oper} {i j : Nat} {t s : OT} {o p : Oper} {a : Act} {u : World} (ho : l[i]? = some o) (hp : l[j]? = some p)
    (h : wpList P l.toArray (Exit.then (fun a' w'' => G u w'' ∧ Fork P l.toArray Q G t a' w'') Q) [o] a u)
    (h' : wpList P l.toArray (Exit.then (fun a' w'' => G u w'' ∧ Fork P l.toArray Q G s a' w'') Q) [p] a u) : Fork P l.toArray Q G (.two i j t s) a u := ⟨fork_call ho h, fork_call hp h'⟩
end
end Go.Proofs.YtncpokioagpclaaGreatDoor
