/- Texts of this seat, one behind the other: MixIn. -/
import Derived.Test.YtncpokioagpclaaGreatDoorZ1
import Derived.OrdersIn
import Derived.OwnWalkIn
namespace Go.Proofs.YtncpokioagpclaaGreatDoor
set_option linter.unusedVariables false
set_option linter.unusedSimpArgs false
set_option linter.unnecessarySimpa false
open Go.RowKit

section
variable {F : Fence} {n : Nat} {P : Program} {ops : Array Oper} {Q : Exit → Act → World → Prop} {md : Region.Mode} {G : World → World → Prop}

theorem wpIn_then {o : Oper} {a : Act} {w : World} {K : Act → World → Prop} (h : o.wpIn F n P a w K (Exit.then K Q)) : o.wpIn F n P a w K Q := by
  unfold Oper.wpIn at *
  refine ⟨h.1, ?_⟩
  have h := h.2
  generalize (o.semAt F.round a.eval).run P w = r at *
  cases r with
  | ok x w' => cases x <;> exact h
  | halt x w' => cases x <;> exact h
/-! a region none of whose operations is taken out of the way: a tree of orders -/
theorem anyIn_start {id : Nat} {l : List Oper} {a : Act} {w : World} (hm : P.follows .mixedOrders = true) (h : wpAnyIn F n P .any l.toArray Q l.length (Array.replicate l.length false) a w.drew) : (Code.region id l.toArray true).wpIn F n P Q a w :=
  wpIn_region_any hm (by simpa using h)
theorem anyIn_op {l : List Oper} {i f : Nat} {listed : Array Bool} {o : Oper} {a : Act} {u : World} (ho : l[i]? = some o)
    (h : wpListIn F n P l.toArray (Exit.then (wpAnyIn F n P md l.toArray Q f (listed.setIfInBounds i true)) Q) [o] a u) : wpOpIn F n P l.toArray Q i (wpAnyIn F n P md l.toArray Q f (listed.setIfInBounds i true)) a u := by
  have ho' : l.toArray[i]? = some o := by simpa using ho
  unfold wpOpIn
  simp only [ho']
  simp only [wpListIn] at h
  by_cases hwd : Region.wanted o (yielded l.toArray a.tmps) = true
  · simp only [hwd, if_true] at h ⊢
    exact wpIn_then h
  · simp only [hwd] at h ⊢
    exact h
theorem anyIn_one {l : List Oper} (i : Nat) {f : Nat} {listed : Array Bool} {o : Oper} {a : Act} {u : World} (hr : Region.ready md l.toArray listed = [i]) (ho : l[i]? = some o)
    (h : wpListIn F n P l.toArray (Exit.then (wpAnyIn F n P md l.toArray Q f (listed.setIfInBounds i true)) Q) [o] a u) : wpAnyIn F n P md l.toArray Q (f + 1) listed a u := by
  refine ⟨fun h => (by rw [hr] at h; cases h), fun j hj => ?_⟩
  rw [hr] at hj
  obtain rfl : j = i := by simpa using hj
  exact anyIn_op ho h
theorem anyIn_two {l : List Oper} (i k : Nat) {f : Nat} {listed : Array Bool} {o o' : Oper} {a : Act} {u : World} (hr : Region.ready md l.toArray listed = [i, k]) (ho : l[i]? = some o) (ho' : l[k]? = some o')
    (h : wpListIn F n P l.toArray (Exit.then (wpAnyIn F n P md l.toArray Q f (listed.setIfInBounds i true)) Q) [o] a u)
    (h' : wpListIn F n P l.toArray (Exit.then (wpAnyIn F n P md l.toArray Q f (listed.setIfInBounds k true)) Q) [o'] a u) : wpAnyIn F n P md l.toArray Q (f + 1) listed a u := by
  refine ⟨fun h => (by rw [hr] at h; cases h), fun j hj => ?_⟩
  rw [hr] at hj
  rcases (show j = i ∨ j = k by simpa using hj) with rfl | rfl
  · exact anyIn_op ho h
  · exact anyIn_op ho' h'
theorem anyIn_end {l : List Oper} {listed : Array Bool} {a : Act} {u : World} (hr : Region.ready md l.toArray listed = []) (h : Q .normal a u) : wpAnyIn F n P md l.toArray Q 0 listed a u := ⟨hr, h⟩
end
end Go.Proofs.YtncpokioagpclaaGreatDoor
