/- New units. -/
import Derived.Test.YthgomhmalmmhlaaDoorRep
namespace Go.Proofs.YthgomhmalmmhlaaDoor
set_option linter.unusedVariables false
open Go.RowKit
theorem us_newL (w : World) (m : Nat) (hm : w.heap.size = m) (zs : List Int) (cs : Array Value) (hc : cs.toList = zs.map (Value.int .i64)) (n : Nat) (hn : n = zs.length) (hl : n ≤ maxLen) : Us (fun b => b = m) (w.alloc (.cells cs 3)) (.slice (some ⟨m, 0, none⟩) n n) zs := by
  subst hm hn
  refine ⟨_, _, rfl, Nat.le_refl _, hl, .inr ⟨w.heap.size, 0, rfl, by simp, rfl, fun j hj => ?_⟩⟩
  rw [Nat.zero_add, cell_of_row _ _ _ _ _ _ (heap_alloc_new w _), ← hc]
  simp
theorem Us.up {X : Nat → Prop} {w : World} {v : Value} {us : List Int} (h : Us X w v us) (o : Obj) {Y : Nat → Prop} (hY : ∀ b, b < w.heap.size → X b → Y b) : Us Y (w.alloc o) v us :=
  h.step (by simp) fun b hb hx => ⟨hY b hb hx, Below.heap_alloc w o b hb⟩
end Go.Proofs.YthgomhmalmmhlaaDoor
