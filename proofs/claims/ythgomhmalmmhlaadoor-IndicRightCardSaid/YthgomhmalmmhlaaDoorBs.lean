/- A slice built of many parts. -/
import Derived.Test.YthgomhmalmmhlaaDoorProg
import Derived.Test.YthgomhmalmmhlaaDoorMixe
namespace Go.Proofs.YthgomhmalmmhlaaDoor
set_option linter.unusedVariables false
open Go.RowKit
/-- a slice built of many parts: run by the kernel -/
theorem wpList_bs {w : World} {ops : Array Oper} {rest : List Oper} {o : Oper} {a : Act} {Q : Exit → Act → World → Prop} (hgd : o.guard = none) (t : TypeId) (n : Nat) (ps : Array (Nat × Operand))
    (ho : o.op = .buildSlice t n ps) (v : Value) (w' : World) (h : (execOp a.eval o).run Tryd.prog w = .ok (.value v) w') (k : wpList Tryd.prog ops Q rest (a.put o.dst v) w') : wpList Tryd.prog ops Q (o :: rest) a w :=
  wpList_plain hgd fun K hK => by
    unfold Oper.wp
    rw [h]
    exact hK _ _ k
end Go.Proofs.YthgomhmalmmhlaaDoor
