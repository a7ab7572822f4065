/- Layer 12: the law's rows and scalar. -/
import Derived.Test.YtojcmmjcafbngaaDoorTcM
import Derived.Test.YtojcmmjcafbngaaDoorVietN
namespace Go.Proofs.YtojcmmjcafbngaaDoor
set_option linter.unusedVariables false
set_option linter.unusedSimpArgs false
set_option linter.unnecessarySimpa false
open Go.RowKit
/-- the law's rows, as its slice holds them -/
def tcTab : Array Value := ((flatP tcRowL).map (Value.int .i64)).toArray
theorem tcTab_at (K : Nat) (h : K < 74) : tcTab[K * 2]? = some (.int .i64 (tcRowL.getD K (0, 0)).1) ∧ tcTab[K * 2 + 1]? = some (.int .i64 (tcRowL.getD K (0, 0)).2) := by
  have hK : K < tcRowL.length := by rw [tcRowL_len]; exact h
  obtain ⟨h1, h2⟩ := flatP_at tcRowL K hK
  unfold tcTab
  rw [List.getD_eq_getElem?_getD, List.getElem?_eq_getElem hK]
  simp only [List.getElem?_toArray, List.getElem?_map, h1, h2, Option.map_some, Option.getD_some]
  exact ⟨by trivial, by trivial⟩
/-- a slice built of many parts: run by the kernel -/
theorem wpList_bs {w : World} {ops : Array Oper} {rest : List Oper} {o : Oper} {a : Act} {Q : Exit → Act → World → Prop} (hgd : o.guard = none) (t : TypeId) (n : Nat) (ps : Array (Nat × Operand))
    (ho : o.op = .buildSlice t n ps) (v : Value) (w' : World) (h : (execOp a.eval o).run Tryd.prog w = .ok (.value v) w') (k : wpList Tryd.prog ops Q rest (a.put o.dst v) w') : wpList Tryd.prog ops Q (o :: rest) a w :=
  wpList_plain hgd fun K hK => by
    unfold Oper.wp
    rw [h]
    exact hK _ _ k
set_option maxRecDepth 100000 in
set_option maxHeartbeats 6400000 in
theorem tcrows_any (w : World) :
    Calls Tryd.prog 13 #[] w fun e w' => e = .returned (.slice (some ⟨w.heap.size, 0, none⟩) 74 74) ∧ Held w' w.heap.size tcTab 37 ∧ Below w.heap.size w w' := by
  go_enter Tryd.func13, Tryd.ntmps13
  go_wp2_with (refine wpList_bs rfl 35 74 _ rfl (.slice (some ⟨w.heap.size, 0, none⟩) 74 74) (w.alloc (.cells tcTab 37)) (by kernel_rfl) ?_)
  go_ret
  exact ⟨rfl, Held.new w tcTab _, (Below.refl _ w).alloc (Nat.le_refl _) _⟩
end Go.Proofs.YtojcmmjcafbngaaDoor
