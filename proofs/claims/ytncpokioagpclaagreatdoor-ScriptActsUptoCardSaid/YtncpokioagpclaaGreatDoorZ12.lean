/- Texts of this seat, one behind the other: Glob. -/
import Derived.Test.YtncpokioagpclaaGreatDoorLib
import Derived.Test.YtncpokioagpclaaGreatDoorZ1
import Derived.Lib.LaidTab
namespace Go.Proofs.YtncpokioagpclaaGreatDoor
set_option linter.unusedVariables false
open Go.RowKit
theorem var_block {P : Program} {w w' : World} {n : String} {g : Nat} (hg : P.globalNamed n = some g) (hb : w'.heap[g]? = w.heap[g]?) : w'.var? P n = w.var? P n := by
  simp only [World.var?, hg, Option.bind_some, hb]
theorem tab_block {P : Program} {w w' : World} {n : String} {k : IntKind} {zs : List Int} {g : Nat} (h : Lib.TabIs P w n k zs) (hg : P.globalNamed n = some g) (hb : w'.heap[g]? = w.heap[g]?) : Lib.TabIs P w' n k zs :=
  (var_block hg hb).trans h
/-- block g stays -/
def Stay (g : Nat) (a b : World) : Prop := b.heap[g]? = a.heap[g]?
theorem Stay.refl (g : Nat) (w : World) : Stay g w w := rfl
theorem Stay.trans (g : Nat) (a b c : World) (h : Stay g a b) (k : Stay g b c) : Stay g a c := Eq.trans k h
end Go.Proofs.YtncpokioagpclaaGreatDoor
