/- Texts of this seat, one behind the other: TokSet, MacQ, IscM, IscN. -/
import Derived.Test.YtncpokioagpclaaGreatDoorZ10
import Derived.Laws.OwnMore
import Derived.Test.YtncpokioagpclaaGreatDoorZ4
import Derived.Test.YtncpokioagpclaaGreatDoorZ3
namespace Go.Proofs.YtncpokioagpclaaGreatDoor
set_option linter.unusedVariables false
open Go.RowKit
def shK (d : Int) (t : Tk) : Tk := ⟨t.pos + d, t.size, t.out, t.err⟩
end Go.Proofs.YtncpokioagpclaaGreatDoor
namespace Go.Proofs.YtncpokioagpclaaGreatDoor
set_option linter.unusedVariables false
end Go.Proofs.YtncpokioagpclaaGreatDoor
namespace Go.Proofs.YtncpokioagpclaaGreatDoor
set_option linter.unusedVariables false
set_option linter.unusedSimpArgs false
set_option maxRecDepth 100000
/-- what units mean, the script being sc: and the script behind them -/
def meanU (sc : Int) : List Int → List Int × Int
  | [] => ([], sc)
  | u :: us => if 8192 ≤ u then ((u - 8192) :: (meanU sc us).1, (meanU sc us).2) else if 4096 ≤ u then meanU (u - 4096) us else ((2304 + 128 * sc + u) :: (meanU sc us).1, (meanU sc us).2)
def meanT (sc : Int) : List Tk → List Tk × Int
  | [] => ([], sc)
  | t :: ts => (⟨t.pos, t.size, (meanU sc t.out).1, t.err⟩ :: (meanT (meanU sc t.out).2 ts).1, (meanT (meanU sc t.out).2 ts).2)
/-- is it a script's? its unit; its script -/
def isB (s : Int) : Bool := decide (2304 ≤ s) && decide (s < 3456) && decide (s ≠ 2404)
def isU (s : Int) : Int := if isB s = true then s % 128 else if scB s = true then 8192 + s else -1
def isC (s : Int) : Int := (s - 2304) / 128
/-- the token of a switch -/
def swT (at_ c : Int) : Tk := ⟨at_, 0, [239, cdC c.toNat], 0⟩
/-- what an Encoder's machine tells of a unit: and what it is then -/
def eOne (q : List Int) (a : Int) (ah : List Int) (u : Int) : List Tk × List Int × Int × List Int :=
  (encF inR ah (drain (turnR inR) a (q ++ [u])).1, (drain (turnR inR) a (q ++ [u])).2.1, a + q.length + 1 - (drain (turnR inR) a (q ++ [u])).2.1.length, aheadF ah (encF inR ah (drain (turnR inR) a (q ++ [u])).1))
def ePut (q : List Int) (a : Int) (ah : List Int) (sc s : Int) : List Tk × List Int × Int × List Int × Int :=
  if isB s = true ∧ isC s ≠ sc then
    (encF inR ah (rewA (turnR inR) a q) ++ swT (a + q.length) (isC s) :: (eOne [] (a + q.length) [] (isU s)).1, (eOne [] (a + q.length) [] (isU s)).2.1, (eOne [] (a + q.length) [] (isU s)).2.2.1, (eOne [] (a + q.length) [] (isU s)).2.2.2, isC s)
  else ((eOne q a ah (isU s)).1, (eOne q a ah (isU s)).2.1, (eOne q a ah (isU s)).2.2.1, (eOne q a ah (isU s)).2.2.2, sc)
/-- what scalars are written as: units xs stand ahead of them, in script sc, the first one at n; and the script behind them -/
def lawE (n : Int) (xs : List Int) (sc : Int) : List Int → List Tk × Int
  | [] => ((encA inR xs).map (shK n), sc)
  | s :: ss => if isB s = true ∧ isC s ≠ sc then ((encA inR xs).map (shK n) ++ swT (n + xs.length) (isC s) :: (lawE (n + xs.length) [isU s] (isC s) ss).1, (lawE (n + xs.length) [isU s] (isC s) ss).2) else lawE n (xs ++ [isU s]) sc ss
end Go.Proofs.YtncpokioagpclaaGreatDoor
namespace Go.Proofs.YtncpokioagpclaaGreatDoor
set_option linter.unusedVariables false
set_option linter.unusedSimpArgs false
set_option maxRecDepth 100000
end Go.Proofs.YtncpokioagpclaaGreatDoor
