/- Texts of this seat, one behind the other: ReadBo. -/
import Derived.Test.YtmenjcdmdmngcaaGreatDoorRead
import Derived.Test.YtmenjcdmdmngcaaGreatDoorProg
namespace Go.Proofs.YtmenjcdmdmngcaaGreatDoor
open Go.ChangeShapes Go.WideShapes Go.ChangeAt Go.RowKit Go.Deep
set_option linter.unusedVariables false
section
variable {H : Type} {enc : TypeId × Value → H} {w : World} {spare : Nat → Bool} {held : Bool}
def BoE (cs : List Value) (b : Bool) : Prop := cs = [.bool b]
theorem read_bo {n : Nat} {cs : List Value} {d : DataW H} {p : List MemPlace} (h : DataW.trod enc Tryz.prog w 0 spare held n 4 cs = some (d, p)) : ∃ b, BoE cs b := by
  obtain ⟨b, h1, _⟩ := DataW.trod_bool Tryz.underlying4 h
  exact ⟨b, h1⟩
theorem bools_of : ∀ (ps : List (List Value × Bool)), (∀ p ∈ ps, BoE p.1 p.2) → ps.flatMap (·.1) = (ps.map (·.2)).map Value.bool
  | [], _ => rfl
  | (cs, q) :: ps, h => by
    have e : cs = [.bool q] := h (cs, q) (by simp)
    rw [List.flatMap_cons, e, bools_of ps (fun p hp => h p (by simp [hp]))]
    rfl
theorem read_bools {fuel : Nat} {v : Value} {x : DataW H × List MemPlace} (h : DataW.trod enc Tryz.prog w 0 spare held fuel 22 [v] = some x) :
    ∃ (A : Option Addr) (n c : Nat) (bs : List Bool), v = .slice A n c ∧ n = bs.length ∧ n ≤ c ∧ c ≤ maxLen ∧ Rd w w.heap.size A (bs.map Value.bool) := by
  obtain ⟨A, n, c, ps, hv, h1, h2, h3, h4, h5, _, _⟩ := read_slice (E := BoE) (size := 1) Tryz.underlying22 (by kernel_rfl) h (fun n cs d p ht hl hf => read_bo ht)
  exact ⟨A, n, c, ps.map (·.2), hv, by simpa using h1, h2, h3, by rw [← bools_of ps h5]; exact h4⟩
end
end Go.Proofs.YtmenjcdmdmngcaaGreatDoor
