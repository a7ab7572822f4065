/- Pairs of bytes that came in, read as data. -/
import Derived.Test.YtfbncepkmhfbmaaRead
import Derived.Test.YtfbncepkmhfbmaaRuleE
namespace Go.Proofs.Ytfbncepkmhfbmaa
open Go.ChangeShapes Go.WideShapes Go.ChangeAt Go.RowKit Go.Deep
set_option linter.unusedVariables false
section
variable {H : Type} {enc : TypeId × Value → H} {w : World} {spare : Nat → Bool} {held : Bool}
def PrE (cs : List Value) (p : Int × Int) : Prop := cs = [.int .u8 p.1, .int .u8 p.2] ∧ (0 ≤ p.1 ∧ p.1 ≤ 255) ∧ (0 ≤ p.2 ∧ p.2 ≤ 255)
theorem read_pair {n : Nat} {cs : List Value} {d : DataW H} {p : List MemPlace} (h : DataW.trod enc Try.prog w 0 spare held n 48 cs = some (d, p)) (hl : cs.length = 2) : ∃ q, PrE cs q := by
  obtain ⟨xs, m, _, hx, _, hxl, hf⟩ := DataW.trod_array Try.underlying48 h
  have c4 : Try.prog.cellsOf 5 = 1 := by kernel_rfl
  match cs, hl with
  | [a, b], _ =>
    match xs, hxl with
    | [y0, y1], _ =>
      have h0 := hf 0 (by omega)
      have h1 := hf 1 (by omega)
      rw [c4] at h0 h1
      simp only [List.getElem?_cons_zero, List.getElem?_cons_succ] at h0 h1
      obtain ⟨z0, e0, _, w0⟩ := DataW.trod_int Try.underlying5 h0
      obtain ⟨z1, e1, _, w1⟩ := DataW.trod_int Try.underlying5 h1
      injection e0 with e0
      injection e1 with e1
      subst e0 e1
      exact ⟨(z0, z1), rfl, wf_u8 w0, wf_u8 w1⟩
theorem pairs_of : ∀ (ps : List (List Value × (Int × Int))), (∀ p ∈ ps, PrE p.1 p.2) → ps.flatMap (·.1) = (flatP (ps.map (·.2))).map (Value.int .u8)
  | [], _ => rfl
  | (cs, q) :: ps, h => by
    obtain ⟨e, _⟩ := h (cs, q) (by simp)
    simp only at e
    rw [List.flatMap_cons, e, pairs_of ps (fun p hp => h p (by simp [hp]))]
    rfl
theorem read_pairs {fuel : Nat} {v : Value} {x : DataW H × List MemPlace} (h : DataW.trod enc Try.prog w 0 spare held fuel 46 [v] = some x) :
    ∃ A n c ps, v = .slice A n c ∧ n = ps.length ∧ n ≤ c ∧ c ≤ maxLen ∧ Rd w w.heap.size A ((flatP ps).map (Value.int .u8)) ∧ (∀ p ∈ ps, (0 ≤ p.1 ∧ p.1 ≤ 255) ∧ (0 ≤ p.2 ∧ p.2 ≤ 255)) := by
  obtain ⟨A, n, c, ps, hv, h1, h2, h3, h4, h5, _, _⟩ := read_slice (E := PrE) (size := 2) Try.underlying46 (by kernel_rfl) h (fun n cs d p ht hl hf => read_pair ht hl)
  refine ⟨A, n, c, ps.map (·.2), hv, by simpa using h1, h2, h3, by rw [← pairs_of ps h5]; exact h4, ?_⟩
  intro q hq
  obtain ⟨p, hp, rfl⟩ := List.mem_map.1 hq
  exact (h5 p hp).2
end
end Go.Proofs.Ytfbncepkmhfbmaa
