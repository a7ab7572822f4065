/- Rows of pairs of ints: how they lie; rules of one unit of them. -/
import Derived.Test.YthgomhmalmmhlaaDoorRep
namespace Go.Proofs.YthgomhmalmmhlaaDoor
set_option linter.unusedVariables false
open Go.RowKit
theorem Rd_newR (w : World) (cs : Array Value) (t : TypeId) (m : Nat) (hm : w.heap.size = m) : Rd (w.alloc (.cells cs t)) (m + 1) (some ⟨m, 0, none⟩) cs.toList := by subst hm; exact Rd_new w cs t
def flatP : List (Int × Int) → List Int
  | [] => []
  | p :: ps => p.1 :: p.2 :: flatP ps
theorem flatP_len : ∀ ps, (flatP ps).length = ps.length * 2
  | [] => rfl
  | p :: ps => by simp only [flatP, List.length_cons, flatP_len ps]; omega
theorem flatP_app : ∀ (ps qs : List (Int × Int)), flatP (ps ++ qs) = flatP ps ++ flatP qs
  | [], qs => rfl
  | p :: ps, qs => by simp only [List.cons_append, flatP, flatP_app ps qs]
theorem flatP_at : ∀ (ps : List (Int × Int)) (k : Nat) (hk : k < ps.length), (flatP ps)[k * 2]? = some ps[k].1 ∧ (flatP ps)[k * 2 + 1]? = some ps[k].2
  | p :: ps, 0, _ => ⟨rfl, rfl⟩
  | p :: ps, k + 1, hk => by
    have := flatP_at ps k (by simpa using hk)
    rw [show (k + 1) * 2 = k * 2 + 1 + 1 from by omega]
    exact this
  | [], _, hk => by cases hk
def singR (ps : List (Int × Int)) : List Rl := ps.map fun p => ([p.1], [p.2])
theorem pair_at {w : World} {B : Nat} {A : Option Addr} {ps : List (Int × Int)} (h : Rd w B A ((flatP ps).map (Value.int .i64))) {k : Nat} (hk : k < ps.length) :
    ∃ b off, A = some ⟨b, off, none⟩ ∧ b < B ∧ w.cell? ⟨b, off + k * 2, none⟩ = some (.int .i64 ps[k].1) ∧ w.cell? ⟨b, off + k * 2 + 1, none⟩ = some (.int .i64 ps[k].2) := by
  have hlen := flatP_len ps
  obtain ⟨e1, e2⟩ := flatP_at ps k hk
  rcases h with h | ⟨b, off, h1, h2, h3⟩
  · have : flatP ps = [] := by simpa using h
    rw [this] at hlen; simp at hlen; omega
  · refine ⟨b, off, h1, h2, ?_, ?_⟩
    · rw [h3 _ (by rw [List.length_map]; omega), List.getElem?_map, e1]; rfl
    · rw [Nat.add_assoc, h3 _ (by rw [List.length_map]; omega), List.getElem?_map, e2]; rfl
end Go.Proofs.YthgomhmalmmhlaaDoor
