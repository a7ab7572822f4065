/- What came in, read as data: units, bytes, the law's rows; and how large it may be. -/
import Derived.Test.YtncpokioagpclaaGreatDoorLib
import Derived.Deep.Slices
import Derived.SizedLaws
import Derived.ProofKit
import Derived.OpenShut
import Derived.ShutString
import Derived.ChangeOld
import Derived.Below
namespace Go.Proofs.YtncpokioagpclaaGreatDoor
open Go.ChangeShapes Go.WideShapes Go.ChangeAt Go.RowKit Go.Deep
set_option linter.unusedVariables false
section
variable {H : Type} {enc : TypeId × Value → H} {P : Program} {w : World} {spare : Nat → Bool} {held : Bool}
/-- each slice, string and map within takes no more than there is -/
def Fit (P : Program) (t : TypeId) (d : DataW H) : Prop := ∀ m ∈ d.weights P t, m ≤ reachBytes
theorem mem_weightsAll {e : TypeId} : ∀ {l : List (DataW H)} {d : DataW H} {m : Nat}, d ∈ l → m ∈ d.weights P e → m ∈ DataW.weightsAll P e l
  | x :: l, d, m, hd, hm => by
    simp only [DataW.weightsAll, List.mem_append]
    rcases List.mem_cons.1 hd with rfl | hd
    · exact .inl hm
    · exact .inr (mem_weightsAll hd hm)
theorem Fit.elem {t e : TypeId} {l s : List (DataW H)} {d : DataW H} (h : Fit P t (.slice l s)) (ht : P.underlying t = some (.slice e)) (hd : d ∈ l) : Fit P e d := by
  intro m hm
  refine h m ?_
  simp only [DataW.weights, ht, List.mem_cons, List.mem_append]
  exact .inr (.inl (mem_weightsAll hd hm))
theorem Fit.len {t e : TypeId} {l s : List (DataW H)} (h : Fit P t (.slice l s)) (ht : P.underlying t = some (.slice e)) : l.length * P.bytesOf e ≤ reachBytes := by
  have := h ((l.length + s.length) * P.bytesOf e) (by simp [DataW.weights, ht])
  rw [Nat.add_mul] at this
  omega
theorem Fit.field {t t' : TypeId} {fs : Array Field} {l : List (DataW H)} {d : DataW H} {i : Nat} (h : Fit P t (.agg l)) (ht : P.underlying t = some (.struct fs)) (hi : (fs.toList.map (·.type))[i]? = some t') (hd : l[i]? = some d) : Fit P t' d := by
  intro m hm
  refine h m ?_
  simp only [DataW.weights, ht]
  exact DataW.weights_mem_each hi hd m hm
theorem Fit.arg {ts : List TypeId} {ds : List (DataW H)} (h : (DataW.weightsEach P ts ds).all (· ≤ reachBytes) = true) {j : Nat} {t : TypeId} {d : DataW H} (ht : ts[j]? = some t) (hd : ds[j]? = some d) : Fit P t d := by
  intro m hm
  simpa using List.all_eq_true.1 h _ (DataW.weights_mem_each ht hd m hm)
theorem rd_of_cells {a : Addr} {xs : List Value} (h : ∀ j, j < xs.length → w.cell? (a.add j) = xs[j]?) : Rd w w.heap.size (some a) xs := by
  by_cases hx : xs = []
  · exact .inl hx
  have hl : 0 < xs.length := List.length_pos_iff.2 hx
  obtain ⟨b, off, spot⟩ := a
  have h0 := h 0 hl
  rw [List.getElem?_eq_getElem hl] at h0
  have hspot : spot = none := by simpa [Addr.add] using World.cell?_spot h0
  subst hspot
  have hp : ∀ j, (⟨b, off, none⟩ : Addr).add j = ⟨b, off + j, none⟩ := fun j => Go.WideShapes.add_plain ..
  refine .inr ⟨b, off, rfl, ?_, fun j hj => by rw [← hp]; exact h j hj⟩
  rcases Nat.lt_or_ge b w.heap.size with hh | hg
  · exact hh
  · rw [hp] at h0
    simp [World.cell?, Array.getElem?_eq_none hg] at h0
theorem read_ints {t e : TypeId} {k : IntKind} {fuel : Nat} {v : Value} {x : DataW H × List MemPlace} (ht : P.underlying t = some (.slice e)) (he : P.underlying e = some (.int k)) (hC : P.cellsOf e = 1) (h : DataW.trod enc P w 0 spare held fuel t [v] = some x) :
    ∃ A n c zs, v = .slice A n c ∧ n = zs.length ∧ n ≤ c ∧ c ≤ maxLen ∧ Rd w w.heap.size A (zs.map (Value.int k)) ∧ (∀ z ∈ zs, (Lit.int k z).wf = true) ∧ (Fit P t x.1 → n * P.bytesOf e ≤ reachBytes) ∧ (x.1 = .nil ∧ zs = [] ∨ ∃ ys, x.1 = .slice (lits k zs) ys) := by
  rcases open_ints ht he hC h with ⟨hcs, hx⟩ | ⟨a, len, cap, zs, hcs, _, hl, hm, hz, hx, hcell, hwz⟩
  · injection hcs with hcs
    subst hcs hx
    exact ⟨none, 0, 0, [], rfl, rfl, Nat.le_refl _, by simp [maxLen], Rd.nil, by simp, fun _ => by simp, .inl ⟨rfl, rfl⟩⟩
  · injection hcs with hcs
    subst hcs hx
    have hle : len ≤ zs.length := by rw [hz]; split <;> omega
    refine ⟨some a, len, cap, zs.take len, rfl, by simp; omega, hl, hm, rd_of_cells fun j hj => ?_, fun z hz => hwz z (List.mem_of_mem_take hz), fun hf => ?_, .inr ⟨_, rfl⟩⟩
    · have hj2 : j < len ∧ j < zs.length := by simp at hj; omega
      rw [hcell j hj2.2]
      simp [List.getElem?_map, List.getD_eq_getElem?_getD, hj2.1, List.getElem?_eq_getElem hj2.2]
    · have := hf.len ht
      simp only [lits, List.length_map, List.length_take] at this
      rw [Nat.min_eq_left hle] at this
      exact this
theorem read_chunks {α : Type} {E : List Value → α → Prop} {a : Addr} {size : Nat} : ∀ (len : Nat), (∀ i, i < len → ∃ cs t, E cs t ∧ cs.length = size ∧ ∀ j, j < size → w.cell? (a.add (i * size + j)) = cs[j]?) →
    ∃ ps : List (List Value × α), ps.length = len ∧ (∀ p ∈ ps, E p.1 p.2) ∧ (ps.flatMap (·.1)).length = len * size ∧ ∀ j, j < len * size → w.cell? (a.add j) = (ps.flatMap (·.1))[j]?
  | 0, _ => ⟨[], rfl, by simp, by simp, fun j hj => by simp at hj⟩
  | len + 1, h => by
    obtain ⟨ps, h1, h2, h3, h4⟩ := read_chunks len (fun i hi => h i (by omega))
    obtain ⟨cs, t, e1, e2, e3⟩ := h len (by omega)
    have hml : (len + 1) * size = len * size + size := by rw [Nat.add_mul, Nat.one_mul]
    refine ⟨ps ++ [(cs, t)], by simp [h1], ?_, ?_, ?_⟩
    · intro p hp
      rcases List.mem_append.1 hp with hp | hp
      · exact h2 p hp
      · obtain rfl : p = (cs, t) := by simpa using hp
        exact e1
    · rw [List.flatMap_append, List.length_append, h3, hml]; simp [e2]
    · intro j hj
      rw [List.flatMap_append]
      by_cases hjl : j < len * size
      · rw [List.getElem?_append_left (by omega)]; exact h4 j hjl
      · rw [List.getElem?_append_right (by omega), h3]
        have := e3 (j - len * size) (by omega)
        rw [show len * size + (j - len * size) = j by omega] at this
        simpa using this
/-- a slice's elements, each by its cells -/
theorem read_slice {α : Type} {E : List Value → α → Prop} {t e : TypeId} {size fuel : Nat} {v : Value} {x : DataW H × List MemPlace} (ht : P.underlying t = some (.slice e)) (hC : P.cellsOf e = size) (h : DataW.trod enc P w 0 spare held fuel t [v] = some x)
    (hE : ∀ n cs d p, DataW.trod enc P w 0 spare held n e cs = some (d, p) → cs.length = size → (Fit P t x.1 → Fit P e d) → ∃ y, E cs y) :
    ∃ (A : Option Addr) (n c : Nat) (ps : List (List Value × α)), v = .slice A n c ∧ n = ps.length ∧ n ≤ c ∧ c ≤ maxLen ∧ Rd w w.heap.size A (ps.flatMap (·.1)) ∧ (∀ p ∈ ps, E p.1 p.2) ∧ (Fit P t x.1 → n * P.bytesOf e ≤ reachBytes) ∧ (x.1 = .nil ∧ n = 0 ∨ ∃ l s, x.1 = .slice l s ∧ l.length = n) := by
  rcases open_slice ht h with ⟨hcs, hx⟩ | ⟨a, len, cap, m, n, D, Pl, hcs, hb, hl, hm, hmm, hx, hi⟩
  · injection hcs with hcs
    subst hcs hx
    exact ⟨none, 0, 0, [], rfl, rfl, Nat.le_refl _, by simp [maxLen], Rd.nil, by simp, fun _ => by simp, .inl ⟨rfl, rfl⟩⟩
  · injection hcs with hcs
    have hle : len ≤ m := by rw [hmm]; split <;> omega
    obtain ⟨ps, h1, h2, h3, h4⟩ := read_chunks (w := w) (E := E) (a := a) (size := size) len (fun i hil => by
      obtain ⟨cs', hc, htr⟩ := hi i (by omega)
      rw [hC] at hc
      obtain ⟨_, hcl, hat⟩ := World.cells?_some hc
      obtain ⟨y, hy⟩ := hE n cs' (D i) (Pl i) htr hcl (fun hf => by
        rw [hx] at hf
        exact Fit.elem hf ht (List.mem_map.2 ⟨i, by simpa using hil, rfl⟩))
      refine ⟨cs', y, hy, hcl, fun j hj => ?_⟩
      rw [← Go.Deep.add_add]
      exact hat j hj)
    subst hcs
    refine ⟨some a, len, cap, ps, rfl, h1.symm, hl, hm, rd_of_cells (fun j hj => h4 j (by omega)), h2, fun hf => ?_, .inr ⟨_, _, by rw [hx], by simp⟩⟩
    rw [hx] at hf
    have := hf.len ht
    simpa using this
end
theorem wf_u8 {z : Int} (h : (Lit.int .u8 z).wf = true) : 0 ≤ z ∧ z ≤ 255 := by simpa [Lit.wf, IntKind.min, IntKind.max, IntKind.signed, IntKind.bits] using h
end Go.Proofs.YtncpokioagpclaaGreatDoor
