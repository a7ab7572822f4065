/- Tokens that came in, read as data; how many units they mean together. -/
import Derived.Test.YtfbncepkmhfbmaaRows
import Derived.Test.YtfbncepkmhfbmaaReadRows
import Derived.Test.YtfbncepkmhfbmaaTok
namespace Go.Proofs.Ytfbncepkmhfbmaa
open Go.ChangeShapes Go.WideShapes Go.ChangeAt Go.RowKit Go.Deep
set_option linter.unusedVariables false
section
variable {H : Type} {enc : TypeId × Value → H} {P : Program} {w : World} {spare : Nat → Bool} {held : Bool}
def sumL : List Nat → Nat
  | [] => 0
  | a :: l => a + sumL l
theorem sumL_app : ∀ a b : List Nat, sumL (a ++ b) = sumL a + sumL b
  | [], b => by simp [sumL]
  | x :: a, b => by simp only [List.cons_append, sumL, sumL_app a b]; omega
theorem read_chunksS {α : Type} {E : List Value → α → Prop} {F : α → Nat} {G : Nat → Nat} {a : Addr} {size : Nat} : ∀ (len : Nat), (∀ i, i < len → ∃ cs t, E cs t ∧ F t ≤ G i ∧ cs.length = size ∧ ∀ j, j < size → w.cell? (a.add (i * size + j)) = cs[j]?) →
    ∃ ps : List (List Value × α), ps.length = len ∧ (∀ p ∈ ps, E p.1 p.2) ∧ sumL (ps.map fun p => F p.2) ≤ sumL ((List.range len).map G) ∧ (ps.flatMap (·.1)).length = len * size ∧ ∀ j, j < len * size → w.cell? (a.add j) = (ps.flatMap (·.1))[j]?
  | 0, _ => ⟨[], rfl, by simp, by simp [sumL], by simp, fun j hj => by simp at hj⟩
  | len + 1, h => by
    obtain ⟨ps, h1, h2, hS, h3, h4⟩ := read_chunksS (F := F) (G := G) len (fun i hi => h i (by omega))
    obtain ⟨cs, t, e1, eS, e2, e3⟩ := h len (by omega)
    have hml : (len + 1) * size = len * size + size := by rw [Nat.add_mul, Nat.one_mul]
    refine ⟨ps ++ [(cs, t)], by simp [h1], ?_, ?_, ?_, ?_⟩
    · intro p hp
      rcases List.mem_append.1 hp with hp | hp
      · exact h2 p hp
      · obtain rfl : p = (cs, t) := by simpa using hp
        exact e1
    · rw [List.range_succ, List.map_append, List.map_append, sumL_app, sumL_app]
      simp only [List.map_cons, List.map_nil, sumL]
      omega
    · rw [List.flatMap_append, List.length_append, h3, hml]; simp [e2]
    · intro j hj
      rw [List.flatMap_append]
      by_cases hjl : j < len * size
      · rw [List.getElem?_append_left (by omega)]; exact h4 j hjl
      · rw [List.getElem?_append_right (by omega), h3]
        have := e3 (j - len * size) (by omega)
        rw [show len * size + (j - len * size) = j by omega] at this
        simpa using this
theorem bulk_map (D : Nat → DataW H) : ∀ l : List Nat, Rows.uptoBulkAll (l.map D) = sumL (l.map fun i => Rows.uptoBulk (D i))
  | [] => rfl
  | i :: l => by simp only [List.map_cons, Rows.uptoBulkAll, sumL, bulk_map D l]
def TkE (w : World) (cs : List Value) (t : Tk) : Prop := ∃ s, cs = [.int .i64 t.pos, .int .i64 t.size, s, .int .i64 t.err] ∧ Us (· < w.heap.size) w s t.out
theorem bulk_one (d : DataW H) : 1 ≤ Rows.uptoBulk d := by
  cases d with
  | lit l => cases l <;> simp [Rows.uptoBulk]
  | _ => simp [Rows.uptoBulk]
theorem bulk_len : ∀ l : List (DataW H), l.length ≤ Rows.uptoBulkAll l
  | [] => by simp
  | d :: l => by have := bulk_one d; have := bulk_len l; simp only [Rows.uptoBulkAll, List.length_cons]; omega
theorem bulk_ints {d : DataW H} {k : IntKind} {xs : List Int} (h : d = .nil ∧ xs = [] ∨ ∃ ys, d = .slice (lits k xs) ys) : xs.length ≤ Rows.uptoBulk d := by
  rcases h with ⟨_, rfl⟩ | ⟨ys, rfl⟩
  · simp
  · have := bulk_len (H := H) (lits k xs)
    have e : (lits (H := H) k xs).length = xs.length := by simp [lits]
    simp only [Rows.uptoBulk]; omega
theorem read_tok {n : Nat} {cs : List Value} {d : DataW H} {p : List MemPlace} (h : DataW.trod enc Try.prog w 0 spare held n 39 cs = some (d, p)) (hl : cs.length = 4) : ∃ t, TkE w cs t ∧ t.out.length ≤ Rows.uptoBulk d := by
  obtain ⟨xs, m, _, hx, _, hxl, hf⟩ := DataW.trod_struct Try.underlying39 h
  have c5 : Try.prog.cellsOf 3 = 1 := by kernel_rfl
  have c6 : Try.prog.cellsOf 24 = 1 := by kernel_rfl
  have c7 : Try.prog.cellsOf 29 = 1 := by kernel_rfl
  match cs, hl with
  | [a, b, s, e], _ =>
    match xs, hxl with
    | [y0, y1, y2, y3], _ =>
      have h0 := hf 0 _ rfl
      have h1 := hf 1 _ rfl
      have h2 := hf 2 _ rfl
      have h3 := hf 3 _ rfl
      simp only [List.getElem?_cons_zero, List.getElem?_cons_succ] at h0 h1 h2 h3
      obtain ⟨z0, e0, _, _⟩ := DataW.trod_int Try.underlying3 h0
      obtain ⟨z1, e1, _, _⟩ := DataW.trod_int Try.underlying3 h1
      obtain ⟨z3, e3, _, _⟩ := DataW.trod_int Try.underlying29 h3
      obtain ⟨A4, n4, k4, z4, rfl, l4, f4, m4, r4, w4, b4, u4⟩ := read_ints Try.underlying24 Try.underlying3 c5 h2
      injection e0 with e0
      injection e1 with e1
      injection e3 with e3
      subst e0 e1 e3
      refine ⟨⟨z0, z1, z4, z3⟩, ⟨_, rfl, us_read l4 f4 m4 r4⟩, ?_⟩
      have ed : d = .agg ([y0, y1, y2, y3].map (·.1)) := by injection hx
      have hb := bulk_ints u4
      rw [ed]
      show z4.length ≤ Rows.uptoBulk _
      simp only [List.map_cons, List.map_nil, Rows.uptoBulk, Rows.uptoBulkAll]
      omega
theorem toks_of : ∀ (ps : List (List Value × Tk)), (∀ p ∈ ps, TkE w p.1 p.2) → Tks (· < w.heap.size) w (ps.flatMap (·.1)) (ps.map (·.2))
  | [], _ => trivial
  | (cs, t) :: ps, h => by
    obtain ⟨s, e, h1⟩ := h (cs, t) (by simp)
    have ih := toks_of ps (fun p hp => h p (by simp [hp]))
    simp only at e
    rw [List.flatMap_cons, e]
    exact ⟨rfl, rfl, h1, rfl, ih⟩
theorem outs_sum : ∀ (ps : List (List Value × Tk)), (outsT (ps.map (·.2))).length = sumL (ps.map fun p => p.2.out.length)
  | [] => rfl
  | p :: ps => by
    have h := outs_sum ps
    simp only [outsT, List.map_cons, List.flatMap_cons, List.length_append, sumL] at h ⊢
    omega
theorem read_toks {fuel : Nat} {v : Value} {d : DataW H} {p : List MemPlace} (h : DataW.trod enc Try.prog w 0 spare held fuel 33 [v] = some (d, p)) :
    ∃ A n c ts, v = .slice A n c ∧ TkAt w w.heap.size A n c ts ∧ (outsT ts).length ≤ Rows.uptoBulk d := by
  have hC : Try.prog.cellsOf 39 = 4 := by kernel_rfl
  rcases open_slice Try.underlying33 h with ⟨hcs, hx⟩ | ⟨a, len, cap, m, n, D, Pl, hcs, hb, hl, hm, hmm, hx, hi⟩
  · injection hcs with hcs
    subst hcs
    exact ⟨none, 0, 0, [], rfl, ⟨rfl, Nat.le_refl _, by simp [maxLen], [], Rd.nil, trivial⟩, by simp [outsT]⟩
  · injection hcs with hcs
    have hle : len ≤ m := by rw [hmm]; split <;> omega
    obtain ⟨ps, h1, h2, hS, h3, h4⟩ := read_chunksS (w := w) (E := TkE w) (F := fun t => t.out.length) (G := fun i => Rows.uptoBulk (D i)) (a := a) (size := 4) len (fun i hil => by
      obtain ⟨cs', hc, htr⟩ := hi i (by omega)
      rw [hC] at hc
      obtain ⟨_, hcl, hat⟩ := World.cells?_some hc
      obtain ⟨t, hy, hs⟩ := read_tok htr hcl
      refine ⟨cs', t, hy, hs, hcl, fun j hj => ?_⟩
      rw [hC, ← Go.Deep.add_add] at *
      exact hat j hj)
    subst hcs
    refine ⟨some a, len, cap, ps.map (·.2), rfl, ⟨by simpa using h1.symm, hl, hm, _, rd_of_cells (fun j hj => h4 j (by omega)), toks_of ps h2⟩, ?_⟩
    rw [outs_sum]
    have ed : d = _ := congrArg Prod.fst hx
    rw [ed]
    simp only [Rows.uptoBulk]
    rw [bulk_map]
    omega
end
end Go.Proofs.Ytfbncepkmhfbmaa
