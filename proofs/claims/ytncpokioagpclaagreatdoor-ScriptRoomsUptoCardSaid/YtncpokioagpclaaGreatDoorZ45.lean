/- Texts of this seat, one behind the other: VietG. -/
import Derived.Test.YtncpokioagpclaaGreatDoorZ14
import Derived.Test.YtncpokioagpclaaGreatDoorRows
import Derived.Lib.LaidTab
import Derived.OpenShut
import Derived.Deep.Strs
namespace Go.Proofs.YtncpokioagpclaaGreatDoor
set_option linter.unusedVariables false
set_option linter.unusedSimpArgs false
set_option linter.unnecessarySimpa false
open Go.RowKit Go.Deep
def rowD {H : Type} (R : Nat) : DataW H := .agg [.lit (.int .i64 (vrow R).1), .lit (.int .i64 ((vrow R).2.1 : Int)), Lib.tabData .i64 [vs R 0, vs R 1, vs R 2, vs R 3, vs R 4, vs R 5]]
def tabD {H : Type} : DataW H := .agg ((List.range 14).map rowD)
theorem rows_data9 : (Rows.laid_lontar_viet_rows : DataW Unit) = tabD := by kernel_rfl
theorem lit_cell {H : Type} {enc : TypeId × Value → H} {P : Program} {w : World} {base : Nat} {sp : Nat → Bool} {held : Bool} {fuel : Nat} {t : TypeId} {k : IntKind} {cs : List Value} {z : Int} {p : List MemPlace} (ht : P.underlying t = some (.int k))
    (h : DataW.trod enc P w base sp held fuel t cs = some (.lit (.int k z), p)) : cs = [.int k z] := by
  obtain ⟨z', hc, hd, _⟩ := DataW.trod_int ht h
  simp only [Prod.mk.injEq, DataW.lit.injEq, Lit.int.injEq, true_and] at hd
  rw [hc, hd.1]
set_option maxRecDepth 100000 in
theorem row_cells {H : Type} {enc : TypeId × Value → H} {w : World} {base : Nat} {sp : Nat → Bool} {held : Bool} {fuel : Nat} {cs : List Value} {R : Nat} {p : List MemPlace}
    (h : DataW.trod enc Tryz.prog w base sp held fuel 249 cs = some (rowD R, p)) : cs = vrowV R := by
  obtain ⟨y0, y1, y2, n, hx, hl, h0, h1, h2⟩ := trod_struct3 Tryz.underlying249 h
  have hcr : Tryz.prog.cellsOf 249 = 8 := by kernel_rfl
  have hci : Tryz.prog.cellsOf 3 = 1 := by kernel_rfl
  have hca : Tryz.prog.cellsOf 247 = 6 := by kernel_rfl
  obtain ⟨d0, p0⟩ := y0
  obtain ⟨d1, p1⟩ := y1
  obtain ⟨d2, p2⟩ := y2
  simp only [rowD, Prod.mk.injEq, DataW.agg.injEq, List.cons.injEq, and_true] at hx
  obtain ⟨⟨rfl, rfl, rfl⟩, _⟩ := hx
  have e0 := lit_cell Tryz.underlying3 h0
  have e1 := lit_cell Tryz.underlying3 h1
  have e2 := Lib.cells_of_tab Tryz.underlying247 Tryz.underlying3 hci hca h2
  simp only [hci, hca] at e0 e1 e2
  rw [hcr] at hl
  match cs, hl with
  | [a, b, c0, c1, c2, c3, c4, c5], _ =>
    simp at e0 e1 e2
    unfold vrowV
    rw [e0, e1, e2.1, e2.2.1, e2.2.2.1, e2.2.2.2.1, e2.2.2.2.2.1, e2.2.2.2.2.2]
theorem chunks {cs : List Value} {n : Nat} {f : Nat → List Value} (hl : cs.length = n * 8) (hf : ∀ i, i < n → (f i).length = 8) (h : ∀ i, i < n → (cs.drop (i * 8)).take 8 = f i) : cs = (List.range n).flatMap f := by
  induction n generalizing cs with
  | zero => simp at hl; simp [hl]
  | succ n ih =>
    have h1 : cs.take (n * 8) = (List.range n).flatMap f := by
      refine ih (by simp; omega) (fun i hi => hf i (by omega)) fun i hi => ?_
      rw [← h i (by omega), List.drop_take, List.take_take]
      congr 1
      omega
    have h2 := h n (by omega)
    rw [List.take_of_length_le (by simp; omega)] at h2
    rw [List.range_succ, List.flatMap_append, ← h1, List.flatMap_cons, List.flatMap_nil, List.append_nil, ← h2, List.take_append_drop]
set_option maxRecDepth 100000 in
theorem rowsV_of {W : World} {rest : List (String × DataW Unit)} (h : laidMet Tryz.prog (("lontar/viet.rows", Rows.laid_lontar_viet_rows) :: rest) W) : RowsV W := by
  rw [rows_data9] at h
  have hg : Tryz.prog.globalNamed "lontar/viet.rows" = some 3 := by kernel_rfl
  have hty : (Tryz.prog.globals[3]?).map (·.type) = some 250 := by kernel_rfl
  obtain ⟨ps, ⟨g', t', cs, fuel, p, q, hg', ht', hvar, hd, _, _⟩, _⟩ := h
  obtain rfl := Option.some.inj (hg.symm.trans hg')
  obtain rfl := Option.some.inj (hty.symm.trans ht')
  unfold RowsV
  rw [hvar]
  have hca : Tryz.prog.cellsOf 250 = 112 := by kernel_rfl
  have hcr : Tryz.prog.cellsOf 249 = 8 := by kernel_rfl
  obtain ⟨xs, m, _, hx, hl, hxl, hi⟩ := DataW.trod_array Tryz.underlying250 hd
  rw [hca] at hl
  rw [hcr] at hi
  simp only [Prod.mk.injEq, tabD, DataW.agg.injEq] at hx
  have key : cs.toList = (List.range 14).flatMap vrowV := by
    refine chunks hl (fun i _ => rfl) fun i hi14 => ?_
    have h1 := hi i hi14
    have h2 : (xs.map (·.1))[i]? = some (rowD i) := by rw [← hx.1]; simp [hi14]
    rw [List.getElem?_map, Option.map_eq_some_iff] at h2
    obtain ⟨y, hy, hy1⟩ := h2
    obtain ⟨d, pl⟩ := y
    subst hy1
    exact row_cells (h1.trans hy)
  unfold rowsC
  rw [← key]
end Go.Proofs.YtncpokioagpclaaGreatDoor
