/- Texts of this seat, one behind the other: VnT. -/
import Derived.Test.YtncpokioagpclaaGreatDoorZ16
import Derived.Test.YtncpokioagpclaaGreatDoorZ45
namespace Go.Proofs.YtncpokioagpclaaGreatDoor
set_option linter.unusedVariables false
set_option linter.unusedSimpArgs false
set_option linter.unnecessarySimpa false
open Go.RowKit Go.Deep
def vnSgR (M : Nat) : List Int := (vnSg.drop (M * 6)).take 6
def vnSgD {H : Type} : DataW H := .agg ((List.range 4).map fun M => Lib.tabData .u8 (vnSgR M))
theorem vnSg_data : (Rows.laid_lontar_vni_signs : DataW Unit) = vnSgD := by kernel_rfl
theorem chunksN (N : Nat) {cs : List Value} {n : Nat} {f : Nat → List Value} (hl : cs.length = n * N) (h : ∀ i, i < n → (cs.drop (i * N)).take N = f i) : cs = (List.range n).flatMap f := by
  induction n generalizing cs with
  | zero => simp at hl; simp [hl]
  | succ n ih =>
    have hm : (n + 1) * N = n * N + N := Nat.succ_mul n N
    have h1 : cs.take (n * N) = (List.range n).flatMap f := by
      refine ih (by simp; omega) fun i hi => ?_
      rw [← h i (by omega), List.drop_take, List.take_take]
      congr 1
      have : (i + 1) * N ≤ n * N := Nat.mul_le_mul_right N hi
      rw [Nat.succ_mul] at this
      omega
    have h2 := h n (by omega)
    rw [List.take_of_length_le (by simp; omega)] at h2
    rw [List.range_succ, List.flatMap_append, ← h1, List.flatMap_cons, List.flatMap_nil, List.append_nil, ← h2, List.take_append_drop]
theorem sigN_of {W : World} {rest : List (String × DataW Unit)} (h : laidMet Tryz.prog (("lontar/vni.signs", Rows.laid_lontar_vni_signs) :: rest) W) : SigN W := by
  rw [vnSg_data] at h
  have hg : Tryz.prog.globalNamed "lontar/vni.signs" = some 4 := by kernel_rfl
  have hty : (Tryz.prog.globals[4]?).map (·.type) = some 253 := by kernel_rfl
  obtain ⟨ps, ⟨g', t', cs, fuel, p, q, hg', ht', hvar, hd, _, _⟩, _⟩ := h
  obtain rfl := Option.some.inj (hg.symm.trans hg')
  obtain rfl := Option.some.inj (hty.symm.trans ht')
  unfold SigN
  rw [hvar]
  have hca : Tryz.prog.cellsOf 253 = 24 := by kernel_rfl
  have hcr : Tryz.prog.cellsOf 252 = 6 := by kernel_rfl
  have hcu : Tryz.prog.cellsOf 5 = 1 := by kernel_rfl
  obtain ⟨xs, m, _, hx, hl, hxl, hi⟩ := DataW.trod_array Tryz.underlying253 hd
  rw [hca] at hl
  rw [hcr] at hi
  simp only [Prod.mk.injEq, vnSgD, DataW.agg.injEq] at hx
  have key : cs.toList = (List.range 4).flatMap fun M => (vnSgR M).map (Value.int .u8) := by
    refine chunksN 6 hl fun i hi4 => ?_
    have h1 := hi i hi4
    have h2 : (xs.map (·.1))[i]? = some (Lib.tabData .u8 (vnSgR i)) := by rw [← hx.1]; simp [hi4]
    rw [List.getElem?_map, Option.map_eq_some_iff] at h2
    obtain ⟨y, hy, hy1⟩ := h2
    obtain ⟨d, pl⟩ := y
    subst hy1
    exact Lib.cells_of_tab Tryz.underlying252 Tryz.underlying5 hcu hcr (h1.trans hy)
  have : vnSgC = ((List.range 4).flatMap fun M => (vnSgR M).map (Value.int .u8)).toArray := by kernel_rfl
  rw [this, ← key]
theorem tabN_of {W : World} {r0 r1 : List (String × DataW Unit)} (h0 : laidMet Tryz.prog (("lontar/viet.rows", Rows.laid_lontar_viet_rows) :: r0) W) (h1 : laidMet Tryz.prog (("lontar/vni.signs", Rows.laid_lontar_vni_signs) :: r1) W) : TabN W := ⟨rowsV_of h0, sigN_of h1⟩
end Go.Proofs.YtncpokioagpclaaGreatDoor
