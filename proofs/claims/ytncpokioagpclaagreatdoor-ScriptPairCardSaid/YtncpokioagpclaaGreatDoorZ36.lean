/- Texts of this seat, one behind the other: CarryA, CarryB, CarryCl. -/
import Derived.Test.YtncpokioagpclaaGreatDoorZ6
import Derived.RegionTactic
import Derived.ChangeAlike
import Derived.Deep.RegionLaw
import Derived.Laws.CopyOwn
namespace Go.Proofs.YtncpokioagpclaaGreatDoor
set_option linter.unusedVariables false
open Go.RowKit

/-- a reader's block: its bytes, how many wait, where these begin -/
def RdrT (ty : TypeId) (x0 x1 x2 x3 h at_ : Int) : Obj := .cells #[.int .u8 x0, .int .u8 x1, .int .u8 x2, .int .u8 x3, .int .i64 h, .int .i64 at_] ty (0, 0)
section
variable {ty : TypeId}
theorem RdrT.cells {w : World} {p : Nat} {x0 x1 x2 x3 h at_ : Int} (hp : w.heap[p]? = some (RdrT ty x0 x1 x2 x3 h at_)) : w.cell? ⟨p, 0, none⟩ = some (.int .u8 x0) ∧ w.cell? ⟨p, 1, none⟩ = some (.int .u8 x1) ∧ w.cell? ⟨p, 2, none⟩ = some (.int .u8 x2) ∧
    w.cell? ⟨p, 3, none⟩ = some (.int .u8 x3) ∧ w.cell? ⟨p, 4, none⟩ = some (.int .i64 h) ∧ w.cell? ⟨p, 5, none⟩ = some (.int .i64 at_) ∧ ∀ o, w.frozen? ⟨p, o, none⟩ = false := by
  refine ⟨?_, ?_, ?_, ?_, ?_, ?_, fun o => frozen_of_row _ _ _ _ _ hp⟩ <;> (rw [cell_of_row _ _ _ _ _ _ hp]; rfl)
theorem arr_cells {w : World} {g : Nat} {y0 y1 y2 y3 : Value} {t : TypeId} (hp : w.heap[g]? = some (.cells #[y0, y1, y2, y3] t (0, 0))) : w.cell? ⟨g, 0, none⟩ = some y0 ∧ w.cell? ⟨g, 1, none⟩ = some y1 ∧ w.cell? ⟨g, 2, none⟩ = some y2 ∧ w.cell? ⟨g, 3, none⟩ = some y3 := by
  refine ⟨?_, ?_, ?_, ?_⟩ <;> (rw [cell_of_row _ _ _ _ _ _ hp]; rfl)
theorem heap_lt {w : World} {p : Nat} {o : Obj} (hp : w.heap[p]? = some o) : p < w.heap.size := by
  rcases Nat.lt_or_ge p w.heap.size with h | h
  · exact h
  · rw [Array.getElem?_eq_none h] at hp; cases hp
theorem cgrown_below {w w' : World} {p : Option Nat} (h : Below w.heap.size w w') : w.grownBy w' p := ⟨h.os, h.tape, h.output, h.size, fun k hk _ => h.block k hk⟩
theorem cgrown_set {w w' : World} {p : Nat} (h : w.grownBy w' (some p)) (j : Nat) (u : Value) : w.grownBy (w'.setCell ⟨p, j, none⟩ u) (some p) :=
  grown_seq h ⟨rfl, rfl, rfl, by simp, fun k _ hk => heap_setCell_other w' ⟨p, j, none⟩ k u (fun e => hk (by simp [e]))⟩
theorem rdr_set6 {w : World} {p : Nat} {x0 x1 x2 x3 h at_ : Int} (hp : w.heap[p]? = some (RdrT ty x0 x1 x2 x3 h at_)) (y0 y1 y2 y3 h' at' : Int) :
    ((((((w.setCell ⟨p, 0, none⟩ (.int .u8 y0)).setCell ⟨p, 1, none⟩ (.int .u8 y1)).setCell ⟨p, 2, none⟩ (.int .u8 y2)).setCell ⟨p, 3, none⟩ (.int .u8 y3)).setCell ⟨p, 4, none⟩ (.int .i64 h')).setCell ⟨p, 5, none⟩ (.int .i64 at')).heap[p]? = some (RdrT ty y0 y1 y2 y3 h' at') :=
  heap_setCell_same _ p 5 _ _ _ (heap_setCell_same _ p 4 _ _ _ (heap_setCell_same _ p 3 _ _ _ (heap_setCell_same _ p 2 _ _ _ (heap_setCell_same _ p 1 _ _ _ (heap_setCell_same w p 0 _ _ _ hp)))))
theorem copy_src {W w : World} {p n : Nat} {cs : List Value} (hW : W.heap[p]? = w.heap[p]?) (hc : ∀ j v, cs[j]? = some v → w.cell? ⟨p, n + j, none⟩ = some v) : ∀ j v, cs[j]? = some v → W.cell? ((⟨p, n, none⟩ : Addr).add j) = some v := by
  intro j v hj
  rw [show (⟨p, n, none⟩ : Addr).add j = ⟨p, n + j, none⟩ from by unfold Addr.add; split <;> simp_all]
  exact (World.cell?_of_block (w := w) hW).trans (hc j v hj)

set_option maxHeartbeats 800000 in
theorem drop_10 (p : Nat) (x0 x1 x2 x3 at_ : Int) (w : World) (hp : w.heap[p]? = some (RdrT ty x0 x1 x2 x3 1 at_)) (h0 : 0 ≤ at_) (h1 : at_ ≤ 4503599627370496) :
    Calls Tryz.prog 194 #[.pointer (some ⟨p, 0, none⟩), .int .i64 0] w fun e w' => e = .returned (.tuple #[]) ∧ w'.heap[p]? = some (RdrT ty x0 0 0 0 1 at_) ∧ w.grownBy w' (some p) := by
  have hlt := heap_lt hp
  have hne : ¬ p = w.heap.size := by omega
  obtain ⟨c0, c1, c2, c3, c4, c5, _⟩ := RdrT.cells hp
  have hcc : ∀ j v, ([Value.int .u8 x0] : List Value)[j]? = some v → w.cell? ⟨p, 0 + j, none⟩ = some v := by
    intro j v hj
    match j with
    | 0 => (obtain rfl : Value.int .u8 x0 = v := by simpa using hj); exact c0
    | k + 1 => simp at hj
  have HC := Lib.hid hcc
  have HP := Lib.hid hp
  clear hp hcc
  go_enter Tryz.func194, Tryz.ntmps194
  go_wp2
  have hg : (w.alloc (.cells #[.int .u8 0, .int .u8 0, .int .u8 0, .int .u8 0] 85)).heap[w.heap.size]? = some (.cells ([Value.int .u8 0, .int .u8 0, .int .u8 0, .int .u8 0] : List Value).toArray 85 (0, 0)) := heap_alloc_new w _
  have HG := Lib.hid hg
  clear hg
  go_region_law (refine step_copy_splice rfl (.tmp 5) (.tmp 14) 22 22 rfl 5 Tryz.underlying22 (by kernel_rfl) (some ⟨w.heap.size, 0, none⟩) (some ⟨p, 0, none⟩) _ _ _ _ rfl rfl w.heap.size 0 [Value.int .u8 0, .int .u8 0, .int .u8 0, .int .u8 0] 85 HG.out [Value.int .u8 x0] rfl (fun _ => ⟨rfl, _, rfl, copy_src (Below.heap_alloc w _ p (by omega)) HC.out⟩) (by simp) (by simp [Value.oneCell']) w.heap.size w ((Below.refl _ _).alloc (Nat.le_refl _) _).drew (Nat.le_refl _) ?_; intro w4 hg4 hb4)
  have hg5 : w4.heap[w.heap.size]? = some (.cells #[.int .u8 x0, .int .u8 0, .int .u8 0, .int .u8 0] 85 (0, 0)) := hg4.out
  have hp4 := (hb4.block p hlt).trans HP.out
  obtain ⟨g0, g1, g2, g3⟩ := arr_cells hg5
  obtain ⟨d0, d1, d2, d3, d4, d5, df⟩ := RdrT.cells hp4
  have HP4 := Lib.hid hp4
  clear hg4 hg5 hp4 c0 c1 c2 c3 c4 c5
  go_wp2
  go_end0
  exact ⟨rfl, rdr_set6 HP4.out _ _ _ _ _ _, cgrown_set (cgrown_set (cgrown_set (cgrown_set (cgrown_set (cgrown_set (cgrown_below hb4) _ _) _ _) _ _) _ _) _ _) _ _⟩

set_option maxHeartbeats 800000 in
theorem drop_11 (p : Nat) (x0 x1 x2 x3 at_ : Int) (w : World) (hp : w.heap[p]? = some (RdrT ty x0 x1 x2 x3 1 at_)) (h0 : 0 ≤ at_) (h1 : at_ ≤ 4503599627370496) :
    Calls Tryz.prog 194 #[.pointer (some ⟨p, 0, none⟩), .int .i64 1] w fun e w' => e = .returned (.tuple #[]) ∧ w'.heap[p]? = some (RdrT ty 0 0 0 0 0 (at_ + 1)) ∧ w.grownBy w' (some p) := by
  have hlt := heap_lt hp
  have hne : ¬ p = w.heap.size := by omega
  obtain ⟨c0, c1, c2, c3, c4, c5, _⟩ := RdrT.cells hp
  have hcc : ∀ j v, (([] : List Value) : List Value)[j]? = some v → w.cell? ⟨p, 1 + j, none⟩ = some v := by
    intro j v hj
    simp at hj
  have HC := Lib.hid hcc
  have HP := Lib.hid hp
  clear hp hcc
  go_enter Tryz.func194, Tryz.ntmps194
  go_wp2
  have hg : (w.alloc (.cells #[.int .u8 0, .int .u8 0, .int .u8 0, .int .u8 0] 85)).heap[w.heap.size]? = some (.cells ([Value.int .u8 0, .int .u8 0, .int .u8 0, .int .u8 0] : List Value).toArray 85 (0, 0)) := heap_alloc_new w _
  have HG := Lib.hid hg
  clear hg
  go_region_law (refine step_copy_splice rfl (.tmp 5) (.tmp 14) 22 22 rfl 5 Tryz.underlying22 (by kernel_rfl) (some ⟨w.heap.size, 0, none⟩) (some ⟨p, 1, none⟩) _ _ _ _ rfl rfl w.heap.size 0 [Value.int .u8 0, .int .u8 0, .int .u8 0, .int .u8 0] 85 HG.out ([] : List Value) rfl (fun _ => ⟨rfl, _, rfl, copy_src (Below.heap_alloc w _ p (by omega)) HC.out⟩) (by simp) (by simp [Value.oneCell']) w.heap.size w ((Below.refl _ _).alloc (Nat.le_refl _) _).drew (Nat.le_refl _) ?_; intro w4 hg4 hb4)
  have hg5 : w4.heap[w.heap.size]? = some (.cells #[.int .u8 0, .int .u8 0, .int .u8 0, .int .u8 0] 85 (0, 0)) := hg4.out
  have hp4 := (hb4.block p hlt).trans HP.out
  obtain ⟨g0, g1, g2, g3⟩ := arr_cells hg5
  obtain ⟨d0, d1, d2, d3, d4, d5, df⟩ := RdrT.cells hp4
  have HP4 := Lib.hid hp4
  clear hg4 hg5 hp4 c0 c1 c2 c3 c4 c5
  go_wp2
  go_end0
  exact ⟨rfl, rdr_set6 HP4.out _ _ _ _ _ _, cgrown_set (cgrown_set (cgrown_set (cgrown_set (cgrown_set (cgrown_set (cgrown_below hb4) _ _) _ _) _ _) _ _) _ _) _ _⟩

set_option maxHeartbeats 800000 in
theorem drop_20 (p : Nat) (x0 x1 x2 x3 at_ : Int) (w : World) (hp : w.heap[p]? = some (RdrT ty x0 x1 x2 x3 2 at_)) (h0 : 0 ≤ at_) (h1 : at_ ≤ 4503599627370496) :
    Calls Tryz.prog 194 #[.pointer (some ⟨p, 0, none⟩), .int .i64 0] w fun e w' => e = .returned (.tuple #[]) ∧ w'.heap[p]? = some (RdrT ty x0 x1 0 0 2 at_) ∧ w.grownBy w' (some p) := by
  have hlt := heap_lt hp
  have hne : ¬ p = w.heap.size := by omega
  obtain ⟨c0, c1, c2, c3, c4, c5, _⟩ := RdrT.cells hp
  have hcc : ∀ j v, ([Value.int .u8 x0, Value.int .u8 x1] : List Value)[j]? = some v → w.cell? ⟨p, 0 + j, none⟩ = some v := by
    intro j v hj
    match j with
    | 0 => (obtain rfl : Value.int .u8 x0 = v := by simpa using hj); exact c0
    | 1 => (obtain rfl : Value.int .u8 x1 = v := by simpa using hj); exact c1
    | k + 2 => simp at hj
  have HC := Lib.hid hcc
  have HP := Lib.hid hp
  clear hp hcc
  go_enter Tryz.func194, Tryz.ntmps194
  go_wp2
  have hg : (w.alloc (.cells #[.int .u8 0, .int .u8 0, .int .u8 0, .int .u8 0] 85)).heap[w.heap.size]? = some (.cells ([Value.int .u8 0, .int .u8 0, .int .u8 0, .int .u8 0] : List Value).toArray 85 (0, 0)) := heap_alloc_new w _
  have HG := Lib.hid hg
  clear hg
  go_region_law (refine step_copy_splice rfl (.tmp 5) (.tmp 14) 22 22 rfl 5 Tryz.underlying22 (by kernel_rfl) (some ⟨w.heap.size, 0, none⟩) (some ⟨p, 0, none⟩) _ _ _ _ rfl rfl w.heap.size 0 [Value.int .u8 0, .int .u8 0, .int .u8 0, .int .u8 0] 85 HG.out [Value.int .u8 x0, Value.int .u8 x1] rfl (fun _ => ⟨rfl, _, rfl, copy_src (Below.heap_alloc w _ p (by omega)) HC.out⟩) (by simp) (by simp [Value.oneCell']) w.heap.size w ((Below.refl _ _).alloc (Nat.le_refl _) _).drew (Nat.le_refl _) ?_; intro w4 hg4 hb4)
  have hg5 : w4.heap[w.heap.size]? = some (.cells #[.int .u8 x0, .int .u8 x1, .int .u8 0, .int .u8 0] 85 (0, 0)) := hg4.out
  have hp4 := (hb4.block p hlt).trans HP.out
  obtain ⟨g0, g1, g2, g3⟩ := arr_cells hg5
  obtain ⟨d0, d1, d2, d3, d4, d5, df⟩ := RdrT.cells hp4
  have HP4 := Lib.hid hp4
  clear hg4 hg5 hp4 c0 c1 c2 c3 c4 c5
  go_wp2
  go_end0
  exact ⟨rfl, rdr_set6 HP4.out _ _ _ _ _ _, cgrown_set (cgrown_set (cgrown_set (cgrown_set (cgrown_set (cgrown_set (cgrown_below hb4) _ _) _ _) _ _) _ _) _ _) _ _⟩

set_option maxHeartbeats 800000 in
theorem drop_21 (p : Nat) (x0 x1 x2 x3 at_ : Int) (w : World) (hp : w.heap[p]? = some (RdrT ty x0 x1 x2 x3 2 at_)) (h0 : 0 ≤ at_) (h1 : at_ ≤ 4503599627370496) :
    Calls Tryz.prog 194 #[.pointer (some ⟨p, 0, none⟩), .int .i64 1] w fun e w' => e = .returned (.tuple #[]) ∧ w'.heap[p]? = some (RdrT ty x1 0 0 0 1 (at_ + 1)) ∧ w.grownBy w' (some p) := by
  have hlt := heap_lt hp
  have hne : ¬ p = w.heap.size := by omega
  obtain ⟨c0, c1, c2, c3, c4, c5, _⟩ := RdrT.cells hp
  have hcc : ∀ j v, ([Value.int .u8 x1] : List Value)[j]? = some v → w.cell? ⟨p, 1 + j, none⟩ = some v := by
    intro j v hj
    match j with
    | 0 => (obtain rfl : Value.int .u8 x1 = v := by simpa using hj); exact c1
    | k + 1 => simp at hj
  have HC := Lib.hid hcc
  have HP := Lib.hid hp
  clear hp hcc
  go_enter Tryz.func194, Tryz.ntmps194
  go_wp2
  have hg : (w.alloc (.cells #[.int .u8 0, .int .u8 0, .int .u8 0, .int .u8 0] 85)).heap[w.heap.size]? = some (.cells ([Value.int .u8 0, .int .u8 0, .int .u8 0, .int .u8 0] : List Value).toArray 85 (0, 0)) := heap_alloc_new w _
  have HG := Lib.hid hg
  clear hg
  go_region_law (refine step_copy_splice rfl (.tmp 5) (.tmp 14) 22 22 rfl 5 Tryz.underlying22 (by kernel_rfl) (some ⟨w.heap.size, 0, none⟩) (some ⟨p, 1, none⟩) _ _ _ _ rfl rfl w.heap.size 0 [Value.int .u8 0, .int .u8 0, .int .u8 0, .int .u8 0] 85 HG.out [Value.int .u8 x1] rfl (fun _ => ⟨rfl, _, rfl, copy_src (Below.heap_alloc w _ p (by omega)) HC.out⟩) (by simp) (by simp [Value.oneCell']) w.heap.size w ((Below.refl _ _).alloc (Nat.le_refl _) _).drew (Nat.le_refl _) ?_; intro w4 hg4 hb4)
  have hg5 : w4.heap[w.heap.size]? = some (.cells #[.int .u8 x1, .int .u8 0, .int .u8 0, .int .u8 0] 85 (0, 0)) := hg4.out
  have hp4 := (hb4.block p hlt).trans HP.out
  obtain ⟨g0, g1, g2, g3⟩ := arr_cells hg5
  obtain ⟨d0, d1, d2, d3, d4, d5, df⟩ := RdrT.cells hp4
  have HP4 := Lib.hid hp4
  clear hg4 hg5 hp4 c0 c1 c2 c3 c4 c5
  go_wp2
  go_end0
  exact ⟨rfl, rdr_set6 HP4.out _ _ _ _ _ _, cgrown_set (cgrown_set (cgrown_set (cgrown_set (cgrown_set (cgrown_set (cgrown_below hb4) _ _) _ _) _ _) _ _) _ _) _ _⟩

set_option maxHeartbeats 800000 in
theorem drop_22 (p : Nat) (x0 x1 x2 x3 at_ : Int) (w : World) (hp : w.heap[p]? = some (RdrT ty x0 x1 x2 x3 2 at_)) (h0 : 0 ≤ at_) (h1 : at_ ≤ 4503599627370496) :
    Calls Tryz.prog 194 #[.pointer (some ⟨p, 0, none⟩), .int .i64 2] w fun e w' => e = .returned (.tuple #[]) ∧ w'.heap[p]? = some (RdrT ty 0 0 0 0 0 (at_ + 2)) ∧ w.grownBy w' (some p) := by
  have hlt := heap_lt hp
  have hne : ¬ p = w.heap.size := by omega
  obtain ⟨c0, c1, c2, c3, c4, c5, _⟩ := RdrT.cells hp
  have hcc : ∀ j v, (([] : List Value) : List Value)[j]? = some v → w.cell? ⟨p, 2 + j, none⟩ = some v := by
    intro j v hj
    simp at hj
  have HC := Lib.hid hcc
  have HP := Lib.hid hp
  clear hp hcc
  go_enter Tryz.func194, Tryz.ntmps194
  go_wp2
  have hg : (w.alloc (.cells #[.int .u8 0, .int .u8 0, .int .u8 0, .int .u8 0] 85)).heap[w.heap.size]? = some (.cells ([Value.int .u8 0, .int .u8 0, .int .u8 0, .int .u8 0] : List Value).toArray 85 (0, 0)) := heap_alloc_new w _
  have HG := Lib.hid hg
  clear hg
  go_region_law (refine step_copy_splice rfl (.tmp 5) (.tmp 14) 22 22 rfl 5 Tryz.underlying22 (by kernel_rfl) (some ⟨w.heap.size, 0, none⟩) (some ⟨p, 2, none⟩) _ _ _ _ rfl rfl w.heap.size 0 [Value.int .u8 0, .int .u8 0, .int .u8 0, .int .u8 0] 85 HG.out ([] : List Value) rfl (fun _ => ⟨rfl, _, rfl, copy_src (Below.heap_alloc w _ p (by omega)) HC.out⟩) (by simp) (by simp [Value.oneCell']) w.heap.size w ((Below.refl _ _).alloc (Nat.le_refl _) _).drew (Nat.le_refl _) ?_; intro w4 hg4 hb4)
  have hg5 : w4.heap[w.heap.size]? = some (.cells #[.int .u8 0, .int .u8 0, .int .u8 0, .int .u8 0] 85 (0, 0)) := hg4.out
  have hp4 := (hb4.block p hlt).trans HP.out
  obtain ⟨g0, g1, g2, g3⟩ := arr_cells hg5
  obtain ⟨d0, d1, d2, d3, d4, d5, df⟩ := RdrT.cells hp4
  have HP4 := Lib.hid hp4
  clear hg4 hg5 hp4 c0 c1 c2 c3 c4 c5
  go_wp2
  go_end0
  exact ⟨rfl, rdr_set6 HP4.out _ _ _ _ _ _, cgrown_set (cgrown_set (cgrown_set (cgrown_set (cgrown_set (cgrown_set (cgrown_below hb4) _ _) _ _) _ _) _ _) _ _) _ _⟩

set_option maxHeartbeats 800000 in
theorem drop_30 (p : Nat) (x0 x1 x2 x3 at_ : Int) (w : World) (hp : w.heap[p]? = some (RdrT ty x0 x1 x2 x3 3 at_)) (h0 : 0 ≤ at_) (h1 : at_ ≤ 4503599627370496) :
    Calls Tryz.prog 194 #[.pointer (some ⟨p, 0, none⟩), .int .i64 0] w fun e w' => e = .returned (.tuple #[]) ∧ w'.heap[p]? = some (RdrT ty x0 x1 x2 0 3 at_) ∧ w.grownBy w' (some p) := by
  have hlt := heap_lt hp
  have hne : ¬ p = w.heap.size := by omega
  obtain ⟨c0, c1, c2, c3, c4, c5, _⟩ := RdrT.cells hp
  have hcc : ∀ j v, ([Value.int .u8 x0, Value.int .u8 x1, Value.int .u8 x2] : List Value)[j]? = some v → w.cell? ⟨p, 0 + j, none⟩ = some v := by
    intro j v hj
    match j with
    | 0 => (obtain rfl : Value.int .u8 x0 = v := by simpa using hj); exact c0
    | 1 => (obtain rfl : Value.int .u8 x1 = v := by simpa using hj); exact c1
    | 2 => (obtain rfl : Value.int .u8 x2 = v := by simpa using hj); exact c2
    | k + 3 => simp at hj
  have HC := Lib.hid hcc
  have HP := Lib.hid hp
  clear hp hcc
  go_enter Tryz.func194, Tryz.ntmps194
  go_wp2
  have hg : (w.alloc (.cells #[.int .u8 0, .int .u8 0, .int .u8 0, .int .u8 0] 85)).heap[w.heap.size]? = some (.cells ([Value.int .u8 0, .int .u8 0, .int .u8 0, .int .u8 0] : List Value).toArray 85 (0, 0)) := heap_alloc_new w _
  have HG := Lib.hid hg
  clear hg
  go_region_law (refine step_copy_splice rfl (.tmp 5) (.tmp 14) 22 22 rfl 5 Tryz.underlying22 (by kernel_rfl) (some ⟨w.heap.size, 0, none⟩) (some ⟨p, 0, none⟩) _ _ _ _ rfl rfl w.heap.size 0 [Value.int .u8 0, .int .u8 0, .int .u8 0, .int .u8 0] 85 HG.out [Value.int .u8 x0, Value.int .u8 x1, Value.int .u8 x2] rfl (fun _ => ⟨rfl, _, rfl, copy_src (Below.heap_alloc w _ p (by omega)) HC.out⟩) (by simp) (by simp [Value.oneCell']) w.heap.size w ((Below.refl _ _).alloc (Nat.le_refl _) _).drew (Nat.le_refl _) ?_; intro w4 hg4 hb4)
  have hg5 : w4.heap[w.heap.size]? = some (.cells #[.int .u8 x0, .int .u8 x1, .int .u8 x2, .int .u8 0] 85 (0, 0)) := hg4.out
  have hp4 := (hb4.block p hlt).trans HP.out
  obtain ⟨g0, g1, g2, g3⟩ := arr_cells hg5
  obtain ⟨d0, d1, d2, d3, d4, d5, df⟩ := RdrT.cells hp4
  have HP4 := Lib.hid hp4
  clear hg4 hg5 hp4 c0 c1 c2 c3 c4 c5
  go_wp2
  go_end0
  exact ⟨rfl, rdr_set6 HP4.out _ _ _ _ _ _, cgrown_set (cgrown_set (cgrown_set (cgrown_set (cgrown_set (cgrown_set (cgrown_below hb4) _ _) _ _) _ _) _ _) _ _) _ _⟩

set_option maxHeartbeats 800000 in
theorem drop_31 (p : Nat) (x0 x1 x2 x3 at_ : Int) (w : World) (hp : w.heap[p]? = some (RdrT ty x0 x1 x2 x3 3 at_)) (h0 : 0 ≤ at_) (h1 : at_ ≤ 4503599627370496) :
    Calls Tryz.prog 194 #[.pointer (some ⟨p, 0, none⟩), .int .i64 1] w fun e w' => e = .returned (.tuple #[]) ∧ w'.heap[p]? = some (RdrT ty x1 x2 0 0 2 (at_ + 1)) ∧ w.grownBy w' (some p) := by
  have hlt := heap_lt hp
  have hne : ¬ p = w.heap.size := by omega
  obtain ⟨c0, c1, c2, c3, c4, c5, _⟩ := RdrT.cells hp
  have hcc : ∀ j v, ([Value.int .u8 x1, Value.int .u8 x2] : List Value)[j]? = some v → w.cell? ⟨p, 1 + j, none⟩ = some v := by
    intro j v hj
    match j with
    | 0 => (obtain rfl : Value.int .u8 x1 = v := by simpa using hj); exact c1
    | 1 => (obtain rfl : Value.int .u8 x2 = v := by simpa using hj); exact c2
    | k + 2 => simp at hj
  have HC := Lib.hid hcc
  have HP := Lib.hid hp
  clear hp hcc
  go_enter Tryz.func194, Tryz.ntmps194
  go_wp2
  have hg : (w.alloc (.cells #[.int .u8 0, .int .u8 0, .int .u8 0, .int .u8 0] 85)).heap[w.heap.size]? = some (.cells ([Value.int .u8 0, .int .u8 0, .int .u8 0, .int .u8 0] : List Value).toArray 85 (0, 0)) := heap_alloc_new w _
  have HG := Lib.hid hg
  clear hg
  go_region_law (refine step_copy_splice rfl (.tmp 5) (.tmp 14) 22 22 rfl 5 Tryz.underlying22 (by kernel_rfl) (some ⟨w.heap.size, 0, none⟩) (some ⟨p, 1, none⟩) _ _ _ _ rfl rfl w.heap.size 0 [Value.int .u8 0, .int .u8 0, .int .u8 0, .int .u8 0] 85 HG.out [Value.int .u8 x1, Value.int .u8 x2] rfl (fun _ => ⟨rfl, _, rfl, copy_src (Below.heap_alloc w _ p (by omega)) HC.out⟩) (by simp) (by simp [Value.oneCell']) w.heap.size w ((Below.refl _ _).alloc (Nat.le_refl _) _).drew (Nat.le_refl _) ?_; intro w4 hg4 hb4)
  have hg5 : w4.heap[w.heap.size]? = some (.cells #[.int .u8 x1, .int .u8 x2, .int .u8 0, .int .u8 0] 85 (0, 0)) := hg4.out
  have hp4 := (hb4.block p hlt).trans HP.out
  obtain ⟨g0, g1, g2, g3⟩ := arr_cells hg5
  obtain ⟨d0, d1, d2, d3, d4, d5, df⟩ := RdrT.cells hp4
  have HP4 := Lib.hid hp4
  clear hg4 hg5 hp4 c0 c1 c2 c3 c4 c5
  go_wp2
  go_end0
  exact ⟨rfl, rdr_set6 HP4.out _ _ _ _ _ _, cgrown_set (cgrown_set (cgrown_set (cgrown_set (cgrown_set (cgrown_set (cgrown_below hb4) _ _) _ _) _ _) _ _) _ _) _ _⟩

set_option maxHeartbeats 800000 in
theorem drop_32 (p : Nat) (x0 x1 x2 x3 at_ : Int) (w : World) (hp : w.heap[p]? = some (RdrT ty x0 x1 x2 x3 3 at_)) (h0 : 0 ≤ at_) (h1 : at_ ≤ 4503599627370496) :
    Calls Tryz.prog 194 #[.pointer (some ⟨p, 0, none⟩), .int .i64 2] w fun e w' => e = .returned (.tuple #[]) ∧ w'.heap[p]? = some (RdrT ty x2 0 0 0 1 (at_ + 2)) ∧ w.grownBy w' (some p) := by
  have hlt := heap_lt hp
  have hne : ¬ p = w.heap.size := by omega
  obtain ⟨c0, c1, c2, c3, c4, c5, _⟩ := RdrT.cells hp
  have hcc : ∀ j v, ([Value.int .u8 x2] : List Value)[j]? = some v → w.cell? ⟨p, 2 + j, none⟩ = some v := by
    intro j v hj
    match j with
    | 0 => (obtain rfl : Value.int .u8 x2 = v := by simpa using hj); exact c2
    | k + 1 => simp at hj
  have HC := Lib.hid hcc
  have HP := Lib.hid hp
  clear hp hcc
  go_enter Tryz.func194, Tryz.ntmps194
  go_wp2
  have hg : (w.alloc (.cells #[.int .u8 0, .int .u8 0, .int .u8 0, .int .u8 0] 85)).heap[w.heap.size]? = some (.cells ([Value.int .u8 0, .int .u8 0, .int .u8 0, .int .u8 0] : List Value).toArray 85 (0, 0)) := heap_alloc_new w _
  have HG := Lib.hid hg
  clear hg
  go_region_law (refine step_copy_splice rfl (.tmp 5) (.tmp 14) 22 22 rfl 5 Tryz.underlying22 (by kernel_rfl) (some ⟨w.heap.size, 0, none⟩) (some ⟨p, 2, none⟩) _ _ _ _ rfl rfl w.heap.size 0 [Value.int .u8 0, .int .u8 0, .int .u8 0, .int .u8 0] 85 HG.out [Value.int .u8 x2] rfl (fun _ => ⟨rfl, _, rfl, copy_src (Below.heap_alloc w _ p (by omega)) HC.out⟩) (by simp) (by simp [Value.oneCell']) w.heap.size w ((Below.refl _ _).alloc (Nat.le_refl _) _).drew (Nat.le_refl _) ?_; intro w4 hg4 hb4)
  have hg5 : w4.heap[w.heap.size]? = some (.cells #[.int .u8 x2, .int .u8 0, .int .u8 0, .int .u8 0] 85 (0, 0)) := hg4.out
  have hp4 := (hb4.block p hlt).trans HP.out
  obtain ⟨g0, g1, g2, g3⟩ := arr_cells hg5
  obtain ⟨d0, d1, d2, d3, d4, d5, df⟩ := RdrT.cells hp4
  have HP4 := Lib.hid hp4
  clear hg4 hg5 hp4 c0 c1 c2 c3 c4 c5
  go_wp2
  go_end0
  exact ⟨rfl, rdr_set6 HP4.out _ _ _ _ _ _, cgrown_set (cgrown_set (cgrown_set (cgrown_set (cgrown_set (cgrown_set (cgrown_below hb4) _ _) _ _) _ _) _ _) _ _) _ _⟩

set_option maxHeartbeats 800000 in
theorem drop_33 (p : Nat) (x0 x1 x2 x3 at_ : Int) (w : World) (hp : w.heap[p]? = some (RdrT ty x0 x1 x2 x3 3 at_)) (h0 : 0 ≤ at_) (h1 : at_ ≤ 4503599627370496) :
    Calls Tryz.prog 194 #[.pointer (some ⟨p, 0, none⟩), .int .i64 3] w fun e w' => e = .returned (.tuple #[]) ∧ w'.heap[p]? = some (RdrT ty 0 0 0 0 0 (at_ + 3)) ∧ w.grownBy w' (some p) := by
  have hlt := heap_lt hp
  have hne : ¬ p = w.heap.size := by omega
  obtain ⟨c0, c1, c2, c3, c4, c5, _⟩ := RdrT.cells hp
  have hcc : ∀ j v, (([] : List Value) : List Value)[j]? = some v → w.cell? ⟨p, 3 + j, none⟩ = some v := by
    intro j v hj
    simp at hj
  have HC := Lib.hid hcc
  have HP := Lib.hid hp
  clear hp hcc
  go_enter Tryz.func194, Tryz.ntmps194
  go_wp2
  have hg : (w.alloc (.cells #[.int .u8 0, .int .u8 0, .int .u8 0, .int .u8 0] 85)).heap[w.heap.size]? = some (.cells ([Value.int .u8 0, .int .u8 0, .int .u8 0, .int .u8 0] : List Value).toArray 85 (0, 0)) := heap_alloc_new w _
  have HG := Lib.hid hg
  clear hg
  go_region_law (refine step_copy_splice rfl (.tmp 5) (.tmp 14) 22 22 rfl 5 Tryz.underlying22 (by kernel_rfl) (some ⟨w.heap.size, 0, none⟩) (some ⟨p, 3, none⟩) _ _ _ _ rfl rfl w.heap.size 0 [Value.int .u8 0, .int .u8 0, .int .u8 0, .int .u8 0] 85 HG.out ([] : List Value) rfl (fun _ => ⟨rfl, _, rfl, copy_src (Below.heap_alloc w _ p (by omega)) HC.out⟩) (by simp) (by simp [Value.oneCell']) w.heap.size w ((Below.refl _ _).alloc (Nat.le_refl _) _).drew (Nat.le_refl _) ?_; intro w4 hg4 hb4)
  have hg5 : w4.heap[w.heap.size]? = some (.cells #[.int .u8 0, .int .u8 0, .int .u8 0, .int .u8 0] 85 (0, 0)) := hg4.out
  have hp4 := (hb4.block p hlt).trans HP.out
  obtain ⟨g0, g1, g2, g3⟩ := arr_cells hg5
  obtain ⟨d0, d1, d2, d3, d4, d5, df⟩ := RdrT.cells hp4
  have HP4 := Lib.hid hp4
  clear hg4 hg5 hp4 c0 c1 c2 c3 c4 c5
  go_wp2
  go_end0
  exact ⟨rfl, rdr_set6 HP4.out _ _ _ _ _ _, cgrown_set (cgrown_set (cgrown_set (cgrown_set (cgrown_set (cgrown_set (cgrown_below hb4) _ _) _ _) _ _) _ _) _ _) _ _⟩

set_option maxHeartbeats 800000 in
theorem drop_40 (p : Nat) (x0 x1 x2 x3 at_ : Int) (w : World) (hp : w.heap[p]? = some (RdrT ty x0 x1 x2 x3 4 at_)) (h0 : 0 ≤ at_) (h1 : at_ ≤ 4503599627370496) :
    Calls Tryz.prog 194 #[.pointer (some ⟨p, 0, none⟩), .int .i64 0] w fun e w' => e = .returned (.tuple #[]) ∧ w'.heap[p]? = some (RdrT ty x0 x1 x2 x3 4 at_) ∧ w.grownBy w' (some p) := by
  have hlt := heap_lt hp
  have hne : ¬ p = w.heap.size := by omega
  obtain ⟨c0, c1, c2, c3, c4, c5, _⟩ := RdrT.cells hp
  have hcc : ∀ j v, ([Value.int .u8 x0, Value.int .u8 x1, Value.int .u8 x2, Value.int .u8 x3] : List Value)[j]? = some v → w.cell? ⟨p, 0 + j, none⟩ = some v := by
    intro j v hj
    match j with
    | 0 => (obtain rfl : Value.int .u8 x0 = v := by simpa using hj); exact c0
    | 1 => (obtain rfl : Value.int .u8 x1 = v := by simpa using hj); exact c1
    | 2 => (obtain rfl : Value.int .u8 x2 = v := by simpa using hj); exact c2
    | 3 => (obtain rfl : Value.int .u8 x3 = v := by simpa using hj); exact c3
    | k + 4 => simp at hj
  have HC := Lib.hid hcc
  have HP := Lib.hid hp
  clear hp hcc
  go_enter Tryz.func194, Tryz.ntmps194
  go_wp2
  have hg : (w.alloc (.cells #[.int .u8 0, .int .u8 0, .int .u8 0, .int .u8 0] 85)).heap[w.heap.size]? = some (.cells ([Value.int .u8 0, .int .u8 0, .int .u8 0, .int .u8 0] : List Value).toArray 85 (0, 0)) := heap_alloc_new w _
  have HG := Lib.hid hg
  clear hg
  go_region_law (refine step_copy_splice rfl (.tmp 5) (.tmp 14) 22 22 rfl 5 Tryz.underlying22 (by kernel_rfl) (some ⟨w.heap.size, 0, none⟩) (some ⟨p, 0, none⟩) _ _ _ _ rfl rfl w.heap.size 0 [Value.int .u8 0, .int .u8 0, .int .u8 0, .int .u8 0] 85 HG.out [Value.int .u8 x0, Value.int .u8 x1, Value.int .u8 x2, Value.int .u8 x3] rfl (fun _ => ⟨rfl, _, rfl, copy_src (Below.heap_alloc w _ p (by omega)) HC.out⟩) (by simp) (by simp [Value.oneCell']) w.heap.size w ((Below.refl _ _).alloc (Nat.le_refl _) _).drew (Nat.le_refl _) ?_; intro w4 hg4 hb4)
  have hg5 : w4.heap[w.heap.size]? = some (.cells #[.int .u8 x0, .int .u8 x1, .int .u8 x2, .int .u8 x3] 85 (0, 0)) := hg4.out
  have hp4 := (hb4.block p hlt).trans HP.out
  obtain ⟨g0, g1, g2, g3⟩ := arr_cells hg5
  obtain ⟨d0, d1, d2, d3, d4, d5, df⟩ := RdrT.cells hp4
  have HP4 := Lib.hid hp4
  clear hg4 hg5 hp4 c0 c1 c2 c3 c4 c5
  go_wp2
  go_end0
  exact ⟨rfl, rdr_set6 HP4.out _ _ _ _ _ _, cgrown_set (cgrown_set (cgrown_set (cgrown_set (cgrown_set (cgrown_set (cgrown_below hb4) _ _) _ _) _ _) _ _) _ _) _ _⟩

set_option maxHeartbeats 800000 in
theorem drop_41 (p : Nat) (x0 x1 x2 x3 at_ : Int) (w : World) (hp : w.heap[p]? = some (RdrT ty x0 x1 x2 x3 4 at_)) (h0 : 0 ≤ at_) (h1 : at_ ≤ 4503599627370496) :
    Calls Tryz.prog 194 #[.pointer (some ⟨p, 0, none⟩), .int .i64 1] w fun e w' => e = .returned (.tuple #[]) ∧ w'.heap[p]? = some (RdrT ty x1 x2 x3 0 3 (at_ + 1)) ∧ w.grownBy w' (some p) := by
  have hlt := heap_lt hp
  have hne : ¬ p = w.heap.size := by omega
  obtain ⟨c0, c1, c2, c3, c4, c5, _⟩ := RdrT.cells hp
  have hcc : ∀ j v, ([Value.int .u8 x1, Value.int .u8 x2, Value.int .u8 x3] : List Value)[j]? = some v → w.cell? ⟨p, 1 + j, none⟩ = some v := by
    intro j v hj
    match j with
    | 0 => (obtain rfl : Value.int .u8 x1 = v := by simpa using hj); exact c1
    | 1 => (obtain rfl : Value.int .u8 x2 = v := by simpa using hj); exact c2
    | 2 => (obtain rfl : Value.int .u8 x3 = v := by simpa using hj); exact c3
    | k + 3 => simp at hj
  have HC := Lib.hid hcc
  have HP := Lib.hid hp
  clear hp hcc
  go_enter Tryz.func194, Tryz.ntmps194
  go_wp2
  have hg : (w.alloc (.cells #[.int .u8 0, .int .u8 0, .int .u8 0, .int .u8 0] 85)).heap[w.heap.size]? = some (.cells ([Value.int .u8 0, .int .u8 0, .int .u8 0, .int .u8 0] : List Value).toArray 85 (0, 0)) := heap_alloc_new w _
  have HG := Lib.hid hg
  clear hg
  go_region_law (refine step_copy_splice rfl (.tmp 5) (.tmp 14) 22 22 rfl 5 Tryz.underlying22 (by kernel_rfl) (some ⟨w.heap.size, 0, none⟩) (some ⟨p, 1, none⟩) _ _ _ _ rfl rfl w.heap.size 0 [Value.int .u8 0, .int .u8 0, .int .u8 0, .int .u8 0] 85 HG.out [Value.int .u8 x1, Value.int .u8 x2, Value.int .u8 x3] rfl (fun _ => ⟨rfl, _, rfl, copy_src (Below.heap_alloc w _ p (by omega)) HC.out⟩) (by simp) (by simp [Value.oneCell']) w.heap.size w ((Below.refl _ _).alloc (Nat.le_refl _) _).drew (Nat.le_refl _) ?_; intro w4 hg4 hb4)
  have hg5 : w4.heap[w.heap.size]? = some (.cells #[.int .u8 x1, .int .u8 x2, .int .u8 x3, .int .u8 0] 85 (0, 0)) := hg4.out
  have hp4 := (hb4.block p hlt).trans HP.out
  obtain ⟨g0, g1, g2, g3⟩ := arr_cells hg5
  obtain ⟨d0, d1, d2, d3, d4, d5, df⟩ := RdrT.cells hp4
  have HP4 := Lib.hid hp4
  clear hg4 hg5 hp4 c0 c1 c2 c3 c4 c5
  go_wp2
  go_end0
  exact ⟨rfl, rdr_set6 HP4.out _ _ _ _ _ _, cgrown_set (cgrown_set (cgrown_set (cgrown_set (cgrown_set (cgrown_set (cgrown_below hb4) _ _) _ _) _ _) _ _) _ _) _ _⟩

set_option maxHeartbeats 800000 in
theorem drop_42 (p : Nat) (x0 x1 x2 x3 at_ : Int) (w : World) (hp : w.heap[p]? = some (RdrT ty x0 x1 x2 x3 4 at_)) (h0 : 0 ≤ at_) (h1 : at_ ≤ 4503599627370496) :
    Calls Tryz.prog 194 #[.pointer (some ⟨p, 0, none⟩), .int .i64 2] w fun e w' => e = .returned (.tuple #[]) ∧ w'.heap[p]? = some (RdrT ty x2 x3 0 0 2 (at_ + 2)) ∧ w.grownBy w' (some p) := by
  have hlt := heap_lt hp
  have hne : ¬ p = w.heap.size := by omega
  obtain ⟨c0, c1, c2, c3, c4, c5, _⟩ := RdrT.cells hp
  have hcc : ∀ j v, ([Value.int .u8 x2, Value.int .u8 x3] : List Value)[j]? = some v → w.cell? ⟨p, 2 + j, none⟩ = some v := by
    intro j v hj
    match j with
    | 0 => (obtain rfl : Value.int .u8 x2 = v := by simpa using hj); exact c2
    | 1 => (obtain rfl : Value.int .u8 x3 = v := by simpa using hj); exact c3
    | k + 2 => simp at hj
  have HC := Lib.hid hcc
  have HP := Lib.hid hp
  clear hp hcc
  go_enter Tryz.func194, Tryz.ntmps194
  go_wp2
  have hg : (w.alloc (.cells #[.int .u8 0, .int .u8 0, .int .u8 0, .int .u8 0] 85)).heap[w.heap.size]? = some (.cells ([Value.int .u8 0, .int .u8 0, .int .u8 0, .int .u8 0] : List Value).toArray 85 (0, 0)) := heap_alloc_new w _
  have HG := Lib.hid hg
  clear hg
  go_region_law (refine step_copy_splice rfl (.tmp 5) (.tmp 14) 22 22 rfl 5 Tryz.underlying22 (by kernel_rfl) (some ⟨w.heap.size, 0, none⟩) (some ⟨p, 2, none⟩) _ _ _ _ rfl rfl w.heap.size 0 [Value.int .u8 0, .int .u8 0, .int .u8 0, .int .u8 0] 85 HG.out [Value.int .u8 x2, Value.int .u8 x3] rfl (fun _ => ⟨rfl, _, rfl, copy_src (Below.heap_alloc w _ p (by omega)) HC.out⟩) (by simp) (by simp [Value.oneCell']) w.heap.size w ((Below.refl _ _).alloc (Nat.le_refl _) _).drew (Nat.le_refl _) ?_; intro w4 hg4 hb4)
  have hg5 : w4.heap[w.heap.size]? = some (.cells #[.int .u8 x2, .int .u8 x3, .int .u8 0, .int .u8 0] 85 (0, 0)) := hg4.out
  have hp4 := (hb4.block p hlt).trans HP.out
  obtain ⟨g0, g1, g2, g3⟩ := arr_cells hg5
  obtain ⟨d0, d1, d2, d3, d4, d5, df⟩ := RdrT.cells hp4
  have HP4 := Lib.hid hp4
  clear hg4 hg5 hp4 c0 c1 c2 c3 c4 c5
  go_wp2
  go_end0
  exact ⟨rfl, rdr_set6 HP4.out _ _ _ _ _ _, cgrown_set (cgrown_set (cgrown_set (cgrown_set (cgrown_set (cgrown_set (cgrown_below hb4) _ _) _ _) _ _) _ _) _ _) _ _⟩

set_option maxHeartbeats 800000 in
theorem drop_43 (p : Nat) (x0 x1 x2 x3 at_ : Int) (w : World) (hp : w.heap[p]? = some (RdrT ty x0 x1 x2 x3 4 at_)) (h0 : 0 ≤ at_) (h1 : at_ ≤ 4503599627370496) :
    Calls Tryz.prog 194 #[.pointer (some ⟨p, 0, none⟩), .int .i64 3] w fun e w' => e = .returned (.tuple #[]) ∧ w'.heap[p]? = some (RdrT ty x3 0 0 0 1 (at_ + 3)) ∧ w.grownBy w' (some p) := by
  have hlt := heap_lt hp
  have hne : ¬ p = w.heap.size := by omega
  obtain ⟨c0, c1, c2, c3, c4, c5, _⟩ := RdrT.cells hp
  have hcc : ∀ j v, ([Value.int .u8 x3] : List Value)[j]? = some v → w.cell? ⟨p, 3 + j, none⟩ = some v := by
    intro j v hj
    match j with
    | 0 => (obtain rfl : Value.int .u8 x3 = v := by simpa using hj); exact c3
    | k + 1 => simp at hj
  have HC := Lib.hid hcc
  have HP := Lib.hid hp
  clear hp hcc
  go_enter Tryz.func194, Tryz.ntmps194
  go_wp2
  have hg : (w.alloc (.cells #[.int .u8 0, .int .u8 0, .int .u8 0, .int .u8 0] 85)).heap[w.heap.size]? = some (.cells ([Value.int .u8 0, .int .u8 0, .int .u8 0, .int .u8 0] : List Value).toArray 85 (0, 0)) := heap_alloc_new w _
  have HG := Lib.hid hg
  clear hg
  go_region_law (refine step_copy_splice rfl (.tmp 5) (.tmp 14) 22 22 rfl 5 Tryz.underlying22 (by kernel_rfl) (some ⟨w.heap.size, 0, none⟩) (some ⟨p, 3, none⟩) _ _ _ _ rfl rfl w.heap.size 0 [Value.int .u8 0, .int .u8 0, .int .u8 0, .int .u8 0] 85 HG.out [Value.int .u8 x3] rfl (fun _ => ⟨rfl, _, rfl, copy_src (Below.heap_alloc w _ p (by omega)) HC.out⟩) (by simp) (by simp [Value.oneCell']) w.heap.size w ((Below.refl _ _).alloc (Nat.le_refl _) _).drew (Nat.le_refl _) ?_; intro w4 hg4 hb4)
  have hg5 : w4.heap[w.heap.size]? = some (.cells #[.int .u8 x3, .int .u8 0, .int .u8 0, .int .u8 0] 85 (0, 0)) := hg4.out
  have hp4 := (hb4.block p hlt).trans HP.out
  obtain ⟨g0, g1, g2, g3⟩ := arr_cells hg5
  obtain ⟨d0, d1, d2, d3, d4, d5, df⟩ := RdrT.cells hp4
  have HP4 := Lib.hid hp4
  clear hg4 hg5 hp4 c0 c1 c2 c3 c4 c5
  go_wp2
  go_end0
  exact ⟨rfl, rdr_set6 HP4.out _ _ _ _ _ _, cgrown_set (cgrown_set (cgrown_set (cgrown_set (cgrown_set (cgrown_set (cgrown_below hb4) _ _) _ _) _ _) _ _) _ _) _ _⟩

set_option maxHeartbeats 800000 in
theorem drop_44 (p : Nat) (x0 x1 x2 x3 at_ : Int) (w : World) (hp : w.heap[p]? = some (RdrT ty x0 x1 x2 x3 4 at_)) (h0 : 0 ≤ at_) (h1 : at_ ≤ 4503599627370496) :
    Calls Tryz.prog 194 #[.pointer (some ⟨p, 0, none⟩), .int .i64 4] w fun e w' => e = .returned (.tuple #[]) ∧ w'.heap[p]? = some (RdrT ty 0 0 0 0 0 (at_ + 4)) ∧ w.grownBy w' (some p) := by
  have hlt := heap_lt hp
  have hne : ¬ p = w.heap.size := by omega
  obtain ⟨c0, c1, c2, c3, c4, c5, _⟩ := RdrT.cells hp
  have hcc : ∀ j v, (([] : List Value) : List Value)[j]? = some v → w.cell? ⟨p, 0 + j, none⟩ = some v := by
    intro j v hj
    simp at hj
  have HC := Lib.hid hcc
  have HP := Lib.hid hp
  clear hp hcc
  go_enter Tryz.func194, Tryz.ntmps194
  go_wp2
  have hg : (w.alloc (.cells #[.int .u8 0, .int .u8 0, .int .u8 0, .int .u8 0] 85)).heap[w.heap.size]? = some (.cells ([Value.int .u8 0, .int .u8 0, .int .u8 0, .int .u8 0] : List Value).toArray 85 (0, 0)) := heap_alloc_new w _
  have HG := Lib.hid hg
  clear hg
  go_region_law (refine step_copy_splice rfl (.tmp 5) (.tmp 14) 22 22 rfl 5 Tryz.underlying22 (by kernel_rfl) (some ⟨w.heap.size, 0, none⟩) (some ⟨p, 0, none⟩) _ _ _ _ rfl rfl w.heap.size 0 [Value.int .u8 0, .int .u8 0, .int .u8 0, .int .u8 0] 85 HG.out ([] : List Value) rfl (fun _ => ⟨rfl, _, rfl, copy_src (Below.heap_alloc w _ p (by omega)) HC.out⟩) (by simp) (by simp [Value.oneCell']) w.heap.size w ((Below.refl _ _).alloc (Nat.le_refl _) _).drew (Nat.le_refl _) ?_; intro w4 hg4 hb4)
  have hg5 : w4.heap[w.heap.size]? = some (.cells #[.int .u8 0, .int .u8 0, .int .u8 0, .int .u8 0] 85 (0, 0)) := hg4.out
  have hp4 := (hb4.block p hlt).trans HP.out
  obtain ⟨g0, g1, g2, g3⟩ := arr_cells hg5
  obtain ⟨d0, d1, d2, d3, d4, d5, df⟩ := RdrT.cells hp4
  have HP4 := Lib.hid hp4
  clear hg4 hg5 hp4 c0 c1 c2 c3 c4 c5
  go_wp2
  go_end0
  exact ⟨rfl, rdr_set6 HP4.out _ _ _ _ _ _, cgrown_set (cgrown_set (cgrown_set (cgrown_set (cgrown_set (cgrown_set (cgrown_below hb4) _ _) _ _) _ _) _ _) _ _) _ _⟩

/-- a reader: its waiting bytes, and where they begin -/
def RdrAtT (ty : TypeId) (w : World) (p : Nat) (q : List Int) (at_ : Int) : Prop := ∃ x0 x1 x2 x3, w.heap[p]? = some (RdrT ty x0 x1 x2 x3 q.length at_) ∧ [x0, x1, x2, x3].take q.length = q

theorem RdrAtT.of {w : World} {p : Nat} {q : List Int} {x0 x1 x2 x3 h at_ at' : Int} (hp : w.heap[p]? = some (RdrT ty x0 x1 x2 x3 h at_)) (hh : h = q.length) (ha : at_ = at') (hq : [x0, x1, x2, x3].take q.length = q) : RdrAtT ty w p q at' := by
  subst hh ha; exact ⟨x0, x1, x2, x3, hp, hq⟩

theorem drop_any (p : Nat) (q : List Int) (at_ : Int) (n : Nat) (w : World) (hp : RdrAtT ty w p q at_) (hq : 1 ≤ q.length) (hq4 : q.length ≤ 4) (hn : n ≤ q.length) (h0 : 0 ≤ at_) (h1 : at_ ≤ 4503599627370496) :
    Calls Tryz.prog 194 #[.pointer (some ⟨p, 0, none⟩), .int .i64 n] w fun e w' => e = .returned (.tuple #[]) ∧ RdrAtT ty w' p (q.drop n) (at_ + n) ∧ w.grownBy w' (some p) := by
  obtain ⟨x0, x1, x2, x3, hb, hx⟩ := hp
  obtain ⟨h, hh⟩ : ∃ h, q.length = h := ⟨_, rfl⟩
  rw [hh] at hb hx hq hq4 hn
  rw [← hx]
  clear hx hh q
  by_cases e1 : h = 1
  · subst e1
    by_cases k0 : n = 0
    · subst k0; exact (drop_10 p x0 x1 x2 x3 at_ w hb h0 h1).mono fun e w' ⟨a, b, c⟩ => ⟨a, RdrAtT.of b rfl (by simp) rfl, c⟩
    by_cases k1 : n = 1
    · subst k1; exact (drop_11 p x0 x1 x2 x3 at_ w hb h0 h1).mono fun e w' ⟨a, b, c⟩ => ⟨a, RdrAtT.of b rfl (by simp) rfl, c⟩
    omega
  by_cases e2 : h = 2
  · subst e2
    by_cases k0 : n = 0
    · subst k0; exact (drop_20 p x0 x1 x2 x3 at_ w hb h0 h1).mono fun e w' ⟨a, b, c⟩ => ⟨a, RdrAtT.of b rfl (by simp) rfl, c⟩
    by_cases k1 : n = 1
    · subst k1; exact (drop_21 p x0 x1 x2 x3 at_ w hb h0 h1).mono fun e w' ⟨a, b, c⟩ => ⟨a, RdrAtT.of b rfl (by simp) rfl, c⟩
    by_cases k2 : n = 2
    · subst k2; exact (drop_22 p x0 x1 x2 x3 at_ w hb h0 h1).mono fun e w' ⟨a, b, c⟩ => ⟨a, RdrAtT.of b rfl (by simp) rfl, c⟩
    omega
  by_cases e3 : h = 3
  · subst e3
    by_cases k0 : n = 0
    · subst k0; exact (drop_30 p x0 x1 x2 x3 at_ w hb h0 h1).mono fun e w' ⟨a, b, c⟩ => ⟨a, RdrAtT.of b rfl (by simp) rfl, c⟩
    by_cases k1 : n = 1
    · subst k1; exact (drop_31 p x0 x1 x2 x3 at_ w hb h0 h1).mono fun e w' ⟨a, b, c⟩ => ⟨a, RdrAtT.of b rfl (by simp) rfl, c⟩
    by_cases k2 : n = 2
    · subst k2; exact (drop_32 p x0 x1 x2 x3 at_ w hb h0 h1).mono fun e w' ⟨a, b, c⟩ => ⟨a, RdrAtT.of b rfl (by simp) rfl, c⟩
    by_cases k3 : n = 3
    · subst k3; exact (drop_33 p x0 x1 x2 x3 at_ w hb h0 h1).mono fun e w' ⟨a, b, c⟩ => ⟨a, RdrAtT.of b rfl (by simp) rfl, c⟩
    omega
  by_cases e4 : h = 4
  · subst e4
    by_cases k0 : n = 0
    · subst k0; exact (drop_40 p x0 x1 x2 x3 at_ w hb h0 h1).mono fun e w' ⟨a, b, c⟩ => ⟨a, RdrAtT.of b rfl (by simp) rfl, c⟩
    by_cases k1 : n = 1
    · subst k1; exact (drop_41 p x0 x1 x2 x3 at_ w hb h0 h1).mono fun e w' ⟨a, b, c⟩ => ⟨a, RdrAtT.of b rfl (by simp) rfl, c⟩
    by_cases k2 : n = 2
    · subst k2; exact (drop_42 p x0 x1 x2 x3 at_ w hb h0 h1).mono fun e w' ⟨a, b, c⟩ => ⟨a, RdrAtT.of b rfl (by simp) rfl, c⟩
    by_cases k3 : n = 3
    · subst k3; exact (drop_43 p x0 x1 x2 x3 at_ w hb h0 h1).mono fun e w' ⟨a, b, c⟩ => ⟨a, RdrAtT.of b rfl (by simp) rfl, c⟩
    by_cases k4 : n = 4
    · subst k4; exact (drop_44 p x0 x1 x2 x3 at_ w hb h0 h1).mono fun e w' ⟨a, b, c⟩ => ⟨a, RdrAtT.of b rfl (by simp) rfl, c⟩
    omega
  omega
end
end Go.Proofs.YtncpokioagpclaaGreatDoor
namespace Go.Proofs.YtncpokioagpclaaGreatDoor
set_option linter.unusedVariables false
open Go.RowKit
section
variable {ty : TypeId}

theorem cgrown_drew {w w' : World} {p : Option Nat} (h : w.grownBy w' p) : w.grownBy w'.drew p := ⟨h.os, h.tape, h.output, h.size, h.block⟩
theorem RdrAtT.below {w w' : World} {p : Nat} {q : List Int} {at_ : Int} (h : RdrAtT ty w p q at_) (hb : Below w.heap.size w w') : RdrAtT ty w' p q at_ := by
  obtain ⟨x0, x1, x2, x3, h1, h2⟩ := h
  exact ⟨x0, x1, x2, x3, (hb.block p (heap_lt h1)).trans h1, h2⟩
theorem RdrAtT.lt {w : World} {p : Nat} {q : List Int} {at_ : Int} (h : RdrAtT ty w p q at_) : p < w.heap.size := by
  obtain ⟨x0, x1, x2, x3, h1, h2⟩ := h
  exact heap_lt h1
theorem RdrAtT.put {w : World} {p : Nat} {q : List Int} {c at_ : Int} (h : RdrAtT ty w p q at_) (hq : q.length ≤ 3) :
    RdrAtT ty ((w.setCell ⟨p, q.length, none⟩ (.int .u8 c)).setCell ⟨p, 4, none⟩ (.int .i64 (q.length + 1))) p (q ++ [c]) at_ := by
  obtain ⟨x0, x1, x2, x3, h1, h2⟩ := h
  have hs := heap_setCell_same _ p 4 _ _ (.int .i64 (q.length + 1)) (heap_setCell_same w p q.length _ _ (.int .u8 c) h1)
  match q, hq with
  | [], _ => exact ⟨c, x1, x2, x3, hs, rfl⟩
  | [a], _ => exact ⟨x0, c, x2, x3, hs, by simp at h2 ⊢; exact h2⟩
  | [a, b], _ => exact ⟨x0, x1, c, x3, hs, by simp at h2 ⊢; exact h2⟩
  | [a, b, d], _ => exact ⟨x0, x1, x2, c, hs, by simp at h2 ⊢; exact h2⟩
theorem RdrAtT.rd {w : World} {p : Nat} {q : List Int} {at_ : Int} (h : RdrAtT ty w p q at_) : Rd w w.heap.size (some ⟨p, 0, none⟩) (q.map (Value.int .u8)) := by
  obtain ⟨x0, x1, x2, x3, h1, h2⟩ := h
  refine .inr ⟨p, 0, rfl, heap_lt h1, fun j hj => ?_⟩
  have hq : q.length ≤ 4 := by rw [← h2]; simp; omega
  rw [List.length_map] at hj
  rw [cell_of_row _ _ _ _ _ _ h1, ← h2, List.getElem?_map, List.getElem?_take, if_pos hj, Nat.zero_add]
  have : j = 0 ∨ j = 1 ∨ j = 2 ∨ j = 3 := by omega
  rcases this with rfl | rfl | rfl | rfl <;> rfl
theorem RdrAtT.cells {w : World} {p : Nat} {q : List Int} {at_ : Int} (h : RdrAtT ty w p q at_) : w.cell? ⟨p, 4, none⟩ = some (.int .i64 q.length) ∧ w.cell? ⟨p, 5, none⟩ = some (.int .i64 at_) ∧ (∀ o, w.frozen? ⟨p, o, none⟩ = false) ∧ q.length ≤ 4 ∧ ∀ j, j < 4 → ∃ x, w.cell? ⟨p, j, none⟩ = some (.int .u8 x) := by
  obtain ⟨x0, x1, x2, x3, h1, h2⟩ := h
  obtain ⟨c0, c1, c2, c3, c4, c5, cf⟩ := RdrT.cells h1
  refine ⟨c4, c5, cf, by rw [← h2]; simp; omega, fun j hj => ?_⟩
  have : j = 0 ∨ j = 1 ∨ j = 2 ∨ j = 3 := by omega
  rcases this with rfl | rfl | rfl | rfl
  · exact ⟨_, c0⟩
  · exact ⟨_, c1⟩
  · exact ⟨_, c2⟩
  · exact ⟨_, c3⟩

def RetPutT (ty : TypeId) (w : World) (p : Nat) (kn : List Tok) (n : Nat) (hd : List Int) (at' : Int) (e : Ending) (w' : World) : Prop :=
  ∃ v xs, e = .returned v ∧ w'.ownsRow w.heap.size 51 4 v n xs ∧ Toks w' w'.heap.size xs kn ∧ RdrAtT ty w' p hd at' ∧ w.grownBy w' (some p)

theorem toks_atT {w : World} {B : Nat} {A : Option Addr} {xs : List Value} {ts : List Tok} (hr : Rd w B A xs) (ht : Toks w B xs ts) {k : Nat} (hk : k < ts.length) :
    ∃ b off, A = some ⟨b, off, none⟩ ∧ b < B ∧ w.cell? ⟨b, off + k * 4, none⟩ = some (.int .i64 ts[k].pos) ∧ w.cell? ⟨b, off + k * 4 + 1, none⟩ = some (.int .i64 ts[k].size) ∧
      (∃ A' c', w.cell? ⟨b, off + k * 4 + 2, none⟩ = some (.slice A' ts[k].out.length c') ∧ ts[k].out.length ≤ c' ∧ c' ≤ maxLen ∧ RdT w B 3 A' (ts[k].out.map (Value.int .i64))) ∧ w.cell? ⟨b, off + k * 4 + 3, none⟩ = some (.int .i64 ts[k].err) := by
  have hlen := Toks.length ht
  rcases hr with h | ⟨b, off, h1, h2, h3⟩
  · rw [h] at hlen; simp only [List.length_nil] at hlen; omega
  · obtain ⟨g1, g2, ⟨A', c', g3, g4, g5, g6⟩, g7⟩ := Toks.cell ht k _ (List.getElem?_eq_getElem hk)
    refine ⟨b, off, h1, h2, (h3 (k * 4) (by omega)).trans g1, ?_, ⟨A', c', ?_, g4, g5, g6⟩, ?_⟩
    · rw [Nat.add_assoc]; exact (h3 (k * 4 + 1) (by omega)).trans g2
    · rw [Nat.add_assoc]; exact (h3 (k * 4 + 2) (by omega)).trans g3
    · rw [Nat.add_assoc]; exact (h3 (k * 4 + 3) (by omega)).trans g7
theorem Toks.grownP {w w' : World} {p : Nat} {q : List Int} {at_ : Int} {xs : List Value} {ts : List Tok} (h : Toks w w.heap.size xs ts) (hp : RdrAtT ty w p q at_) (hg : w.grownBy w' (some p)) (hty : ty ≠ 3 := by decide) : Toks w' w'.heap.size xs ts :=
  h.keep hg.size fun b c fr hl hc => hg.block b hl fun e => by
    injection e with e
    subst e
    obtain ⟨x0, x1, x2, x3, h1, _⟩ := hp
    rw [h1] at hc
    injection hc with hc
    injection hc with _ hc
    exact absurd hc hty
theorem put_fin {w w5 wr Wb w6 : World} {p n P : Nat} {v : Value} {xs : List Value} {done kn : List Tok} {zs hd : List Int} {at_ at' : Int} (hlt : p < w5.heap.size) (h5 : w.grownBy w5 (some p)) (hbr : Below w5.heap.size w5 wr) (hb : Below wr.heap.size wr Wb)
    (hg : Wb.grownBy w6 (some p)) (hown : wr.ownsRow w5.heap.size 51 4 v done.length xs) (ht : Toks wr wr.heap.size xs done) (hr0 : RdrAtT ty Wb p zs at_) (hr : RdrAtT ty w6 p (zs.drop P) (at_ + P)) (hdone : done = kn) (hn : kn.length = n)
    (hhd : zs.drop P = hd) (hat : at_ + P = at') (hty : ty ≠ 3 := by decide) : RetPutT ty w p kn n hd at' (.returned v) w6 := by
  subst hdone hn hhd hat
  have ho := own_below hown hb (Nat.le_refl _)
  refine ⟨v, xs, rfl, own_low (ho.kept hg ?_) h5.size, (ht.below hb hb.size).grownP hr0 hg hty, hr, grown_seq (grown_seq (grown_seq h5 (cgrown_below hbr)) (cgrown_below hb)) hg⟩
  cases hv : v.ownBlock with
  | none => exact .inl rfl
  | some k =>
    refine .inr fun e => ?_
    have := (ho.lt k hv).1
    injection e with e
    omega

set_option maxHeartbeats 1600000 in
theorem put_rdr (p : Nat) (q : List Int) (at_ c : Int) (w : World) (hp : RdrAtT ty w p q at_) (hq : q.length ≤ 3) (h0 : 0 ≤ at_) (h1 : at_ ≤ 2251799813685248) (hc : 0 ≤ c ∧ c ≤ 255) (hb : ∀ z ∈ q, 0 ≤ z ∧ z ≤ 255)
    (kn : List Tok) (n : Nat) (hd : List Int) (hk : KN at_ (q ++ [c]) = kn) (hn : kn.length = n) (hh : HD (q ++ [c]) = hd) (hty : ty ≠ 3 := by decide) :
    Calls Tryz.prog 195 #[.pointer (some ⟨p, 0, none⟩), .int .u8 c] w (RetPutT ty w p kn n hd (at_ + q.length + 1 - hd.length)) := by
  obtain ⟨i0, hi, hz0, hz1, hz2⟩ := info_parts info44
  obtain ⟨c4, c5, cf, _, cx⟩ := hp.cells
  obtain ⟨x, cx⟩ := cx q.length (by omega)
  have hlt := hp.lt
  have HP := Lib.hid hp
  have HB := Lib.hid hb
  have HK := Lib.hid hk
  have HN := Lib.hid hn
  have HH := Lib.hid hh
  have HTY := Lib.hid hty
  have e1 : ¬ q.length = 4 := by omega
  have e2 : ¬ 4 = q.length := by omega
  have e3 : (0 : Int) ≤ q.length := by omega
  have e4 : (q.length : Int) < 4 := by omega
  clear hp hb hk hn hh hty
  go_enter Tryz.func195, Tryz.ntmps195
  go_wp2
  go_region
  go_wp2
  obtain ⟨W2, hW2⟩ : ∃ W2, W2 = ((w.setCell ⟨p, q.length, none⟩ (.int .u8 c)).setCell ⟨p, 4, none⟩ (.int .i64 (q.length + 1))).drew := ⟨_, rfl⟩
  rw [← hW2]
  have hp2 : RdrAtT ty W2 p (q ++ [c]) at_ := by rw [hW2]; exact HP.out.put hq
  have hg2 : w.grownBy W2 (some p) := by rw [hW2]; exact cgrown_drew (cgrown_set (cgrown_set (World.grownBy.refl w _) _ _) _ _)
  obtain ⟨d4, d5, df, _, _⟩ := hp2.cells
  have hl2 : ((q ++ [c]).length : Int) = q.length + 1 := by simp
  rw [hl2] at d4
  obtain ⟨zs, hzs⟩ : ∃ zs, zs = q ++ [c] := ⟨_, rfl⟩
  have hzl : zs.length = q.length + 1 := by rw [hzs]; simp
  have hzb : ∀ z ∈ zs, 0 ≤ z ∧ z ≤ 255 := by
    rw [hzs]; intro z hz
    rcases List.mem_append.1 hz with h | h
    · exact HB.out z h
    · obtain rfl : z = c := by simpa using h
      exact hc
  rw [← hzs] at hp2 HK HH
  obtain ⟨ts, hts⟩ : ∃ ts, allF zs.length 0 zs = ts := ⟨_, rfl⟩
  obtain ⟨m, hm⟩ : ∃ m, ts.length = m := ⟨_, rfl⟩
  have hml : m ≤ zs.length := by have := allF_len zs.length 0 zs; rw [hts, hm] at this; exact this
  have HZL := Lib.hid hzl
  have HZB := Lib.hid hzb
  have HTS := Lib.hid hts
  have HM := Lib.hid hm
  have HP2 := Lib.hid hp2
  have HD5 := Lib.hid d5
  have hlt2 : p < W2.heap.size := hp2.lt
  clear hW2 hzs hzl hzb hts hm hp2 d5 hl2 c4 c5 cf cx HP HB
  have hsl : ∀ W : World, (Instr.sliceAt 85 (.pointer (some ⟨p, 0, none⟩)) none (some (.int .i64 (q.length + 1))) none).run Tryz.prog W = .ok (.slice (some ⟨p, 0, none⟩) (q.length + 1) 4) W := by
    intro W
    have h1 : (0 : Int) ≤ q.length + 1 := by omega
    have h2 : (q.length : Int) + 1 ≤ 4 := by omega
    go_simp
  refine wp_region_mix (G := fun w w' => Below w.heap.size w w') [(0, false), (1, false), (2, false), (3, false), (4, false), (5, false), (6, false), (7, false), (10, false), (8, true), (9, false)]
    below_refl below_trans (by kernel_rfl) rfl (by kernel_rfl) (by kernel_rfl) (below_refl _).drew ?_
  iterate 6 (refine mix_one rfl rfl ?_; go_big_quiet_step ((intro _; rfl)); refine wpQuiet_nil ?_)
  refine mix_one rfl rfl ?_
  go_big_quiet_step ((intro hh; rw [(hh.cell (p := ⟨p, 4, none⟩) hlt2).trans d4]; exact ⟨rfl, rfl⟩))
  refine wpQuiet_nil ?_
  iterate 2 (refine mix_one rfl rfl ?_; go_big_quiet_step ((intro _; rfl)); refine wpQuiet_nil ?_)
  refine mix_call rfl ?_
  intro w3 hb3
  go_wp2_with fail
  refine (all_own (q.length + 1) _ 4 zs _ HZL.out.symm (HP2.out.rd.below hb3 hb3.size) (by have := HZL.out; omega) (by have := HZL.out; omega) HZB.out ts m HTS.out HM.out).mono ?_
  rintro e w4 ⟨A4, c4, xs4, rfl, hr4, ht4, hc4, hm4, hb4⟩
  have HR4 := Lib.hid hr4
  have HT4 := Lib.hid ht4
  clear hr4 ht4
  unfold maxLen at hm4
  go_wp2_with fail
  refine ⟨hb4, ?_⟩
  iterate 1 (refine mix_one rfl rfl ?_; go_big_quiet_step ((intro _; rfl)); refine wpQuiet_nil ?_)
  refine mix_nil ?_
  intro w5 hb5
  refine NoPanic.normal ?_
  have hbA := below_trans _ _ _ (below_trans _ _ _ hb3 hb4) hb5
  have HP5 := Lib.hid (HP2.out.below hbA)
  have HR5 := Lib.hid (HR4.out.below hb5 hb5.size)
  have HT5 := Lib.hid (HT4.out.below hb5 hb5.size)
  have g5 := (hbA.cell (p := ⟨p, 5, none⟩) hlt2).trans HD5.out
  have hg5 := grown_seq hg2 (cgrown_below (p := some p) hbA)
  have hlt5 := HP5.out.lt
  have HG5 := Lib.hid hg5
  clear hb3 hb4 hb5 hbA HR4 HT4 HP2 HD5 hg2 hg5 d4 df hsl hlt2
  go_wp2_with fail
  go_loopw [5, 6, 35] (fun v u i wr => ∃ (K P f : Nat) (done : List Tok) (xs : List Value), K ≤ m ∧ P ≤ zs.length ∧ zs.length - P ≤ f ∧ ts.drop K = allF f P (zs.drop P) ∧ i = .int .i64 K ∧ u = .int .i64 P ∧ wr.ownsRow w5.heap.size 51 4 v done.length xs ∧
      Toks wr wr.heap.size xs done ∧ done ++ knownF f (at_ + P) (zs.drop P) = kn ∧ heldF f (zs.drop P) = hd ∧ done.length ≤ K ∧ Below w5.heap.size w5 wr) (fun _ _ i _ => m - (intOf i).toNat)
  case atStart => exact ⟨0, 0, zs.length, [], [], by omega, by omega, by omega, by simpa using HTS.out.symm, rfl, rfl, World.ownsRow_nil _ _ _ _, trivial, by simpa [KN] using HK.out, by simpa [HD] using HH.out, by simp, Below.refl _ _⟩
  case round =>
    obtain ⟨K, P, f, done, xs, hK, hP, hf, hdr, rfl, rfl, hown, htok, hkn, hhd, hdK, hbr⟩ := hrel
    have HDR := Lib.hid hdr
    have HOW := Lib.hid hown
    have HTO := Lib.hid htok
    have HKN := Lib.hid hkn
    have HHD := Lib.hid hhd
    clear hdr hown htok hkn hhd
    have hzq := HZL.out
    have HZQ : zs.length ≤ 4 := by omega
    clear hzq
    by_cases hKm : K = m
    · have hz0 : zs.drop P = [] := by
        have h1 := HDR.out
        rw [List.drop_of_length_le (by rw [HM.out]; omega)] at h1
        cases hzd : zs.drop P with
        | nil => rfl
        | cons a l =>
          rw [hzd] at h1
          cases f with
          | zero =>
            have := congrArg List.length hzd
            simp only [List.length_drop, List.length_cons] at this
            omega
          | succ f => cases h1
      have hfin1 : done = kn := by rw [← HKN.out, hz0, knownF_nil]; simp
      have hfin2 : zs.drop P = hd := by rw [← HHD.out, hz0, heldF_nil]
      have HF1 := Lib.hid hfin1
      have HF2 := Lib.hid hfin2
      have hKm' : ¬ K < m := by omega
      clear hz0 hfin1 hfin2 hKm
      go_wp2_with fail
      refine (drop_any p zs at_ P _ (HP5.out.below (hbr)) (by have := HZL.out; omega) HZQ hP h0 (by omega)).mono ?_
      rintro e w6 ⟨rfl, hr6, hg6⟩
      go_wp2
      go_ret
      exact put_fin (P := P) hlt5 HG5.out hbr (Below.refl _ _) hg6 HOW.out HTO.out (HP5.out.below hbr) hr6 HF1.out HN.out HF2.out (by have h := HZL.out; rw [← HF2.out, List.length_drop]; omega) HTY.out
    have hKm' : K < m := by omega
    have hKt : K < ts.length := by rw [HM.out]; exact hKm'
    obtain ⟨s, n1, e, f', hPl, ho, ht, hn1, hn2, he0, he2, hsh, hf', htl⟩ := allF_step (by rw [← List.drop_eq_getElem_cons hKt]; exact HDR.out) hf
    obtain ⟨b, o, rfl, hbl, k1, k2, ⟨A9, c9, k3, hc9, hm9, hA9⟩, k4⟩ := toks_atT (HR5.out.below hbr hbr.size) (HT5.out.below hbr hbr.size) hKt
    obtain ⟨O, hO⟩ : ∃ O, O = (if e = 0 then [s] else []) := ⟨_, rfl⟩
    rw [← hO] at ht
    rw [ht] at k1 k2 k3 k4 hA9 hc9
    simp only at k1 k2 k3 k4 hA9 hc9
    obtain ⟨L, hL⟩ : ∃ L, L = O.length := ⟨_, rfl⟩
    rw [← hL] at k3 hc9
    have HO' := Lib.hid hO
    have HL := Lib.hid hL
    clear hO hL
    unfold maxLen at hm9
    have kg := (hbr.cell (p := ⟨p, 5, none⟩) hlt5).trans g5
    have HO := Lib.hid ho
    have HTL := Lib.hid htl
    have HA9 := Lib.hid hA9
    have hlr : p < wr.heap.size := Nat.lt_of_lt_of_le hlt5 hbr.size
    have hne : ¬ p = wr.heap.size := by omega
    clear ho ht htl hA9
    by_cases he : e = 2
    · subst he
      have hks := known_short hPl hf HO.out
      have hfin1 : done = kn := by rw [← HKN.out, hks.1]; simp
      have hfin2 : zs.drop P = hd := by rw [← HHD.out, hks.2]
      have HF1 := Lib.hid hfin1
      have HF2 := Lib.hid hfin2
      have hba := (Below.refl wr.heap.size wr).alloc (Nat.le_refl _) (.cells #[.int .i64 P, .int .i64 n1, .slice A9 L c9, .int .i64 2] 51)
      have HRA := Lib.hid ((HP5.out.below hbr).below hba)
      clear hks hfin1 hfin2
      go_wp2_with fail
      refine (drop_any p zs at_ P _ HRA.out (by have := HZL.out; omega) HZQ hP h0 (by omega)).mono ?_
      rintro e w6 ⟨rfl, hr6, hg6⟩
      go_wp2
      go_ret
      exact put_fin (P := P) hlt5 HG5.out hbr hba hg6 HOW.out HTO.out HRA.out hr6 HF1.out HN.out HF2.out (by have h := HZL.out; rw [← HF2.out, List.length_drop]; omega) HTY.out
    · have hze : (e == 2) = false := beq_eq_false_iff_ne.2 he
      go_wp2_with fail
      go_region
      go_wp2_with (at_builtin; refine wpList_app _ rfl _ _ 32 rfl w5.heap.size 51 i0 _ 4 48 Tryz.underlying32 hi hz0 hz1 hz2 rfl (by decide) _ done.length xs rfl ?c0 (wr.heap.size + 1 + 1) _ 1 1 [.int .i64 (P + at_), .int .i64 n1, .slice A9 L c9, .int .i64 e] rfl rfl ?c1 ?c2 ?c3 ?c4 ?c5 ?_)
      case c0 => exact ((HOW.out.alloc _).alloc _).drew
      case c1 => exact Rd_new' _ _ _ _ (by simp)
      case c2 => intro u hu; simp at hu; rcases hu with rfl | rfl | rfl | rfl <;> rfl
      case c3 => simp only [maxLen]; omega
      case c4 => omega
      case c5 => have h1 := hbr.size; simp; omega
      intro v1 w6 hown6 hg6
      have hbW : Below wr.heap.size wr (((wr.alloc (.cells #[.int .i64 (P + at_), .int .i64 n1, .slice A9 L c9, .int .i64 e] 51)).alloc (.cells #[.int .i64 (P + at_), .int .i64 n1, .slice A9 L c9, .int .i64 e] 51)).drew) :=
        (((Below.refl _ _).alloc (Nat.le_refl _) _).alloc (by simp) _).drew
      have hks := known_step (p := at_ + P) hPl hf HO.out he f' hf'
      have hT6 := toks_push (t := ⟨P + at_, n1, e, O⟩) HTO.out hbW (HA9.out.keep hbW.size fun b _ _ hl _ => hbW.block b hl) (by rw [← HL.out]; exact hc9) (by unfold maxLen; exact hm9) (((HOW.out.alloc _).alloc _).drew) hg6
      have hb6 := hbr.trans (below_own (B := w5.heap.size) (hbW.mono hbr.size) hg6 (((HOW.out.alloc _).alloc _).drew) (Nat.le_refl _) (by have := hbr.size; simp; omega))
      rw [← HL.out] at hT6
      have HT6 := Lib.hid hT6
      have hkn6 : (done ++ [⟨P + at_, n1, e, O⟩]) ++ knownF f' (at_ + (P + n1.toNat : Nat)) (zs.drop (P + n1.toNat)) = kn := by
        rw [← HKN.out, hks.1, HO'.out, show (at_ + ((P + n1.toNat : Nat) : Int)) = at_ + P + n1 from by omega, Int.add_comm (P : Int) at_]
        simp
      have hhd6 := HHD.out
      rw [hks.2] at hhd6
      have HKN6 := Lib.hid hkn6
      have HHD6 := Lib.hid hhd6
      clear hT6 hkn6 hhd6 hks
      go_wp2
      go_roundw
      case rel => exact ⟨K + 1, P + n1.toNat, f', done ++ [⟨P + at_, n1, e, O⟩], _, by omega, by omega, hf', HTL.out, by go_num, by rw [show (((P + n1.toNat : Nat)) : Int) = P + n1 from by omega], by simpa using hown6, HT6.out, HKN6.out, HHD6.out, by simp; omega, hb6⟩
      case measure => simp [intOf]; omega
end
end Go.Proofs.YtncpokioagpclaaGreatDoor
namespace Go.Proofs.YtncpokioagpclaaGreatDoor
set_option linter.unusedVariables false
open Go.RowKit
section
variable {ty : TypeId}

/-- what End tells -/
def endK (q : List Int) (at_ : Int) : List Tok := if q = [] then [] else [⟨at_, q.length, 2, []⟩]

set_option maxHeartbeats 800000 in
theorem end_rdr (p : Nat) (q : List Int) (at_ : Int) (w : World) (hp : RdrAtT ty w p q at_) (h0 : 0 ≤ at_) (h1 : at_ ≤ 2251799813685248) (kn : List Tok) (n : Nat) (hk : endK q at_ = kn) (hn : kn.length = n) :
    Calls Tryz.prog 191 #[.pointer (some ⟨p, 0, none⟩)] w (RetPutT ty w p kn n [] (at_ + q.length)) := by
  obtain ⟨c4, c5, _, hq4, _⟩ := hp.cells
  by_cases hq : q = []
  · subst hq
    have HP := Lib.hid hp
    obtain rfl : kn = [] := by rw [← hk]; rfl
    obtain rfl : n = 0 := by rw [← hn]; rfl
    clear hp hk hn
    go_enter Tryz.func191, Tryz.ntmps191
    go_wp2
    go_ret
    exact ⟨_, [], rfl, World.ownsRow_nil _ _ _ _, trivial, by simpa using HP.out, World.grownBy.refl w _⟩
  · have hz : ((q.length : Int) == 0) = false := by
      refine beq_eq_false_iff_ne.2 fun h => hq ?_
      exact List.eq_nil_of_length_eq_zero (by omega)
    have hq1 : 1 ≤ q.length := by
      rcases Nat.eq_zero_or_pos q.length with h | h
      · exact absurd (List.eq_nil_of_length_eq_zero h) hq
      · exact h
    have hkn : kn = [⟨at_, q.length, 2, []⟩] := by rw [← hk]; exact if_neg hq
    have HKN := Lib.hid hkn
    have HN := Lib.hid hn
    have HP := Lib.hid hp
    have hlt := hp.lt
    have hne : ¬ p = w.heap.size := by omega
    clear hp hk hn hkn hq
    go_enter Tryz.func191, Tryz.ntmps191
    go_wp2
    go_region
    have hba := (((Below.refl w.heap.size w).alloc (Nat.le_refl _) (.cells #[.int .i64 at_, .int .i64 q.length, .slice none 0 0, .int .i64 2] 51))).drew
    have HBA := Lib.hid hba
    have HRA := Lib.hid (HP.out.below hba)
    clear hba
    go_wp2_with fail
    refine (drop_any p q at_ q.length _ HRA.out hq1 hq4 (Nat.le_refl _) h0 (by omega)).mono ?_
    rintro e w6 ⟨rfl, hr6, hg6⟩
    rw [List.drop_length] at hr6
    have hb6 : w6.heap[w.heap.size]? = some (.cells #[.int .i64 at_, .int .i64 q.length, .slice none 0 0, .int .i64 2] 51 (0, 0)) :=
      (hg6.block w.heap.size (by simp) (by intro e; injection e with e; omega)).trans (heap_alloc_new w _)
    obtain ⟨g0, g1, g2, g3⟩ := arr_cells hb6
    have HR6 := Lib.hid hr6
    have HG6 := Lib.hid (grown_seq (cgrown_below (p := some p) HBA.out) hg6)
    clear hr6 hg6 hb6 c4 c5
    go_wp2
    go_ret
    refine ⟨_, [.int .i64 at_, .int .i64 q.length, .slice none 0 0, .int .i64 2], rfl, ?_, ?_, HR6.out.below ((Below.refl _ _).alloc (Nat.le_refl _) _), grown_seq HG6.out (cgrown_below ((Below.refl _ _).alloc (Nat.le_refl _) _))⟩
    · rw [← HN.out, HKN.out]
      exact World.ownsRow_lit w6 _ 1 (HG6.out.size) (by simp [maxLen]) rfl
    · rw [HKN.out]
      exact ⟨rfl, rfl, ⟨none, 0, rfl, by simp, by simp [maxLen], .inl rfl⟩, rfl, trivial⟩

theorem KN_len (p : Int) (zs : List Int) : (KN p zs).length ≤ zs.length := knownF_len _ _ _

end
end Go.Proofs.YtncpokioagpclaaGreatDoor
