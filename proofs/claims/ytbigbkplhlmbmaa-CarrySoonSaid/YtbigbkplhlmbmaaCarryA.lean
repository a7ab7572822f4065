/- Layer 2: a reader's block; drop. -/
import Derived.Test.YtbigbkplhlmbmaaSame
import Derived.RegionTactic
import Derived.ChangeAlike
import Derived.Deep.RegionLaw
import Derived.Laws.CopyOwn
namespace Go.Proofs.Ytbigbkplhlmbmaa
set_option linter.unusedVariables false
open Go.RowKit

/-- a reader's block: its bytes, how many wait, where these begin -/
def RdrB (x0 x1 x2 x3 h at_ : Int) : Obj := .cells #[.int .u8 x0, .int .u8 x1, .int .u8 x2, .int .u8 x3, .int .i64 h, .int .i64 at_] 46 (0, 0)
theorem RdrB.cells {w : World} {p : Nat} {x0 x1 x2 x3 h at_ : Int} (hp : w.heap[p]? = some (RdrB x0 x1 x2 x3 h at_)) : w.cell? ⟨p, 0, none⟩ = some (.int .u8 x0) ∧ w.cell? ⟨p, 1, none⟩ = some (.int .u8 x1) ∧ w.cell? ⟨p, 2, none⟩ = some (.int .u8 x2) ∧
    w.cell? ⟨p, 3, none⟩ = some (.int .u8 x3) ∧ w.cell? ⟨p, 4, none⟩ = some (.int .i64 h) ∧ w.cell? ⟨p, 5, none⟩ = some (.int .i64 at_) ∧ ∀ o, w.frozen? ⟨p, o, none⟩ = false := by
  refine ⟨?_, ?_, ?_, ?_, ?_, ?_, fun o => frozen_of_row _ _ _ _ _ hp⟩ <;> (rw [cell_of_row _ _ _ _ _ _ hp]; rfl)
theorem arr_cells {w : World} {g : Nat} {y0 y1 y2 y3 : Value} {t : TypeId} (hp : w.heap[g]? = some (.cells #[y0, y1, y2, y3] t (0, 0))) : w.cell? ⟨g, 0, none⟩ = some y0 ∧ w.cell? ⟨g, 1, none⟩ = some y1 ∧ w.cell? ⟨g, 2, none⟩ = some y2 ∧ w.cell? ⟨g, 3, none⟩ = some y3 := by
  refine ⟨?_, ?_, ?_, ?_⟩ <;> (rw [cell_of_row _ _ _ _ _ _ hp]; rfl)
theorem heap_lt {w : World} {p : Nat} {o : Obj} (hp : w.heap[p]? = some o) : p < w.heap.size := by
  rcases Nat.lt_or_ge p w.heap.size with h | h
  · exact h
  · rw [Array.getElem?_eq_none h] at hp; cases hp
theorem grown_below {w w' : World} {p : Option Nat} (h : Below w.heap.size w w') : w.grownBy w' p := ⟨h.os, h.tape, h.output, h.size, fun k hk _ => h.block k hk⟩
theorem grown_set {w w' : World} {p : Nat} (h : w.grownBy w' (some p)) (j : Nat) (u : Value) : w.grownBy (w'.setCell ⟨p, j, none⟩ u) (some p) :=
  grown_seq h ⟨rfl, rfl, rfl, by simp, fun k _ hk => heap_setCell_other w' ⟨p, j, none⟩ k u (fun e => hk (by simp [e]))⟩
theorem rdr_set6 {w : World} {p : Nat} {x0 x1 x2 x3 h at_ : Int} (hp : w.heap[p]? = some (RdrB x0 x1 x2 x3 h at_)) (y0 y1 y2 y3 h' at' : Int) :
    ((((((w.setCell ⟨p, 0, none⟩ (.int .u8 y0)).setCell ⟨p, 1, none⟩ (.int .u8 y1)).setCell ⟨p, 2, none⟩ (.int .u8 y2)).setCell ⟨p, 3, none⟩ (.int .u8 y3)).setCell ⟨p, 4, none⟩ (.int .i64 h')).setCell ⟨p, 5, none⟩ (.int .i64 at')).heap[p]? = some (RdrB y0 y1 y2 y3 h' at') :=
  heap_setCell_same _ p 5 _ _ _ (heap_setCell_same _ p 4 _ _ _ (heap_setCell_same _ p 3 _ _ _ (heap_setCell_same _ p 2 _ _ _ (heap_setCell_same _ p 1 _ _ _ (heap_setCell_same w p 0 _ _ _ hp)))))
theorem copy_src {W w : World} {p n : Nat} {cs : List Value} (hW : W.heap[p]? = w.heap[p]?) (hc : ∀ j v, cs[j]? = some v → w.cell? ⟨p, n + j, none⟩ = some v) : ∀ j v, cs[j]? = some v → W.cell? ((⟨p, n, none⟩ : Addr).add j) = some v := by
  intro j v hj
  rw [show (⟨p, n, none⟩ : Addr).add j = ⟨p, n + j, none⟩ from by unfold Addr.add; split <;> simp_all]
  exact (World.cell?_of_block (w := w) hW).trans (hc j v hj)

set_option maxHeartbeats 800000 in
theorem drop_10 (p : Nat) (x0 x1 x2 x3 at_ : Int) (w : World) (hp : w.heap[p]? = some (RdrB x0 x1 x2 x3 1 at_)) (h0 : 0 ≤ at_) (h1 : at_ ≤ 4503599627370496) :
    Calls Try.prog 30 #[.pointer (some ⟨p, 0, none⟩), .int .i64 0] w fun e w' => e = .returned (.tuple #[]) ∧ w'.heap[p]? = some (RdrB x0 0 0 0 1 at_) ∧ w.grownBy w' (some p) := by
  have hlt := heap_lt hp
  have hne : ¬ p = w.heap.size := by omega
  obtain ⟨c0, c1, c2, c3, c4, c5, _⟩ := RdrB.cells hp
  have hcc : ∀ j v, ([Value.int .u8 x0] : List Value)[j]? = some v → w.cell? ⟨p, 0 + j, none⟩ = some v := by
    intro j v hj
    match j with
    | 0 => (obtain rfl : Value.int .u8 x0 = v := by simpa using hj); exact c0
    | k + 1 => simp at hj
  have HC := Lib.hid hcc
  have HP := Lib.hid hp
  clear hp hcc
  go_enter Try.func30, Try.ntmps30
  go_wp2
  have hg : (w.alloc (.cells #[.int .u8 0, .int .u8 0, .int .u8 0, .int .u8 0] 44)).heap[w.heap.size]? = some (.cells ([Value.int .u8 0, .int .u8 0, .int .u8 0, .int .u8 0] : List Value).toArray 44 (0, 0)) := heap_alloc_new w _
  have HG := Lib.hid hg
  clear hg
  go_region_law (refine step_copy_splice rfl (.tmp 5) (.tmp 14) 23 23 rfl 5 Try.underlying23 (by kernel_rfl) (some ⟨w.heap.size, 0, none⟩) (some ⟨p, 0, none⟩) _ _ _ _ rfl rfl w.heap.size 0 [Value.int .u8 0, .int .u8 0, .int .u8 0, .int .u8 0] 44 HG.out [Value.int .u8 x0] rfl (fun _ => ⟨rfl, _, rfl, copy_src (Below.heap_alloc w _ p (by omega)) HC.out⟩) (by simp) (by simp [Value.oneCell']) w.heap.size w ((Below.refl _ _).alloc (Nat.le_refl _) _).drew (Nat.le_refl _) ?_; intro w4 hg4 hb4)
  have hg5 : w4.heap[w.heap.size]? = some (.cells #[.int .u8 x0, .int .u8 0, .int .u8 0, .int .u8 0] 44 (0, 0)) := hg4.out
  have hp4 := (hb4.block p hlt).trans HP.out
  obtain ⟨g0, g1, g2, g3⟩ := arr_cells hg5
  obtain ⟨d0, d1, d2, d3, d4, d5, df⟩ := RdrB.cells hp4
  have HP4 := Lib.hid hp4
  clear hg4 hg5 hp4 c0 c1 c2 c3 c4 c5
  go_wp2
  go_end0
  exact ⟨rfl, rdr_set6 HP4.out _ _ _ _ _ _, grown_set (grown_set (grown_set (grown_set (grown_set (grown_set (grown_below hb4) _ _) _ _) _ _) _ _) _ _) _ _⟩

set_option maxHeartbeats 800000 in
theorem drop_11 (p : Nat) (x0 x1 x2 x3 at_ : Int) (w : World) (hp : w.heap[p]? = some (RdrB x0 x1 x2 x3 1 at_)) (h0 : 0 ≤ at_) (h1 : at_ ≤ 4503599627370496) :
    Calls Try.prog 30 #[.pointer (some ⟨p, 0, none⟩), .int .i64 1] w fun e w' => e = .returned (.tuple #[]) ∧ w'.heap[p]? = some (RdrB 0 0 0 0 0 (at_ + 1)) ∧ w.grownBy w' (some p) := by
  have hlt := heap_lt hp
  have hne : ¬ p = w.heap.size := by omega
  obtain ⟨c0, c1, c2, c3, c4, c5, _⟩ := RdrB.cells hp
  have hcc : ∀ j v, (([] : List Value) : List Value)[j]? = some v → w.cell? ⟨p, 1 + j, none⟩ = some v := by
    intro j v hj
    simp at hj
  have HC := Lib.hid hcc
  have HP := Lib.hid hp
  clear hp hcc
  go_enter Try.func30, Try.ntmps30
  go_wp2
  have hg : (w.alloc (.cells #[.int .u8 0, .int .u8 0, .int .u8 0, .int .u8 0] 44)).heap[w.heap.size]? = some (.cells ([Value.int .u8 0, .int .u8 0, .int .u8 0, .int .u8 0] : List Value).toArray 44 (0, 0)) := heap_alloc_new w _
  have HG := Lib.hid hg
  clear hg
  go_region_law (refine step_copy_splice rfl (.tmp 5) (.tmp 14) 23 23 rfl 5 Try.underlying23 (by kernel_rfl) (some ⟨w.heap.size, 0, none⟩) (some ⟨p, 1, none⟩) _ _ _ _ rfl rfl w.heap.size 0 [Value.int .u8 0, .int .u8 0, .int .u8 0, .int .u8 0] 44 HG.out ([] : List Value) rfl (fun _ => ⟨rfl, _, rfl, copy_src (Below.heap_alloc w _ p (by omega)) HC.out⟩) (by simp) (by simp [Value.oneCell']) w.heap.size w ((Below.refl _ _).alloc (Nat.le_refl _) _).drew (Nat.le_refl _) ?_; intro w4 hg4 hb4)
  have hg5 : w4.heap[w.heap.size]? = some (.cells #[.int .u8 0, .int .u8 0, .int .u8 0, .int .u8 0] 44 (0, 0)) := hg4.out
  have hp4 := (hb4.block p hlt).trans HP.out
  obtain ⟨g0, g1, g2, g3⟩ := arr_cells hg5
  obtain ⟨d0, d1, d2, d3, d4, d5, df⟩ := RdrB.cells hp4
  have HP4 := Lib.hid hp4
  clear hg4 hg5 hp4 c0 c1 c2 c3 c4 c5
  go_wp2
  go_end0
  exact ⟨rfl, rdr_set6 HP4.out _ _ _ _ _ _, grown_set (grown_set (grown_set (grown_set (grown_set (grown_set (grown_below hb4) _ _) _ _) _ _) _ _) _ _) _ _⟩

set_option maxHeartbeats 800000 in
theorem drop_20 (p : Nat) (x0 x1 x2 x3 at_ : Int) (w : World) (hp : w.heap[p]? = some (RdrB x0 x1 x2 x3 2 at_)) (h0 : 0 ≤ at_) (h1 : at_ ≤ 4503599627370496) :
    Calls Try.prog 30 #[.pointer (some ⟨p, 0, none⟩), .int .i64 0] w fun e w' => e = .returned (.tuple #[]) ∧ w'.heap[p]? = some (RdrB x0 x1 0 0 2 at_) ∧ w.grownBy w' (some p) := by
  have hlt := heap_lt hp
  have hne : ¬ p = w.heap.size := by omega
  obtain ⟨c0, c1, c2, c3, c4, c5, _⟩ := RdrB.cells hp
  have hcc : ∀ j v, ([Value.int .u8 x0, Value.int .u8 x1] : List Value)[j]? = some v → w.cell? ⟨p, 0 + j, none⟩ = some v := by
    intro j v hj
    match j with
    | 0 => (obtain rfl : Value.int .u8 x0 = v := by simpa using hj); exact c0
    | 1 => (obtain rfl : Value.int .u8 x1 = v := by simpa using hj); exact c1
    | k + 2 => simp at hj
  have HC := Lib.hid hcc
  have HP := Lib.hid hp
  clear hp hcc
  go_enter Try.func30, Try.ntmps30
  go_wp2
  have hg : (w.alloc (.cells #[.int .u8 0, .int .u8 0, .int .u8 0, .int .u8 0] 44)).heap[w.heap.size]? = some (.cells ([Value.int .u8 0, .int .u8 0, .int .u8 0, .int .u8 0] : List Value).toArray 44 (0, 0)) := heap_alloc_new w _
  have HG := Lib.hid hg
  clear hg
  go_region_law (refine step_copy_splice rfl (.tmp 5) (.tmp 14) 23 23 rfl 5 Try.underlying23 (by kernel_rfl) (some ⟨w.heap.size, 0, none⟩) (some ⟨p, 0, none⟩) _ _ _ _ rfl rfl w.heap.size 0 [Value.int .u8 0, .int .u8 0, .int .u8 0, .int .u8 0] 44 HG.out [Value.int .u8 x0, Value.int .u8 x1] rfl (fun _ => ⟨rfl, _, rfl, copy_src (Below.heap_alloc w _ p (by omega)) HC.out⟩) (by simp) (by simp [Value.oneCell']) w.heap.size w ((Below.refl _ _).alloc (Nat.le_refl _) _).drew (Nat.le_refl _) ?_; intro w4 hg4 hb4)
  have hg5 : w4.heap[w.heap.size]? = some (.cells #[.int .u8 x0, .int .u8 x1, .int .u8 0, .int .u8 0] 44 (0, 0)) := hg4.out
  have hp4 := (hb4.block p hlt).trans HP.out
  obtain ⟨g0, g1, g2, g3⟩ := arr_cells hg5
  obtain ⟨d0, d1, d2, d3, d4, d5, df⟩ := RdrB.cells hp4
  have HP4 := Lib.hid hp4
  clear hg4 hg5 hp4 c0 c1 c2 c3 c4 c5
  go_wp2
  go_end0
  exact ⟨rfl, rdr_set6 HP4.out _ _ _ _ _ _, grown_set (grown_set (grown_set (grown_set (grown_set (grown_set (grown_below hb4) _ _) _ _) _ _) _ _) _ _) _ _⟩

set_option maxHeartbeats 800000 in
theorem drop_21 (p : Nat) (x0 x1 x2 x3 at_ : Int) (w : World) (hp : w.heap[p]? = some (RdrB x0 x1 x2 x3 2 at_)) (h0 : 0 ≤ at_) (h1 : at_ ≤ 4503599627370496) :
    Calls Try.prog 30 #[.pointer (some ⟨p, 0, none⟩), .int .i64 1] w fun e w' => e = .returned (.tuple #[]) ∧ w'.heap[p]? = some (RdrB x1 0 0 0 1 (at_ + 1)) ∧ w.grownBy w' (some p) := by
  have hlt := heap_lt hp
  have hne : ¬ p = w.heap.size := by omega
  obtain ⟨c0, c1, c2, c3, c4, c5, _⟩ := RdrB.cells hp
  have hcc : ∀ j v, ([Value.int .u8 x1] : List Value)[j]? = some v → w.cell? ⟨p, 1 + j, none⟩ = some v := by
    intro j v hj
    match j with
    | 0 => (obtain rfl : Value.int .u8 x1 = v := by simpa using hj); exact c1
    | k + 1 => simp at hj
  have HC := Lib.hid hcc
  have HP := Lib.hid hp
  clear hp hcc
  go_enter Try.func30, Try.ntmps30
  go_wp2
  have hg : (w.alloc (.cells #[.int .u8 0, .int .u8 0, .int .u8 0, .int .u8 0] 44)).heap[w.heap.size]? = some (.cells ([Value.int .u8 0, .int .u8 0, .int .u8 0, .int .u8 0] : List Value).toArray 44 (0, 0)) := heap_alloc_new w _
  have HG := Lib.hid hg
  clear hg
  go_region_law (refine step_copy_splice rfl (.tmp 5) (.tmp 14) 23 23 rfl 5 Try.underlying23 (by kernel_rfl) (some ⟨w.heap.size, 0, none⟩) (some ⟨p, 1, none⟩) _ _ _ _ rfl rfl w.heap.size 0 [Value.int .u8 0, .int .u8 0, .int .u8 0, .int .u8 0] 44 HG.out [Value.int .u8 x1] rfl (fun _ => ⟨rfl, _, rfl, copy_src (Below.heap_alloc w _ p (by omega)) HC.out⟩) (by simp) (by simp [Value.oneCell']) w.heap.size w ((Below.refl _ _).alloc (Nat.le_refl _) _).drew (Nat.le_refl _) ?_; intro w4 hg4 hb4)
  have hg5 : w4.heap[w.heap.size]? = some (.cells #[.int .u8 x1, .int .u8 0, .int .u8 0, .int .u8 0] 44 (0, 0)) := hg4.out
  have hp4 := (hb4.block p hlt).trans HP.out
  obtain ⟨g0, g1, g2, g3⟩ := arr_cells hg5
  obtain ⟨d0, d1, d2, d3, d4, d5, df⟩ := RdrB.cells hp4
  have HP4 := Lib.hid hp4
  clear hg4 hg5 hp4 c0 c1 c2 c3 c4 c5
  go_wp2
  go_end0
  exact ⟨rfl, rdr_set6 HP4.out _ _ _ _ _ _, grown_set (grown_set (grown_set (grown_set (grown_set (grown_set (grown_below hb4) _ _) _ _) _ _) _ _) _ _) _ _⟩

set_option maxHeartbeats 800000 in
theorem drop_22 (p : Nat) (x0 x1 x2 x3 at_ : Int) (w : World) (hp : w.heap[p]? = some (RdrB x0 x1 x2 x3 2 at_)) (h0 : 0 ≤ at_) (h1 : at_ ≤ 4503599627370496) :
    Calls Try.prog 30 #[.pointer (some ⟨p, 0, none⟩), .int .i64 2] w fun e w' => e = .returned (.tuple #[]) ∧ w'.heap[p]? = some (RdrB 0 0 0 0 0 (at_ + 2)) ∧ w.grownBy w' (some p) := by
  have hlt := heap_lt hp
  have hne : ¬ p = w.heap.size := by omega
  obtain ⟨c0, c1, c2, c3, c4, c5, _⟩ := RdrB.cells hp
  have hcc : ∀ j v, (([] : List Value) : List Value)[j]? = some v → w.cell? ⟨p, 2 + j, none⟩ = some v := by
    intro j v hj
    simp at hj
  have HC := Lib.hid hcc
  have HP := Lib.hid hp
  clear hp hcc
  go_enter Try.func30, Try.ntmps30
  go_wp2
  have hg : (w.alloc (.cells #[.int .u8 0, .int .u8 0, .int .u8 0, .int .u8 0] 44)).heap[w.heap.size]? = some (.cells ([Value.int .u8 0, .int .u8 0, .int .u8 0, .int .u8 0] : List Value).toArray 44 (0, 0)) := heap_alloc_new w _
  have HG := Lib.hid hg
  clear hg
  go_region_law (refine step_copy_splice rfl (.tmp 5) (.tmp 14) 23 23 rfl 5 Try.underlying23 (by kernel_rfl) (some ⟨w.heap.size, 0, none⟩) (some ⟨p, 2, none⟩) _ _ _ _ rfl rfl w.heap.size 0 [Value.int .u8 0, .int .u8 0, .int .u8 0, .int .u8 0] 44 HG.out ([] : List Value) rfl (fun _ => ⟨rfl, _, rfl, copy_src (Below.heap_alloc w _ p (by omega)) HC.out⟩) (by simp) (by simp [Value.oneCell']) w.heap.size w ((Below.refl _ _).alloc (Nat.le_refl _) _).drew (Nat.le_refl _) ?_; intro w4 hg4 hb4)
  have hg5 : w4.heap[w.heap.size]? = some (.cells #[.int .u8 0, .int .u8 0, .int .u8 0, .int .u8 0] 44 (0, 0)) := hg4.out
  have hp4 := (hb4.block p hlt).trans HP.out
  obtain ⟨g0, g1, g2, g3⟩ := arr_cells hg5
  obtain ⟨d0, d1, d2, d3, d4, d5, df⟩ := RdrB.cells hp4
  have HP4 := Lib.hid hp4
  clear hg4 hg5 hp4 c0 c1 c2 c3 c4 c5
  go_wp2
  go_end0
  exact ⟨rfl, rdr_set6 HP4.out _ _ _ _ _ _, grown_set (grown_set (grown_set (grown_set (grown_set (grown_set (grown_below hb4) _ _) _ _) _ _) _ _) _ _) _ _⟩

set_option maxHeartbeats 800000 in
theorem drop_30 (p : Nat) (x0 x1 x2 x3 at_ : Int) (w : World) (hp : w.heap[p]? = some (RdrB x0 x1 x2 x3 3 at_)) (h0 : 0 ≤ at_) (h1 : at_ ≤ 4503599627370496) :
    Calls Try.prog 30 #[.pointer (some ⟨p, 0, none⟩), .int .i64 0] w fun e w' => e = .returned (.tuple #[]) ∧ w'.heap[p]? = some (RdrB x0 x1 x2 0 3 at_) ∧ w.grownBy w' (some p) := by
  have hlt := heap_lt hp
  have hne : ¬ p = w.heap.size := by omega
  obtain ⟨c0, c1, c2, c3, c4, c5, _⟩ := RdrB.cells hp
  have hcc : ∀ j v, ([Value.int .u8 x0, Value.int .u8 x1, Value.int .u8 x2] : List Value)[j]? = some v → w.cell? ⟨p, 0 + j, none⟩ = some v := by
    intro j v hj
    match j with
    | 0 => (obtain rfl : Value.int .u8 x0 = v := by simpa using hj); exact c0
    | 1 => (obtain rfl : Value.int .u8 x1 = v := by simpa using hj); exact c1
    | 2 => (obtain rfl : Value.int .u8 x2 = v := by simpa using hj); exact c2
    | k + 3 => simp at hj
  have HC := Lib.hid hcc
  have HP := Lib.hid hp
  clear hp hcc
  go_enter Try.func30, Try.ntmps30
  go_wp2
  have hg : (w.alloc (.cells #[.int .u8 0, .int .u8 0, .int .u8 0, .int .u8 0] 44)).heap[w.heap.size]? = some (.cells ([Value.int .u8 0, .int .u8 0, .int .u8 0, .int .u8 0] : List Value).toArray 44 (0, 0)) := heap_alloc_new w _
  have HG := Lib.hid hg
  clear hg
  go_region_law (refine step_copy_splice rfl (.tmp 5) (.tmp 14) 23 23 rfl 5 Try.underlying23 (by kernel_rfl) (some ⟨w.heap.size, 0, none⟩) (some ⟨p, 0, none⟩) _ _ _ _ rfl rfl w.heap.size 0 [Value.int .u8 0, .int .u8 0, .int .u8 0, .int .u8 0] 44 HG.out [Value.int .u8 x0, Value.int .u8 x1, Value.int .u8 x2] rfl (fun _ => ⟨rfl, _, rfl, copy_src (Below.heap_alloc w _ p (by omega)) HC.out⟩) (by simp) (by simp [Value.oneCell']) w.heap.size w ((Below.refl _ _).alloc (Nat.le_refl _) _).drew (Nat.le_refl _) ?_; intro w4 hg4 hb4)
  have hg5 : w4.heap[w.heap.size]? = some (.cells #[.int .u8 x0, .int .u8 x1, .int .u8 x2, .int .u8 0] 44 (0, 0)) := hg4.out
  have hp4 := (hb4.block p hlt).trans HP.out
  obtain ⟨g0, g1, g2, g3⟩ := arr_cells hg5
  obtain ⟨d0, d1, d2, d3, d4, d5, df⟩ := RdrB.cells hp4
  have HP4 := Lib.hid hp4
  clear hg4 hg5 hp4 c0 c1 c2 c3 c4 c5
  go_wp2
  go_end0
  exact ⟨rfl, rdr_set6 HP4.out _ _ _ _ _ _, grown_set (grown_set (grown_set (grown_set (grown_set (grown_set (grown_below hb4) _ _) _ _) _ _) _ _) _ _) _ _⟩

set_option maxHeartbeats 800000 in
theorem drop_31 (p : Nat) (x0 x1 x2 x3 at_ : Int) (w : World) (hp : w.heap[p]? = some (RdrB x0 x1 x2 x3 3 at_)) (h0 : 0 ≤ at_) (h1 : at_ ≤ 4503599627370496) :
    Calls Try.prog 30 #[.pointer (some ⟨p, 0, none⟩), .int .i64 1] w fun e w' => e = .returned (.tuple #[]) ∧ w'.heap[p]? = some (RdrB x1 x2 0 0 2 (at_ + 1)) ∧ w.grownBy w' (some p) := by
  have hlt := heap_lt hp
  have hne : ¬ p = w.heap.size := by omega
  obtain ⟨c0, c1, c2, c3, c4, c5, _⟩ := RdrB.cells hp
  have hcc : ∀ j v, ([Value.int .u8 x1, Value.int .u8 x2] : List Value)[j]? = some v → w.cell? ⟨p, 1 + j, none⟩ = some v := by
    intro j v hj
    match j with
    | 0 => (obtain rfl : Value.int .u8 x1 = v := by simpa using hj); exact c1
    | 1 => (obtain rfl : Value.int .u8 x2 = v := by simpa using hj); exact c2
    | k + 2 => simp at hj
  have HC := Lib.hid hcc
  have HP := Lib.hid hp
  clear hp hcc
  go_enter Try.func30, Try.ntmps30
  go_wp2
  have hg : (w.alloc (.cells #[.int .u8 0, .int .u8 0, .int .u8 0, .int .u8 0] 44)).heap[w.heap.size]? = some (.cells ([Value.int .u8 0, .int .u8 0, .int .u8 0, .int .u8 0] : List Value).toArray 44 (0, 0)) := heap_alloc_new w _
  have HG := Lib.hid hg
  clear hg
  go_region_law (refine step_copy_splice rfl (.tmp 5) (.tmp 14) 23 23 rfl 5 Try.underlying23 (by kernel_rfl) (some ⟨w.heap.size, 0, none⟩) (some ⟨p, 1, none⟩) _ _ _ _ rfl rfl w.heap.size 0 [Value.int .u8 0, .int .u8 0, .int .u8 0, .int .u8 0] 44 HG.out [Value.int .u8 x1, Value.int .u8 x2] rfl (fun _ => ⟨rfl, _, rfl, copy_src (Below.heap_alloc w _ p (by omega)) HC.out⟩) (by simp) (by simp [Value.oneCell']) w.heap.size w ((Below.refl _ _).alloc (Nat.le_refl _) _).drew (Nat.le_refl _) ?_; intro w4 hg4 hb4)
  have hg5 : w4.heap[w.heap.size]? = some (.cells #[.int .u8 x1, .int .u8 x2, .int .u8 0, .int .u8 0] 44 (0, 0)) := hg4.out
  have hp4 := (hb4.block p hlt).trans HP.out
  obtain ⟨g0, g1, g2, g3⟩ := arr_cells hg5
  obtain ⟨d0, d1, d2, d3, d4, d5, df⟩ := RdrB.cells hp4
  have HP4 := Lib.hid hp4
  clear hg4 hg5 hp4 c0 c1 c2 c3 c4 c5
  go_wp2
  go_end0
  exact ⟨rfl, rdr_set6 HP4.out _ _ _ _ _ _, grown_set (grown_set (grown_set (grown_set (grown_set (grown_set (grown_below hb4) _ _) _ _) _ _) _ _) _ _) _ _⟩

set_option maxHeartbeats 800000 in
theorem drop_32 (p : Nat) (x0 x1 x2 x3 at_ : Int) (w : World) (hp : w.heap[p]? = some (RdrB x0 x1 x2 x3 3 at_)) (h0 : 0 ≤ at_) (h1 : at_ ≤ 4503599627370496) :
    Calls Try.prog 30 #[.pointer (some ⟨p, 0, none⟩), .int .i64 2] w fun e w' => e = .returned (.tuple #[]) ∧ w'.heap[p]? = some (RdrB x2 0 0 0 1 (at_ + 2)) ∧ w.grownBy w' (some p) := by
  have hlt := heap_lt hp
  have hne : ¬ p = w.heap.size := by omega
  obtain ⟨c0, c1, c2, c3, c4, c5, _⟩ := RdrB.cells hp
  have hcc : ∀ j v, ([Value.int .u8 x2] : List Value)[j]? = some v → w.cell? ⟨p, 2 + j, none⟩ = some v := by
    intro j v hj
    match j with
    | 0 => (obtain rfl : Value.int .u8 x2 = v := by simpa using hj); exact c2
    | k + 1 => simp at hj
  have HC := Lib.hid hcc
  have HP := Lib.hid hp
  clear hp hcc
  go_enter Try.func30, Try.ntmps30
  go_wp2
  have hg : (w.alloc (.cells #[.int .u8 0, .int .u8 0, .int .u8 0, .int .u8 0] 44)).heap[w.heap.size]? = some (.cells ([Value.int .u8 0, .int .u8 0, .int .u8 0, .int .u8 0] : List Value).toArray 44 (0, 0)) := heap_alloc_new w _
  have HG := Lib.hid hg
  clear hg
  go_region_law (refine step_copy_splice rfl (.tmp 5) (.tmp 14) 23 23 rfl 5 Try.underlying23 (by kernel_rfl) (some ⟨w.heap.size, 0, none⟩) (some ⟨p, 2, none⟩) _ _ _ _ rfl rfl w.heap.size 0 [Value.int .u8 0, .int .u8 0, .int .u8 0, .int .u8 0] 44 HG.out [Value.int .u8 x2] rfl (fun _ => ⟨rfl, _, rfl, copy_src (Below.heap_alloc w _ p (by omega)) HC.out⟩) (by simp) (by simp [Value.oneCell']) w.heap.size w ((Below.refl _ _).alloc (Nat.le_refl _) _).drew (Nat.le_refl _) ?_; intro w4 hg4 hb4)
  have hg5 : w4.heap[w.heap.size]? = some (.cells #[.int .u8 x2, .int .u8 0, .int .u8 0, .int .u8 0] 44 (0, 0)) := hg4.out
  have hp4 := (hb4.block p hlt).trans HP.out
  obtain ⟨g0, g1, g2, g3⟩ := arr_cells hg5
  obtain ⟨d0, d1, d2, d3, d4, d5, df⟩ := RdrB.cells hp4
  have HP4 := Lib.hid hp4
  clear hg4 hg5 hp4 c0 c1 c2 c3 c4 c5
  go_wp2
  go_end0
  exact ⟨rfl, rdr_set6 HP4.out _ _ _ _ _ _, grown_set (grown_set (grown_set (grown_set (grown_set (grown_set (grown_below hb4) _ _) _ _) _ _) _ _) _ _) _ _⟩

set_option maxHeartbeats 800000 in
theorem drop_33 (p : Nat) (x0 x1 x2 x3 at_ : Int) (w : World) (hp : w.heap[p]? = some (RdrB x0 x1 x2 x3 3 at_)) (h0 : 0 ≤ at_) (h1 : at_ ≤ 4503599627370496) :
    Calls Try.prog 30 #[.pointer (some ⟨p, 0, none⟩), .int .i64 3] w fun e w' => e = .returned (.tuple #[]) ∧ w'.heap[p]? = some (RdrB 0 0 0 0 0 (at_ + 3)) ∧ w.grownBy w' (some p) := by
  have hlt := heap_lt hp
  have hne : ¬ p = w.heap.size := by omega
  obtain ⟨c0, c1, c2, c3, c4, c5, _⟩ := RdrB.cells hp
  have hcc : ∀ j v, (([] : List Value) : List Value)[j]? = some v → w.cell? ⟨p, 3 + j, none⟩ = some v := by
    intro j v hj
    simp at hj
  have HC := Lib.hid hcc
  have HP := Lib.hid hp
  clear hp hcc
  go_enter Try.func30, Try.ntmps30
  go_wp2
  have hg : (w.alloc (.cells #[.int .u8 0, .int .u8 0, .int .u8 0, .int .u8 0] 44)).heap[w.heap.size]? = some (.cells ([Value.int .u8 0, .int .u8 0, .int .u8 0, .int .u8 0] : List Value).toArray 44 (0, 0)) := heap_alloc_new w _
  have HG := Lib.hid hg
  clear hg
  go_region_law (refine step_copy_splice rfl (.tmp 5) (.tmp 14) 23 23 rfl 5 Try.underlying23 (by kernel_rfl) (some ⟨w.heap.size, 0, none⟩) (some ⟨p, 3, none⟩) _ _ _ _ rfl rfl w.heap.size 0 [Value.int .u8 0, .int .u8 0, .int .u8 0, .int .u8 0] 44 HG.out ([] : List Value) rfl (fun _ => ⟨rfl, _, rfl, copy_src (Below.heap_alloc w _ p (by omega)) HC.out⟩) (by simp) (by simp [Value.oneCell']) w.heap.size w ((Below.refl _ _).alloc (Nat.le_refl _) _).drew (Nat.le_refl _) ?_; intro w4 hg4 hb4)
  have hg5 : w4.heap[w.heap.size]? = some (.cells #[.int .u8 0, .int .u8 0, .int .u8 0, .int .u8 0] 44 (0, 0)) := hg4.out
  have hp4 := (hb4.block p hlt).trans HP.out
  obtain ⟨g0, g1, g2, g3⟩ := arr_cells hg5
  obtain ⟨d0, d1, d2, d3, d4, d5, df⟩ := RdrB.cells hp4
  have HP4 := Lib.hid hp4
  clear hg4 hg5 hp4 c0 c1 c2 c3 c4 c5
  go_wp2
  go_end0
  exact ⟨rfl, rdr_set6 HP4.out _ _ _ _ _ _, grown_set (grown_set (grown_set (grown_set (grown_set (grown_set (grown_below hb4) _ _) _ _) _ _) _ _) _ _) _ _⟩

set_option maxHeartbeats 800000 in
theorem drop_40 (p : Nat) (x0 x1 x2 x3 at_ : Int) (w : World) (hp : w.heap[p]? = some (RdrB x0 x1 x2 x3 4 at_)) (h0 : 0 ≤ at_) (h1 : at_ ≤ 4503599627370496) :
    Calls Try.prog 30 #[.pointer (some ⟨p, 0, none⟩), .int .i64 0] w fun e w' => e = .returned (.tuple #[]) ∧ w'.heap[p]? = some (RdrB x0 x1 x2 x3 4 at_) ∧ w.grownBy w' (some p) := by
  have hlt := heap_lt hp
  have hne : ¬ p = w.heap.size := by omega
  obtain ⟨c0, c1, c2, c3, c4, c5, _⟩ := RdrB.cells hp
  have hcc : ∀ j v, ([Value.int .u8 x0, Value.int .u8 x1, Value.int .u8 x2, Value.int .u8 x3] : List Value)[j]? = some v → w.cell? ⟨p, 0 + j, none⟩ = some v := by
    intro j v hj
    match j with
    | 0 => (obtain rfl : Value.int .u8 x0 = v := by simpa using hj); exact c0
    | 1 => (obtain rfl : Value.int .u8 x1 = v := by simpa using hj); exact c1
    | 2 => (obtain rfl : Value.int .u8 x2 = v := by simpa using hj); exact c2
    | 3 => (obtain rfl : Value.int .u8 x3 = v := by simpa using hj); exact c3
    | k + 4 => simp at hj
  have HC := Lib.hid hcc
  have HP := Lib.hid hp
  clear hp hcc
  go_enter Try.func30, Try.ntmps30
  go_wp2
  have hg : (w.alloc (.cells #[.int .u8 0, .int .u8 0, .int .u8 0, .int .u8 0] 44)).heap[w.heap.size]? = some (.cells ([Value.int .u8 0, .int .u8 0, .int .u8 0, .int .u8 0] : List Value).toArray 44 (0, 0)) := heap_alloc_new w _
  have HG := Lib.hid hg
  clear hg
  go_region_law (refine step_copy_splice rfl (.tmp 5) (.tmp 14) 23 23 rfl 5 Try.underlying23 (by kernel_rfl) (some ⟨w.heap.size, 0, none⟩) (some ⟨p, 0, none⟩) _ _ _ _ rfl rfl w.heap.size 0 [Value.int .u8 0, .int .u8 0, .int .u8 0, .int .u8 0] 44 HG.out [Value.int .u8 x0, Value.int .u8 x1, Value.int .u8 x2, Value.int .u8 x3] rfl (fun _ => ⟨rfl, _, rfl, copy_src (Below.heap_alloc w _ p (by omega)) HC.out⟩) (by simp) (by simp [Value.oneCell']) w.heap.size w ((Below.refl _ _).alloc (Nat.le_refl _) _).drew (Nat.le_refl _) ?_; intro w4 hg4 hb4)
  have hg5 : w4.heap[w.heap.size]? = some (.cells #[.int .u8 x0, .int .u8 x1, .int .u8 x2, .int .u8 x3] 44 (0, 0)) := hg4.out
  have hp4 := (hb4.block p hlt).trans HP.out
  obtain ⟨g0, g1, g2, g3⟩ := arr_cells hg5
  obtain ⟨d0, d1, d2, d3, d4, d5, df⟩ := RdrB.cells hp4
  have HP4 := Lib.hid hp4
  clear hg4 hg5 hp4 c0 c1 c2 c3 c4 c5
  go_wp2
  go_end0
  exact ⟨rfl, rdr_set6 HP4.out _ _ _ _ _ _, grown_set (grown_set (grown_set (grown_set (grown_set (grown_set (grown_below hb4) _ _) _ _) _ _) _ _) _ _) _ _⟩

set_option maxHeartbeats 800000 in
theorem drop_41 (p : Nat) (x0 x1 x2 x3 at_ : Int) (w : World) (hp : w.heap[p]? = some (RdrB x0 x1 x2 x3 4 at_)) (h0 : 0 ≤ at_) (h1 : at_ ≤ 4503599627370496) :
    Calls Try.prog 30 #[.pointer (some ⟨p, 0, none⟩), .int .i64 1] w fun e w' => e = .returned (.tuple #[]) ∧ w'.heap[p]? = some (RdrB x1 x2 x3 0 3 (at_ + 1)) ∧ w.grownBy w' (some p) := by
  have hlt := heap_lt hp
  have hne : ¬ p = w.heap.size := by omega
  obtain ⟨c0, c1, c2, c3, c4, c5, _⟩ := RdrB.cells hp
  have hcc : ∀ j v, ([Value.int .u8 x1, Value.int .u8 x2, Value.int .u8 x3] : List Value)[j]? = some v → w.cell? ⟨p, 1 + j, none⟩ = some v := by
    intro j v hj
    match j with
    | 0 => (obtain rfl : Value.int .u8 x1 = v := by simpa using hj); exact c1
    | 1 => (obtain rfl : Value.int .u8 x2 = v := by simpa using hj); exact c2
    | 2 => (obtain rfl : Value.int .u8 x3 = v := by simpa using hj); exact c3
    | k + 3 => simp at hj
  have HC := Lib.hid hcc
  have HP := Lib.hid hp
  clear hp hcc
  go_enter Try.func30, Try.ntmps30
  go_wp2
  have hg : (w.alloc (.cells #[.int .u8 0, .int .u8 0, .int .u8 0, .int .u8 0] 44)).heap[w.heap.size]? = some (.cells ([Value.int .u8 0, .int .u8 0, .int .u8 0, .int .u8 0] : List Value).toArray 44 (0, 0)) := heap_alloc_new w _
  have HG := Lib.hid hg
  clear hg
  go_region_law (refine step_copy_splice rfl (.tmp 5) (.tmp 14) 23 23 rfl 5 Try.underlying23 (by kernel_rfl) (some ⟨w.heap.size, 0, none⟩) (some ⟨p, 1, none⟩) _ _ _ _ rfl rfl w.heap.size 0 [Value.int .u8 0, .int .u8 0, .int .u8 0, .int .u8 0] 44 HG.out [Value.int .u8 x1, Value.int .u8 x2, Value.int .u8 x3] rfl (fun _ => ⟨rfl, _, rfl, copy_src (Below.heap_alloc w _ p (by omega)) HC.out⟩) (by simp) (by simp [Value.oneCell']) w.heap.size w ((Below.refl _ _).alloc (Nat.le_refl _) _).drew (Nat.le_refl _) ?_; intro w4 hg4 hb4)
  have hg5 : w4.heap[w.heap.size]? = some (.cells #[.int .u8 x1, .int .u8 x2, .int .u8 x3, .int .u8 0] 44 (0, 0)) := hg4.out
  have hp4 := (hb4.block p hlt).trans HP.out
  obtain ⟨g0, g1, g2, g3⟩ := arr_cells hg5
  obtain ⟨d0, d1, d2, d3, d4, d5, df⟩ := RdrB.cells hp4
  have HP4 := Lib.hid hp4
  clear hg4 hg5 hp4 c0 c1 c2 c3 c4 c5
  go_wp2
  go_end0
  exact ⟨rfl, rdr_set6 HP4.out _ _ _ _ _ _, grown_set (grown_set (grown_set (grown_set (grown_set (grown_set (grown_below hb4) _ _) _ _) _ _) _ _) _ _) _ _⟩

set_option maxHeartbeats 800000 in
theorem drop_42 (p : Nat) (x0 x1 x2 x3 at_ : Int) (w : World) (hp : w.heap[p]? = some (RdrB x0 x1 x2 x3 4 at_)) (h0 : 0 ≤ at_) (h1 : at_ ≤ 4503599627370496) :
    Calls Try.prog 30 #[.pointer (some ⟨p, 0, none⟩), .int .i64 2] w fun e w' => e = .returned (.tuple #[]) ∧ w'.heap[p]? = some (RdrB x2 x3 0 0 2 (at_ + 2)) ∧ w.grownBy w' (some p) := by
  have hlt := heap_lt hp
  have hne : ¬ p = w.heap.size := by omega
  obtain ⟨c0, c1, c2, c3, c4, c5, _⟩ := RdrB.cells hp
  have hcc : ∀ j v, ([Value.int .u8 x2, Value.int .u8 x3] : List Value)[j]? = some v → w.cell? ⟨p, 2 + j, none⟩ = some v := by
    intro j v hj
    match j with
    | 0 => (obtain rfl : Value.int .u8 x2 = v := by simpa using hj); exact c2
    | 1 => (obtain rfl : Value.int .u8 x3 = v := by simpa using hj); exact c3
    | k + 2 => simp at hj
  have HC := Lib.hid hcc
  have HP := Lib.hid hp
  clear hp hcc
  go_enter Try.func30, Try.ntmps30
  go_wp2
  have hg : (w.alloc (.cells #[.int .u8 0, .int .u8 0, .int .u8 0, .int .u8 0] 44)).heap[w.heap.size]? = some (.cells ([Value.int .u8 0, .int .u8 0, .int .u8 0, .int .u8 0] : List Value).toArray 44 (0, 0)) := heap_alloc_new w _
  have HG := Lib.hid hg
  clear hg
  go_region_law (refine step_copy_splice rfl (.tmp 5) (.tmp 14) 23 23 rfl 5 Try.underlying23 (by kernel_rfl) (some ⟨w.heap.size, 0, none⟩) (some ⟨p, 2, none⟩) _ _ _ _ rfl rfl w.heap.size 0 [Value.int .u8 0, .int .u8 0, .int .u8 0, .int .u8 0] 44 HG.out [Value.int .u8 x2, Value.int .u8 x3] rfl (fun _ => ⟨rfl, _, rfl, copy_src (Below.heap_alloc w _ p (by omega)) HC.out⟩) (by simp) (by simp [Value.oneCell']) w.heap.size w ((Below.refl _ _).alloc (Nat.le_refl _) _).drew (Nat.le_refl _) ?_; intro w4 hg4 hb4)
  have hg5 : w4.heap[w.heap.size]? = some (.cells #[.int .u8 x2, .int .u8 x3, .int .u8 0, .int .u8 0] 44 (0, 0)) := hg4.out
  have hp4 := (hb4.block p hlt).trans HP.out
  obtain ⟨g0, g1, g2, g3⟩ := arr_cells hg5
  obtain ⟨d0, d1, d2, d3, d4, d5, df⟩ := RdrB.cells hp4
  have HP4 := Lib.hid hp4
  clear hg4 hg5 hp4 c0 c1 c2 c3 c4 c5
  go_wp2
  go_end0
  exact ⟨rfl, rdr_set6 HP4.out _ _ _ _ _ _, grown_set (grown_set (grown_set (grown_set (grown_set (grown_set (grown_below hb4) _ _) _ _) _ _) _ _) _ _) _ _⟩

set_option maxHeartbeats 800000 in
theorem drop_43 (p : Nat) (x0 x1 x2 x3 at_ : Int) (w : World) (hp : w.heap[p]? = some (RdrB x0 x1 x2 x3 4 at_)) (h0 : 0 ≤ at_) (h1 : at_ ≤ 4503599627370496) :
    Calls Try.prog 30 #[.pointer (some ⟨p, 0, none⟩), .int .i64 3] w fun e w' => e = .returned (.tuple #[]) ∧ w'.heap[p]? = some (RdrB x3 0 0 0 1 (at_ + 3)) ∧ w.grownBy w' (some p) := by
  have hlt := heap_lt hp
  have hne : ¬ p = w.heap.size := by omega
  obtain ⟨c0, c1, c2, c3, c4, c5, _⟩ := RdrB.cells hp
  have hcc : ∀ j v, ([Value.int .u8 x3] : List Value)[j]? = some v → w.cell? ⟨p, 3 + j, none⟩ = some v := by
    intro j v hj
    match j with
    | 0 => (obtain rfl : Value.int .u8 x3 = v := by simpa using hj); exact c3
    | k + 1 => simp at hj
  have HC := Lib.hid hcc
  have HP := Lib.hid hp
  clear hp hcc
  go_enter Try.func30, Try.ntmps30
  go_wp2
  have hg : (w.alloc (.cells #[.int .u8 0, .int .u8 0, .int .u8 0, .int .u8 0] 44)).heap[w.heap.size]? = some (.cells ([Value.int .u8 0, .int .u8 0, .int .u8 0, .int .u8 0] : List Value).toArray 44 (0, 0)) := heap_alloc_new w _
  have HG := Lib.hid hg
  clear hg
  go_region_law (refine step_copy_splice rfl (.tmp 5) (.tmp 14) 23 23 rfl 5 Try.underlying23 (by kernel_rfl) (some ⟨w.heap.size, 0, none⟩) (some ⟨p, 3, none⟩) _ _ _ _ rfl rfl w.heap.size 0 [Value.int .u8 0, .int .u8 0, .int .u8 0, .int .u8 0] 44 HG.out [Value.int .u8 x3] rfl (fun _ => ⟨rfl, _, rfl, copy_src (Below.heap_alloc w _ p (by omega)) HC.out⟩) (by simp) (by simp [Value.oneCell']) w.heap.size w ((Below.refl _ _).alloc (Nat.le_refl _) _).drew (Nat.le_refl _) ?_; intro w4 hg4 hb4)
  have hg5 : w4.heap[w.heap.size]? = some (.cells #[.int .u8 x3, .int .u8 0, .int .u8 0, .int .u8 0] 44 (0, 0)) := hg4.out
  have hp4 := (hb4.block p hlt).trans HP.out
  obtain ⟨g0, g1, g2, g3⟩ := arr_cells hg5
  obtain ⟨d0, d1, d2, d3, d4, d5, df⟩ := RdrB.cells hp4
  have HP4 := Lib.hid hp4
  clear hg4 hg5 hp4 c0 c1 c2 c3 c4 c5
  go_wp2
  go_end0
  exact ⟨rfl, rdr_set6 HP4.out _ _ _ _ _ _, grown_set (grown_set (grown_set (grown_set (grown_set (grown_set (grown_below hb4) _ _) _ _) _ _) _ _) _ _) _ _⟩

set_option maxHeartbeats 800000 in
theorem drop_44 (p : Nat) (x0 x1 x2 x3 at_ : Int) (w : World) (hp : w.heap[p]? = some (RdrB x0 x1 x2 x3 4 at_)) (h0 : 0 ≤ at_) (h1 : at_ ≤ 4503599627370496) :
    Calls Try.prog 30 #[.pointer (some ⟨p, 0, none⟩), .int .i64 4] w fun e w' => e = .returned (.tuple #[]) ∧ w'.heap[p]? = some (RdrB 0 0 0 0 0 (at_ + 4)) ∧ w.grownBy w' (some p) := by
  have hlt := heap_lt hp
  have hne : ¬ p = w.heap.size := by omega
  obtain ⟨c0, c1, c2, c3, c4, c5, _⟩ := RdrB.cells hp
  have hcc : ∀ j v, (([] : List Value) : List Value)[j]? = some v → w.cell? ⟨p, 0 + j, none⟩ = some v := by
    intro j v hj
    simp at hj
  have HC := Lib.hid hcc
  have HP := Lib.hid hp
  clear hp hcc
  go_enter Try.func30, Try.ntmps30
  go_wp2
  have hg : (w.alloc (.cells #[.int .u8 0, .int .u8 0, .int .u8 0, .int .u8 0] 44)).heap[w.heap.size]? = some (.cells ([Value.int .u8 0, .int .u8 0, .int .u8 0, .int .u8 0] : List Value).toArray 44 (0, 0)) := heap_alloc_new w _
  have HG := Lib.hid hg
  clear hg
  go_region_law (refine step_copy_splice rfl (.tmp 5) (.tmp 14) 23 23 rfl 5 Try.underlying23 (by kernel_rfl) (some ⟨w.heap.size, 0, none⟩) (some ⟨p, 0, none⟩) _ _ _ _ rfl rfl w.heap.size 0 [Value.int .u8 0, .int .u8 0, .int .u8 0, .int .u8 0] 44 HG.out ([] : List Value) rfl (fun _ => ⟨rfl, _, rfl, copy_src (Below.heap_alloc w _ p (by omega)) HC.out⟩) (by simp) (by simp [Value.oneCell']) w.heap.size w ((Below.refl _ _).alloc (Nat.le_refl _) _).drew (Nat.le_refl _) ?_; intro w4 hg4 hb4)
  have hg5 : w4.heap[w.heap.size]? = some (.cells #[.int .u8 0, .int .u8 0, .int .u8 0, .int .u8 0] 44 (0, 0)) := hg4.out
  have hp4 := (hb4.block p hlt).trans HP.out
  obtain ⟨g0, g1, g2, g3⟩ := arr_cells hg5
  obtain ⟨d0, d1, d2, d3, d4, d5, df⟩ := RdrB.cells hp4
  have HP4 := Lib.hid hp4
  clear hg4 hg5 hp4 c0 c1 c2 c3 c4 c5
  go_wp2
  go_end0
  exact ⟨rfl, rdr_set6 HP4.out _ _ _ _ _ _, grown_set (grown_set (grown_set (grown_set (grown_set (grown_set (grown_below hb4) _ _) _ _) _ _) _ _) _ _) _ _⟩

/-- a reader: its waiting bytes, and where they begin -/
def RdrAt (w : World) (p : Nat) (q : List Int) (at_ : Int) : Prop := ∃ x0 x1 x2 x3, w.heap[p]? = some (RdrB x0 x1 x2 x3 q.length at_) ∧ [x0, x1, x2, x3].take q.length = q

theorem RdrAt.of {w : World} {p : Nat} {q : List Int} {x0 x1 x2 x3 h at_ at' : Int} (hp : w.heap[p]? = some (RdrB x0 x1 x2 x3 h at_)) (hh : h = q.length) (ha : at_ = at') (hq : [x0, x1, x2, x3].take q.length = q) : RdrAt w p q at' := by
  subst hh ha; exact ⟨x0, x1, x2, x3, hp, hq⟩

theorem drop_any (p : Nat) (q : List Int) (at_ : Int) (n : Nat) (w : World) (hp : RdrAt w p q at_) (hq : 1 ≤ q.length) (hq4 : q.length ≤ 4) (hn : n ≤ q.length) (h0 : 0 ≤ at_) (h1 : at_ ≤ 4503599627370496) :
    Calls Try.prog 30 #[.pointer (some ⟨p, 0, none⟩), .int .i64 n] w fun e w' => e = .returned (.tuple #[]) ∧ RdrAt w' p (q.drop n) (at_ + n) ∧ w.grownBy w' (some p) := by
  obtain ⟨x0, x1, x2, x3, hb, hx⟩ := hp
  obtain ⟨h, hh⟩ : ∃ h, q.length = h := ⟨_, rfl⟩
  rw [hh] at hb hx hq hq4 hn
  rw [← hx]
  clear hx hh q
  by_cases e1 : h = 1
  · subst e1
    by_cases k0 : n = 0
    · subst k0; exact (drop_10 p x0 x1 x2 x3 at_ w hb h0 h1).mono fun e w' ⟨a, b, c⟩ => ⟨a, RdrAt.of b rfl (by simp) rfl, c⟩
    by_cases k1 : n = 1
    · subst k1; exact (drop_11 p x0 x1 x2 x3 at_ w hb h0 h1).mono fun e w' ⟨a, b, c⟩ => ⟨a, RdrAt.of b rfl (by simp) rfl, c⟩
    omega
  by_cases e2 : h = 2
  · subst e2
    by_cases k0 : n = 0
    · subst k0; exact (drop_20 p x0 x1 x2 x3 at_ w hb h0 h1).mono fun e w' ⟨a, b, c⟩ => ⟨a, RdrAt.of b rfl (by simp) rfl, c⟩
    by_cases k1 : n = 1
    · subst k1; exact (drop_21 p x0 x1 x2 x3 at_ w hb h0 h1).mono fun e w' ⟨a, b, c⟩ => ⟨a, RdrAt.of b rfl (by simp) rfl, c⟩
    by_cases k2 : n = 2
    · subst k2; exact (drop_22 p x0 x1 x2 x3 at_ w hb h0 h1).mono fun e w' ⟨a, b, c⟩ => ⟨a, RdrAt.of b rfl (by simp) rfl, c⟩
    omega
  by_cases e3 : h = 3
  · subst e3
    by_cases k0 : n = 0
    · subst k0; exact (drop_30 p x0 x1 x2 x3 at_ w hb h0 h1).mono fun e w' ⟨a, b, c⟩ => ⟨a, RdrAt.of b rfl (by simp) rfl, c⟩
    by_cases k1 : n = 1
    · subst k1; exact (drop_31 p x0 x1 x2 x3 at_ w hb h0 h1).mono fun e w' ⟨a, b, c⟩ => ⟨a, RdrAt.of b rfl (by simp) rfl, c⟩
    by_cases k2 : n = 2
    · subst k2; exact (drop_32 p x0 x1 x2 x3 at_ w hb h0 h1).mono fun e w' ⟨a, b, c⟩ => ⟨a, RdrAt.of b rfl (by simp) rfl, c⟩
    by_cases k3 : n = 3
    · subst k3; exact (drop_33 p x0 x1 x2 x3 at_ w hb h0 h1).mono fun e w' ⟨a, b, c⟩ => ⟨a, RdrAt.of b rfl (by simp) rfl, c⟩
    omega
  by_cases e4 : h = 4
  · subst e4
    by_cases k0 : n = 0
    · subst k0; exact (drop_40 p x0 x1 x2 x3 at_ w hb h0 h1).mono fun e w' ⟨a, b, c⟩ => ⟨a, RdrAt.of b rfl (by simp) rfl, c⟩
    by_cases k1 : n = 1
    · subst k1; exact (drop_41 p x0 x1 x2 x3 at_ w hb h0 h1).mono fun e w' ⟨a, b, c⟩ => ⟨a, RdrAt.of b rfl (by simp) rfl, c⟩
    by_cases k2 : n = 2
    · subst k2; exact (drop_42 p x0 x1 x2 x3 at_ w hb h0 h1).mono fun e w' ⟨a, b, c⟩ => ⟨a, RdrAt.of b rfl (by simp) rfl, c⟩
    by_cases k3 : n = 3
    · subst k3; exact (drop_43 p x0 x1 x2 x3 at_ w hb h0 h1).mono fun e w' ⟨a, b, c⟩ => ⟨a, RdrAt.of b rfl (by simp) rfl, c⟩
    by_cases k4 : n = 4
    · subst k4; exact (drop_44 p x0 x1 x2 x3 at_ w hb h0 h1).mono fun e w' ⟨a, b, c⟩ => ⟨a, RdrAt.of b rfl (by simp) rfl, c⟩
    omega
  omega
end Go.Proofs.Ytbigbkplhlmbmaa
