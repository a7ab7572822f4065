/- A block that is just these cells; what a store of a float does. -/
import Derived.Test.YthgomhmalmmhlaaDoorProg
import Derived.Test.YthgomhmalmmhlaaDoorMixe
namespace Go.Proofs.YthgomhmalmmhlaaDoor
set_option linter.unusedVariables false
set_option linter.unusedSimpArgs false
set_option linter.unnecessarySimpa false
open Go.RowKit

/-- block B is just these cells -/
def Held (W : World) (B : Nat) (cs : Array Value) (t : TypeId) : Prop := W.heap[B]? = some (.cells cs t (0, 0))
theorem Held.lt {W : World} {B : Nat} {cs : Array Value} {t : TypeId} (h : Held W B cs t) : B < W.heap.size := (Array.getElem?_eq_some_iff.1 h).1
theorem Held.new (W : World) (cs : Array Value) (t : TypeId) : Held (W.alloc (.cells cs t)) W.heap.size cs t := heap_alloc_new W _
theorem Held.kept {W W' : World} {row : Option Nat} {B : Nat} {cs : Array Value} {t : TypeId} (h : Held W B cs t) (hg : W.grownBy W' row) (hne : some B ≠ row) : Held W' B cs t := (hg.block B h.lt hne).trans h
theorem Held.below {W W' : World} {B n : Nat} {cs : Array Value} {t : TypeId} (h : Held W B cs t) (hb : Below n W W') (hn : B < n) : Held W' B cs t := (hb.block B hn).trans h
theorem Held.alloc {W : World} {B : Nat} {cs : Array Value} {t : TypeId} (h : Held W B cs t) (o : Obj) : Held (W.alloc o) B cs t := h.kept (World.grownBy_alloc W o none) (by simp)
theorem Held.cell {W : World} {B : Nat} {cs : Array Value} {t : TypeId} (h : Held W B cs t) (j : Nat) : W.cell? ⟨B, j, none⟩ = cs[j]? := cell_of_row W B j cs t _ h
theorem Held.other {W : World} {B B' : Nat} {cs : Array Value} {t : TypeId} (h : Held W B cs t) (hne : B ≠ B') (u : Value) : Held (W.setCell ⟨B', 0, none⟩ u) B cs t := (Below.heap_setCell W ⟨B', 0, none⟩ u B hne).trans h
theorem Held.set2 {W : World} {B : Nat} {x y : Value} {t : TypeId} (h : Held W B #[x, y] t) (a b : Value) : Held ((W.setCell ⟨B, 0, none⟩ a).setCell ⟨B, 1, none⟩ b) B #[a, b] t := by
  obtain ⟨hlt, hk⟩ := Array.getElem?_eq_some_iff.1 h
  unfold Held World.setCell
  simp only [Array.getElem?_modify, if_true]
  rw [Array.getElem?_eq_getElem hlt, hk]
  rfl
theorem Held.otherK {W : World} {B : Nat} {cs : Array Value} {t : TypeId} (h : Held W B cs t) {p : Addr} (hne : B ≠ p.block) (u : Value) : Held (W.setCell p u) B cs t :=
  (Below.heap_setCell W p u B hne).trans h
theorem grownBy_setCellK (W : World) (p : Addr) (v : Value) : W.grownBy (W.setCell p v) (some p.block) :=
  ⟨rfl, rfl, rfl, by simp [World.setCell], fun k _ hk => Below.heap_setCell _ _ _ k (fun e => hk (by rw [e]))⟩
theorem Held.frozen {W : World} {B : Nat} {cs : Array Value} {t : TypeId} (h : Held W B cs t) (j : Nat) : W.frozen? ⟨B, j, none⟩ = false := by simp [World.frozen?, show W.heap[B]? = _ from h]

theorem run_store_float (P : Program) (w : World) (a : Addr) (m : Mode) (k : FloatKind) (b : Nat) : (store a (.float k b) m).run P w = stored P w a (.float k b) m := run_store P w a _ m rfl
theorem run_store_complex (P : Program) (w : World) (a : Addr) (m : Mode) (k : FloatKind) (x y : Nat) : (store a (.complex k x y) m).run P w = stored P w a (.complex k x y) m := run_store P w a _ m rfl
theorem below_dN (w : World) (m : Nat) : Below w.heap.size w (w.drewN m) := ⟨rfl, rfl, rfl, Nat.le_refl _, fun _ _ => rfl⟩
theorem below_setRow {B g : Nat} {w0 w : World} (hb : Below B w0 w) (hBg : B ≤ g) (cs : Array Value) : Below B w0 (w.setRow g cs) :=
  ⟨hb.os, hb.tape, hb.output, by rw [setRow_size]; exact hb.size, fun k hk => (setRow_other w g k cs (by omega)).trans (hb.block k hk)⟩
end Go.Proofs.YthgomhmalmmhlaaDoor
