/- Layer 6: how a Match lies; Of, Held, Steps, look, drop. -/
import Derived.Test.YtmjcnopkckkaoaaRewA
import Derived.Test.YtmjcnopkckkaoaaMatchP
import Derived.RegionTactic
import Derived.ChangeAlike
import Derived.Deep.RegionLaw
import Derived.Laws.CopyOwn
import Derived.Lib.SliceRun
namespace Go.Proofs.Ytmjcnopkckkaoaa
set_option linter.unusedVariables false
open Go.RowKit
/-- a Match's block: its trie, its units, how many wait, where these begin, its steps -/
def MatB (T : Nat) (xs : List Int) (h at_ st : Int) : Obj := .cells (Value.pointer (some ⟨T, 0, none⟩) :: (xs.map (Value.int .i64) ++ [.int .i64 h, .int .i64 at_, .int .i64 st])).toArray 67 (0, 0)
/-- at block p lies a Match of the trie at block T: q waits -/
def MAt (w : World) (p T : Nat) (q : List Int) (at_ st : Int) : Prop := ∃ xs : List Int, xs.length = 8 ∧ w.heap[p]? = some (MatB T xs q.length at_ st) ∧ xs.take q.length = q
theorem MAt.lt {w : World} {p T : Nat} {q : List Int} {at_ st : Int} (h : MAt w p T q at_ st) : p < w.heap.size := by
  obtain ⟨xs, _, h1, _⟩ := h; exact heap_lt0 h1
theorem MAt.le8 {w : World} {p T : Nat} {q : List Int} {at_ st : Int} (h : MAt w p T q at_ st) : q.length ≤ 8 := by
  obtain ⟨xs, h0, h1, h2⟩ := h; rw [← h2]; simp; omega
theorem MAt.of_block {w w' : World} {p T : Nat} {q : List Int} {at_ st : Int} (h : MAt w p T q at_ st) (hb : w'.heap[p]? = w.heap[p]?) : MAt w' p T q at_ st := by
  obtain ⟨xs, h0, h1, h2⟩ := h; exact ⟨xs, h0, hb.trans h1, h2⟩
theorem MAt.below {w w' : World} {B p T : Nat} {q : List Int} {at_ st : Int} (h : MAt w p T q at_ st) (hb : Below B w w') (hB : p < B) : MAt w' p T q at_ st := h.of_block (hb.block p hB)
theorem MAt.drew {w : World} {p T : Nat} {q : List Int} {at_ st : Int} (h : MAt w p T q at_ st) : MAt w.drew p T q at_ st := h
theorem matb_get (T : Nat) (xs : List Int) (h at_ st : Int) (hx : xs.length = 8) {w : World} {p : Nat} (hp : w.heap[p]? = some (MatB T xs h at_ st)) :
    w.cell? ⟨p, 0, none⟩ = some (.pointer (some ⟨T, 0, none⟩)) ∧ w.cell? ⟨p, 9, none⟩ = some (.int .i64 h) ∧ w.cell? ⟨p, 10, none⟩ = some (.int .i64 at_) ∧ w.cell? ⟨p, 11, none⟩ = some (.int .i64 st) ∧
    (∀ o, w.frozen? ⟨p, o, none⟩ = false) ∧ ∀ j, j < 8 → w.cell? ⟨p, 1 + j, none⟩ = (xs.map (Value.int .i64))[j]? := by
  match xs, hx with
  | [x0, x1, x2, x3, x4, x5, x6, x7], _ =>
    refine ⟨?_, ?_, ?_, ?_, fun o => frozen_of_row _ _ _ _ _ hp, fun j hj => ?_⟩ <;> rw [cell_of_row _ _ _ _ _ _ hp]
    · rfl
    · rfl
    · rfl
    · rfl
    · have : j = 0 ∨ j = 1 ∨ j = 2 ∨ j = 3 ∨ j = 4 ∨ j = 5 ∨ j = 6 ∨ j = 7 := by omega
      rcases this with rfl | rfl | rfl | rfl | rfl | rfl | rfl | rfl <;> rfl
theorem MAt.cells {w : World} {p T : Nat} {q : List Int} {at_ st : Int} (h : MAt w p T q at_ st) : w.cell? ⟨p, 0, none⟩ = some (.pointer (some ⟨T, 0, none⟩)) ∧ w.cell? ⟨p, 9, none⟩ = some (.int .i64 q.length) ∧ w.cell? ⟨p, 10, none⟩ = some (.int .i64 at_) ∧ w.cell? ⟨p, 11, none⟩ = some (.int .i64 st) ∧
    (∀ o, w.frozen? ⟨p, o, none⟩ = false) ∧ ∀ j, j < 8 → ∃ x, w.cell? ⟨p, 1 + j, none⟩ = some (.int .i64 x) := by
  obtain ⟨xs, h0, h1, h2⟩ := h
  obtain ⟨a, b, c, d, e, f⟩ := matb_get T xs _ _ _ h0 h1
  refine ⟨a, b, c, d, e, fun j hj => ⟨xs[j], ?_⟩⟩
  rw [f j hj, List.getElem?_map, List.getElem?_eq_getElem (by omega)]; rfl
/-- the units that wait lie in it -/
theorem MAt.rd {w : World} {p T : Nat} {q : List Int} {at_ st : Int} (h : MAt w p T q at_ st) {B : Nat} (hB : p < B) : Rd w B (some ⟨p, 1, none⟩) (q.map (Value.int .i64)) := by
  have h8 := h.le8
  obtain ⟨xs, h0, h1, h2⟩ := h
  obtain ⟨_, _, _, _, _, f⟩ := matb_get T xs _ _ _ h0 h1
  refine .inr ⟨p, 1, rfl, hB, fun j hj => ?_⟩
  rw [List.length_map] at hj
  rw [f j (by omega), List.getElem?_map, List.getElem?_map]
  conv => rhs; rw [← h2]
  rw [List.getElem?_take, if_pos hj]
/-- numbers of a Match's block set anew -/
theorem matb_set (T : Nat) (xs : List Int) (h at_ st : Int) (hx : xs.length = 8) {w : World} {p : Nat} (hp : w.heap[p]? = some (MatB T xs h at_ st)) (x : Int) :
    (w.setCell ⟨p, 9, none⟩ (.int .i64 x)).heap[p]? = some (MatB T xs x at_ st) ∧ (w.setCell ⟨p, 10, none⟩ (.int .i64 x)).heap[p]? = some (MatB T xs h x st) ∧ (w.setCell ⟨p, 11, none⟩ (.int .i64 x)).heap[p]? = some (MatB T xs h at_ x) ∧
    ∀ j, j < 8 → (w.setCell ⟨p, 1 + j, none⟩ (.int .i64 x)).heap[p]? = some (MatB T (xs.set j x) h at_ st) := by
  match xs, hx with
  | [x0, x1, x2, x3, x4, x5, x6, x7], _ =>
    refine ⟨heap_setCell_same w p 9 _ _ _ hp, heap_setCell_same w p 10 _ _ _ hp, heap_setCell_same w p 11 _ _ _ hp, fun j hj => ?_⟩
    have : j = 0 ∨ j = 1 ∨ j = 2 ∨ j = 3 ∨ j = 4 ∨ j = 5 ∨ j = 6 ∨ j = 7 := by omega
    rcases this with rfl | rfl | rfl | rfl | rfl | rfl | rfl | rfl <;> exact heap_setCell_same w p _ _ _ _ hp
theorem grownR (w : World) (r : Option Nat) : w.grownBy w r := World.grownBy.refl w r
theorem grown_set {w w' : World} {p : Nat} (h : w.grownBy w' (some p)) (j : Nat) (u : Value) : w.grownBy (w'.setCell ⟨p, j, none⟩ u) (some p) :=
  grown_seq h ⟨rfl, rfl, rfl, by simp, fun k _ hk => heap_setCell_other w' ⟨p, j, none⟩ k u (fun e => hk (by simp [e]))⟩
theorem grown_drew {w w' : World} {p : Option Nat} (h : w.grownBy w' p) : w.grownBy w'.drew p := ⟨h.os, h.tape, h.output, h.size, h.block⟩
theorem grown_below {w w' : World} {p : Option Nat} (h : Below w.heap.size w w') : w.grownBy w' p := ⟨h.os, h.tape, h.output, h.size, fun k hk _ => h.block k hk⟩
theorem below_grownP {B p : Nat} {w0 w w' : World} (h : Below B w0 w) (hg : w.grownBy w' (some p)) (hp : B ≤ p) (hB : B ≤ w.heap.size) : Below B w0 w' :=
  ⟨hg.os.trans h.os, hg.tape.trans h.tape, hg.output.trans h.output, Nat.le_trans h.size hg.size, fun k hk => (hg.block k (by omega) (fun e => by injection e with e; omega)).trans (h.block k hk)⟩

section
variable {P : Program} {ops : Array Oper} {o : Oper} {a : Act} {w : World} {K : Act → World → Prop} {Q : Exit → Act → World → Prop} {E : Prop}
/-- copy into a row: what is known of its block behind it -/
theorem step_copyG (hgd : o.guard = none) (d s : Operand) (dT sT : TypeId)
    (ho : o.op = .call { callee := .builtin .copy, args := #[d, s], argTypes := #[dT, sT] }) (elem : TypeId) (hu : P.underlying dT = some (.slice elem)) (hsz : (P.info? elem).map (·.size) = some 1)
    (dp sp : Option Addr) (dLen dCap sLen sCap : Nat) (hd : a.eval d = .slice dp dLen dCap) (hs : a.eval s = .slice sp sLen sCap)
    (g off : Nat) (cur : List Value) (t : TypeId) (hg : w.heap[g]? = some (.cells cur.toArray t (0, 0))) (cs : List Value) (hn : cs.length = Nat.min sLen dLen)
    (hpos : 0 < cs.length → dp = some ⟨g, off, none⟩ ∧ ∃ ad, sp = some ad ∧ ∀ j v, cs[j]? = some v → w.cell? (ad.add j) = some v)
    (hfit : off + cs.length ≤ cur.length) (h1 : ∀ v ∈ cs, v.oneCell' = true)
    (h : ∀ w', Hid (w'.heap[g]? = some (.cells (lays cur off cs).toArray t (0, 0))) → Hid (w.grownBy w' (some g)) → K (a.put o.dst (goInt cs.length)) w') :
    if Region.wanted o (yielded ops a.tmps) = true then Oper.wp P o a w K Q else E := by
  have hw : Region.wanted o (yielded ops a.tmps) = true := by simp [Region.wanted, hgd]
  rw [if_pos hw]
  by_cases h0 : cs.length = 0
  · obtain rfl : cs = [] := List.eq_nil_of_length_eq_zero h0
    have hrun := run_copy_none (P := P) w dT sT o.type elem dp sp dLen dCap sLen sCap hu hsz (by simpa using hn.symm)
    unfold Oper.wp
    simp [execOp, ho, resolve, invoke, builtin, hd, hs, hrun, Result.andThen]
    exact h w (show _ = _ by simpa [lays] using hg) (grownR w _)
  · obtain ⟨rfl, ad, rfl, hsrc⟩ := hpos (by omega)
    have hrun := run_copy_row (P := P) w dT sT o.type elem g off dLen dCap ad sLen sCap cur.toArray t cs hu hsz hg hn hsrc (by simpa using hfit) h1
    unfold Oper.wp
    simp [execOp, ho, resolve, invoke, builtin, hd, hs, hrun, Result.andThen]
    exact h _ (show _ = _ by simpa [lays] using setRow_heap w g _ _ t _ hg) ⟨rfl, rfl, rfl, by simp, fun k _ hk => setRow_other w g k _ (fun e => hk (by simp [e]))⟩
theorem run_clear_row (w : World) (t e ty : TypeId) (z : Value) (ht : P.underlying t = some (.slice e)) (hv : ∀ w, (zeroValue e).run P w = .ok z w) (hz : z.cells = #[z]) (h1 : z.oneCell' = true) (g off n c : Nat) (cur : List Value) (tt : TypeId) (hg : w.heap[g]? = some (.cells cur.toArray tt (0, 0))) (hn : 0 < n) (hfit : off + n ≤ cur.length) :
    (Builtin.clear_ #[t] ty #[.slice (some ⟨g, off, none⟩) n c]).run P w = .ok (.tuple #[]) (w.setRow g (lays cur off (List.replicate n z)).toArray) := by
  have hzc : (Builtin.zeroCells z.cells n).toList = List.replicate n z := by
    rw [hz]
    simp [Builtin.zeroCells]
    apply List.ext_getElem
    · simp
    · intro i h1 h2
      simp [Nat.mod_one]
  have hst := run_storeCells_at P g off tt (List.replicate n z) 0 cur.toArray w hg (by simpa using hfit) (by intro v hv'; rw [List.eq_of_mem_replicate hv']; exact h1)
  simp only [Nat.add_zero] at hst
  obtain ⟨m, rfl⟩ : ∃ m, n = m + 1 := ⟨n - 1, by omega⟩
  simp [Builtin.clear_, run_underlying ht, hv, hzc, hst, lays]
/-- clear of a part of a row -/
theorem step_clearG (hgd : o.guard = none) (d : Operand) (dT : TypeId)
    (ho : o.op = .call { callee := .builtin .clear, args := #[d], argTypes := #[dT] }) (elem : TypeId) (z : Value) (hu : P.underlying dT = some (.slice elem)) (hv : ∀ w, (zeroValue elem).run P w = .ok z w) (hz : z.cells = #[z]) (h1 : z.oneCell' = true)
    (g off n c : Nat) (hd : a.eval d = .slice (some ⟨g, off, none⟩) n c) (cur : List Value) (t : TypeId) (hg : w.heap[g]? = some (.cells cur.toArray t (0, 0))) (hn : 0 < n) (hfit : off + n ≤ cur.length)
    (h : ∀ w', Hid (w'.heap[g]? = some (.cells (lays cur off (List.replicate n z)).toArray t (0, 0))) → Hid (w.grownBy w' (some g)) → K (a.put o.dst (.tuple #[])) w') :
    if Region.wanted o (yielded ops a.tmps) = true then Oper.wp P o a w K Q else E := by
  have hw : Region.wanted o (yielded ops a.tmps) = true := by simp [Region.wanted, hgd]
  rw [if_pos hw]
  have hrun := run_clear_row (P := P) w dT elem o.type z hu hv hz h1 g off n c cur t hg hn hfit
  unfold Oper.wp
  simp [execOp, ho, resolve, invoke, builtin, hd, hrun, Result.andThen]
  exact h _ (show _ = _ by simpa using setRow_heap w g _ _ t _ hg) ⟨rfl, rfl, rfl, by simp, fun k _ hk => setRow_other w g k _ (fun e => hk (by simp [e]))⟩
end

theorem matNew (w : World) (T : Nat) : MAt (w.alloc (MatB T [0, 0, 0, 0, 0, 0, 0, 0] 0 0 0)) w.heap.size T [] 0 0 := ⟨_, rfl, heap_alloc_new w _, rfl⟩
theorem mof_any (w : World) (T : Nat) :
    Calls Try.prog 12 #[.pointer (some ⟨T, 0, none⟩)] w fun e w' => ∃ p, e = .returned (.pointer (some ⟨p, 0, none⟩)) ∧ w.heap.size ≤ p ∧ MAt w' p T [] 0 0 ∧ Below w.heap.size w w' := by
  have hm := matNew w T
  have hb := (Below.refl w.heap.size w).alloc (Nat.le_refl _) (MatB T [0, 0, 0, 0, 0, 0, 0, 0] 0 0 0)
  have HM := Lib.hid hm
  have HB := Lib.hid hb
  clear hm hb
  go_enter Try.func12, Try.ntmps12
  go_wp2
  go_ret
  exact ⟨w.heap.size, rfl, Nat.le_refl _, HM.out, HB.out⟩
theorem mheld_any (w : World) (p T : Nat) (q : List Int) (at_ st : Int) (hp : MAt w p T q at_ st) (L : Nat) (hL : q.length = L) :
    Calls Try.prog 17 #[.pointer (some ⟨p, 0, none⟩)] w fun e w' => e = .returned (.int .i64 L) ∧ w = w' := by
  obtain ⟨_, c9, _⟩ := hp.cells
  rw [hL] at c9
  clear hp hL
  go_enter Try.func17, Try.ntmps17
  go_wp2
  go_ret
  exact ⟨rfl, rfl⟩
theorem msteps_any (w : World) (p T : Nat) (q : List Int) (at_ st : Int) (hp : MAt w p T q at_ st) :
    Calls Try.prog 19 #[.pointer (some ⟨p, 0, none⟩)] w fun e w' => e = .returned (.int .i64 st) ∧ w = w' := by
  obtain ⟨_, _, _, c11, _⟩ := hp.cells
  clear hp
  go_enter Try.func19, Try.ntmps19
  go_wp2
  go_ret
  exact ⟨rfl, rfl⟩
end Go.Proofs.Ytmjcnopkckkaoaa
