/- Texts of this seat, one behind the other: MatA, MatD, MatT, MatU, MatK. -/
import Derived.Test.YtncpokioagpclaaGreatDoorZ29
import Derived.Test.YtncpokioagpclaaGreatDoorZ4
import Derived.RegionTactic
import Derived.ChangeAlike
import Derived.Deep.RegionLaw
import Derived.Laws.CopyOwn
import Derived.Lib.SliceRun
namespace Go.Proofs.YtncpokioagpclaaGreatDoor
set_option linter.unusedVariables false
open Go.RowKit
/-- a block whose first part is a Match: its trie, its units, how many wait, where these begin, its steps; and then whatever else -/
def MatBR (R : List Value) (ty : TypeId) (T : Nat) (xs : List Int) (h at_ st : Int) : Obj := .cells (Value.pointer (some ⟨T, 0, none⟩) :: (xs.map (Value.int .i64) ++ ([.int .i64 h, .int .i64 at_, .int .i64 st] ++ R))).toArray ty (0, 0)
abbrev MatB (T : Nat) (xs : List Int) (h at_ st : Int) : Obj := MatBR [] 185 T xs h at_ st
/-- at the head of block p lies a Match of the trie at block T: q waits -/
def MAtR (R : List Value) (ty : TypeId) (w : World) (p T : Nat) (q : List Int) (at_ st : Int) : Prop := ∃ xs : List Int, xs.length = 8 ∧ w.heap[p]? = some (MatBR R ty T xs q.length at_ st) ∧ xs.take q.length = q
/-- block p is a Match -/
abbrev MAt (w : World) (p T : Nat) (q : List Int) (at_ st : Int) : Prop := MAtR [] 185 w p T q at_ st
section
variable {R : List Value} {ty : TypeId}
theorem MAtR.lt {w : World} {p T : Nat} {q : List Int} {at_ st : Int} (h : MAtR R ty w p T q at_ st) : p < w.heap.size := by
  obtain ⟨xs, _, h1, _⟩ := h; exact heap_lt0 h1
theorem MAtR.le8 {w : World} {p T : Nat} {q : List Int} {at_ st : Int} (h : MAtR R ty w p T q at_ st) : q.length ≤ 8 := by
  obtain ⟨xs, h0, h1, h2⟩ := h; rw [← h2]; simp; omega
theorem MAtR.of_block {w w' : World} {p T : Nat} {q : List Int} {at_ st : Int} (h : MAtR R ty w p T q at_ st) (hb : w'.heap[p]? = w.heap[p]?) : MAtR R ty w' p T q at_ st := by
  obtain ⟨xs, h0, h1, h2⟩ := h; exact ⟨xs, h0, hb.trans h1, h2⟩
theorem MAtR.below {w w' : World} {B p T : Nat} {q : List Int} {at_ st : Int} (h : MAtR R ty w p T q at_ st) (hb : Below B w w') (hB : p < B) : MAtR R ty w' p T q at_ st := h.of_block (hb.block p hB)
theorem matb_get (T : Nat) (xs : List Int) (h at_ st : Int) (hx : xs.length = 8) {w : World} {p : Nat} (hp : w.heap[p]? = some (MatBR R ty T xs h at_ st)) :
    w.cell? ⟨p, 0, none⟩ = some (.pointer (some ⟨T, 0, none⟩)) ∧ w.cell? ⟨p, 9, none⟩ = some (.int .i64 h) ∧ w.cell? ⟨p, 10, none⟩ = some (.int .i64 at_) ∧ w.cell? ⟨p, 11, none⟩ = some (.int .i64 st) ∧
    (∀ o, w.frozen? ⟨p, o, none⟩ = false) ∧ ∀ j, j < 8 → w.cell? ⟨p, 1 + j, none⟩ = (xs.map (Value.int .i64))[j]? := by
  match xs, hx with
  | [x0, x1, x2, x3, x4, x5, x6, x7], _ =>
    refine ⟨?_, ?_, ?_, ?_, fun o => frozen_of_row _ _ _ _ _ hp, fun j hj => ?_⟩ <;> rw [cell_of_row _ _ _ _ _ _ hp, List.getElem?_toArray]
    · rfl
    · rfl
    · rfl
    · rfl
    · have : j = 0 ∨ j = 1 ∨ j = 2 ∨ j = 3 ∨ j = 4 ∨ j = 5 ∨ j = 6 ∨ j = 7 := by omega
      rcases this with rfl | rfl | rfl | rfl | rfl | rfl | rfl | rfl <;> rfl
/-- what lies behind the Match -/
theorem matb_tail (T : Nat) (xs : List Int) (h at_ st : Int) (hx : xs.length = 8) {w : World} {p : Nat} (hp : w.heap[p]? = some (MatBR R ty T xs h at_ st)) (k : Nat) : w.cell? ⟨p, 12 + k, none⟩ = R[k]? := by
  match xs, hx with
  | [x0, x1, x2, x3, x4, x5, x6, x7], _ =>
    rw [cell_of_row _ _ _ _ _ _ hp, List.getElem?_toArray, Nat.add_comm 12 k]; rfl
theorem MAtR.tail {w : World} {p T : Nat} {q : List Int} {at_ st : Int} (h : MAtR R ty w p T q at_ st) (k : Nat) : w.cell? ⟨p, 12 + k, none⟩ = R[k]? := by
  obtain ⟨xs, h0, h1, h2⟩ := h
  exact matb_tail T xs _ _ _ h0 h1 k
theorem MAtR.cells {w : World} {p T : Nat} {q : List Int} {at_ st : Int} (h : MAtR R ty w p T q at_ st) : w.cell? ⟨p, 0, none⟩ = some (.pointer (some ⟨T, 0, none⟩)) ∧ w.cell? ⟨p, 9, none⟩ = some (.int .i64 q.length) ∧ w.cell? ⟨p, 10, none⟩ = some (.int .i64 at_) ∧ w.cell? ⟨p, 11, none⟩ = some (.int .i64 st) ∧
    (∀ o, w.frozen? ⟨p, o, none⟩ = false) ∧ ∀ j, j < 8 → ∃ x, w.cell? ⟨p, 1 + j, none⟩ = some (.int .i64 x) := by
  obtain ⟨xs, h0, h1, h2⟩ := h
  obtain ⟨a, b, c, d, e, f⟩ := matb_get T xs _ _ _ h0 h1
  refine ⟨a, b, c, d, e, fun j hj => ⟨xs[j], ?_⟩⟩
  rw [f j hj, List.getElem?_map, List.getElem?_eq_getElem (by omega)]; rfl
/-- the units that wait lie in it -/
theorem MAtR.rd {w : World} {p T : Nat} {q : List Int} {at_ st : Int} (h : MAtR R ty w p T q at_ st) {B : Nat} (hB : p < B) : Rd w B (some ⟨p, 1, none⟩) (q.map (Value.int .i64)) := by
  have h8 := h.le8
  obtain ⟨xs, h0, h1, h2⟩ := h
  obtain ⟨_, _, _, _, _, f⟩ := matb_get T xs _ _ _ h0 h1
  refine .inr ⟨p, 1, rfl, hB, fun j hj => ?_⟩
  rw [List.length_map] at hj
  rw [f j (by omega), List.getElem?_map, List.getElem?_map]
  conv => rhs; rw [← h2]
  rw [List.getElem?_take, if_pos hj]
theorem setL (l : List Value) (i : Nat) (v : Value) : l.toArray.setIfInBounds i v = (l.set i v).toArray := by simp
/-- numbers of a Match's block set anew -/
theorem matb_set (T : Nat) (xs : List Int) (h at_ st : Int) (hx : xs.length = 8) {w : World} {p : Nat} (hp : w.heap[p]? = some (MatBR R ty T xs h at_ st)) (x : Int) :
    (w.setCell ⟨p, 9, none⟩ (.int .i64 x)).heap[p]? = some (MatBR R ty T xs x at_ st) ∧ (w.setCell ⟨p, 10, none⟩ (.int .i64 x)).heap[p]? = some (MatBR R ty T xs h x st) ∧ (w.setCell ⟨p, 11, none⟩ (.int .i64 x)).heap[p]? = some (MatBR R ty T xs h at_ x) ∧
    ∀ j, j < 8 → (w.setCell ⟨p, 1 + j, none⟩ (.int .i64 x)).heap[p]? = some (MatBR R ty T (xs.set j x) h at_ st) := by
  match xs, hx with
  | [x0, x1, x2, x3, x4, x5, x6, x7], _ =>
    refine ⟨?_, ?_, ?_, fun j hj => ?_⟩
    · rw [heap_setCell_same w p 9 _ _ _ hp, setL]; rfl
    · rw [heap_setCell_same w p 10 _ _ _ hp, setL]; rfl
    · rw [heap_setCell_same w p 11 _ _ _ hp, setL]; rfl
    · have : j = 0 ∨ j = 1 ∨ j = 2 ∨ j = 3 ∨ j = 4 ∨ j = 5 ∨ j = 6 ∨ j = 7 := by omega
      rcases this with rfl | rfl | rfl | rfl | rfl | rfl | rfl | rfl <;> (rw [heap_setCell_same w p _ _ _ _ hp, setL]; rfl)
/-- what lies behind the Match set anew -/
theorem MAtR.setTail {w : World} {p T : Nat} {q : List Int} {at_ st : Int} (h : MAtR R ty w p T q at_ st) (k : Nat) (v : Value) : MAtR (R.set k v) ty (w.setCell ⟨p, 12 + k, none⟩ v) p T q at_ st := by
  obtain ⟨xs, h0, h1, h2⟩ := h
  refine ⟨xs, h0, ?_, h2⟩
  match xs, h0 with
  | [x0, x1, x2, x3, x4, x5, x6, x7], _ =>
    rw [heap_setCell_same w p (12 + k) _ _ _ h1, setL, Nat.add_comm 12 k]; rfl
end
theorem grownR (w : World) (r : Option Nat) : w.grownBy w r := World.grownBy.refl w r
theorem grown_set {w w' : World} {p : Nat} (h : w.grownBy w' (some p)) (j : Nat) (u : Value) : w.grownBy (w'.setCell ⟨p, j, none⟩ u) (some p) :=
  grown_seq h ⟨rfl, rfl, rfl, by simp, fun k _ hk => heap_setCell_other w' ⟨p, j, none⟩ k u (fun e => hk (by simp [e]))⟩
theorem grown_drew {w w' : World} {p : Option Nat} (h : w.grownBy w' p) : w.grownBy w'.drew p := ⟨h.os, h.tape, h.output, h.size, h.block⟩
theorem grown_below {w w' : World} {p : Option Nat} (h : Below w.heap.size w w') : w.grownBy w' p := ⟨h.os, h.tape, h.output, h.size, fun k hk _ => h.block k hk⟩
theorem below_grownP {B p : Nat} {w0 w w' : World} (h : Below B w0 w) (hg : w.grownBy w' (some p)) (hp : B ≤ p) (hB : B ≤ w.heap.size) : Below B w0 w' :=
  ⟨hg.os.trans h.os, hg.tape.trans h.tape, hg.output.trans h.output, Nat.le_trans h.size hg.size, fun k hk => (hg.block k (by omega) (fun e => by injection e with e; omega)).trans (h.block k hk)⟩

section
variable {P : Program} {ops : Array Oper} {o : Oper} {a : Act} {w : World} {K : Act → World → Prop} {Q : Exit → Act → World → Prop} {E : Prop}
/-- copy into a row: what is known of its block behind it -/
theorem step_copyG (hgd : o.guard = none) (d s : Operand) (dT sT : TypeId)
    (ho : o.op = .call { callee := .builtin .copy, args := #[d, s], argTypes := #[dT, sT] }) (elem : TypeId) (hu : P.underlying dT = some (.slice elem)) (hsz : (P.info? elem).map (·.size) = some 1)
    (dp sp : Option Addr) (dLen dCap sLen sCap : Nat) (hd : a.eval d = .slice dp dLen dCap) (hs : a.eval s = .slice sp sLen sCap)
    (g off : Nat) (cur : List Value) (t : TypeId) (hg : w.heap[g]? = some (.cells cur.toArray t (0, 0))) (cs : List Value) (hn : cs.length = Nat.min sLen dLen)
    (hpos : 0 < cs.length → dp = some ⟨g, off, none⟩ ∧ ∃ ad, sp = some ad ∧ ∀ j v, cs[j]? = some v → w.cell? (ad.add j) = some v)
    (hfit : off + cs.length ≤ cur.length) (h1 : ∀ v ∈ cs, v.oneCell' = true)
    (h : ∀ w', Hid (w'.heap[g]? = some (.cells (lays cur off cs).toArray t (0, 0))) → Hid (w.grownBy w' (some g)) → K (a.put o.dst (goInt cs.length)) w') :
    if Region.wanted o (yielded ops a.tmps) = true then Oper.wp P o a w K Q else E := by
  have hw : Region.wanted o (yielded ops a.tmps) = true := by simp [Region.wanted, hgd]
  rw [if_pos hw]
  by_cases h0 : cs.length = 0
  · obtain rfl : cs = [] := List.eq_nil_of_length_eq_zero h0
    have hrun := run_copy_none (P := P) w dT sT o.type elem dp sp dLen dCap sLen sCap hu hsz (by simpa using hn.symm)
    unfold Oper.wp
    simp [execOp, ho, resolve, invoke, builtin, hd, hs, hrun, Result.andThen]
    exact h w (show _ = _ by simpa [lays] using hg) (grownR w _)
  · obtain ⟨rfl, ad, rfl, hsrc⟩ := hpos (by omega)
    have hrun := run_copy_row (P := P) w dT sT o.type elem g off dLen dCap ad sLen sCap cur.toArray t cs hu hsz hg hn hsrc (by simpa using hfit) h1
    unfold Oper.wp
    simp [execOp, ho, resolve, invoke, builtin, hd, hs, hrun, Result.andThen]
    exact h _ (show _ = _ by simpa [lays] using setRow_heap w g _ _ t _ hg) ⟨rfl, rfl, rfl, by simp, fun k _ hk => setRow_other w g k _ (fun e => hk (by simp [e]))⟩
theorem run_clear_row (w : World) (t e ty : TypeId) (z : Value) (ht : P.underlying t = some (.slice e)) (hv : ∀ w, (zeroValue e).run P w = .ok z w) (hz : z.cells = #[z]) (h1 : z.oneCell' = true) (g off n c : Nat) (cur : List Value) (tt : TypeId) (hg : w.heap[g]? = some (.cells cur.toArray tt (0, 0))) (hn : 0 < n) (hfit : off + n ≤ cur.length) :
    (Builtin.clear_ #[t] ty #[.slice (some ⟨g, off, none⟩) n c]).run P w = .ok (.tuple #[]) (w.setRow g (lays cur off (List.replicate n z)).toArray) := by
  have hzc : (Builtin.zeroCells z.cells n).toList = List.replicate n z := by
    rw [hz]
    simp [Builtin.zeroCells]
    apply List.ext_getElem
    · simp
    · intro i h1 h2
      simp [Nat.mod_one]
  have hst := run_storeCells_at P g off tt (List.replicate n z) 0 cur.toArray w hg (by simpa using hfit) (by intro v hv'; rw [List.eq_of_mem_replicate hv']; exact h1)
  simp only [Nat.add_zero] at hst
  obtain ⟨m, rfl⟩ : ∃ m, n = m + 1 := ⟨n - 1, by omega⟩
  simp [Builtin.clear_, run_underlying ht, hv, hzc, hst, lays]
/-- clear of a part of a row -/
theorem step_clearG (hgd : o.guard = none) (d : Operand) (dT : TypeId)
    (ho : o.op = .call { callee := .builtin .clear, args := #[d], argTypes := #[dT] }) (elem : TypeId) (z : Value) (hu : P.underlying dT = some (.slice elem)) (hv : ∀ w, (zeroValue elem).run P w = .ok z w) (hz : z.cells = #[z]) (h1 : z.oneCell' = true)
    (g off n c : Nat) (hd : a.eval d = .slice (some ⟨g, off, none⟩) n c) (cur : List Value) (t : TypeId) (hg : w.heap[g]? = some (.cells cur.toArray t (0, 0))) (hn : 0 < n) (hfit : off + n ≤ cur.length)
    (h : ∀ w', Hid (w'.heap[g]? = some (.cells (lays cur off (List.replicate n z)).toArray t (0, 0))) → Hid (w.grownBy w' (some g)) → K (a.put o.dst (.tuple #[])) w') :
    if Region.wanted o (yielded ops a.tmps) = true then Oper.wp P o a w K Q else E := by
  have hw : Region.wanted o (yielded ops a.tmps) = true := by simp [Region.wanted, hgd]
  rw [if_pos hw]
  have hrun := run_clear_row (P := P) w dT elem o.type z hu hv hz h1 g off n c cur t hg hn hfit
  unfold Oper.wp
  simp [execOp, ho, resolve, invoke, builtin, hd, hrun, Result.andThen]
  exact h _ (show _ = _ by simpa using setRow_heap w g _ _ t _ hg) ⟨rfl, rfl, rfl, by simp, fun k _ hk => setRow_other w g k _ (fun e => hk (by simp [e]))⟩
end

theorem matNew (w : World) (T : Nat) : MAt (w.alloc (MatB T [0, 0, 0, 0, 0, 0, 0, 0] 0 0 0)) w.heap.size T [] 0 0 := ⟨_, rfl, heap_alloc_new w _, rfl⟩
theorem mof_any (w : World) (T : Nat) :
    Calls Tryz.prog 78 #[.pointer (some ⟨T, 0, none⟩)] w fun e w' => ∃ p, e = .returned (.pointer (some ⟨p, 0, none⟩)) ∧ w.heap.size ≤ p ∧ MAt w' p T [] 0 0 ∧ Below w.heap.size w w' := by
  have hm := matNew w T
  have hb := (Below.refl w.heap.size w).alloc (Nat.le_refl _) (MatB T [0, 0, 0, 0, 0, 0, 0, 0] 0 0 0)
  have HM := Lib.hid hm
  have HB := Lib.hid hb
  clear hm hb
  go_enter Tryz.func78, Tryz.ntmps78
  go_wp2
  go_ret
  exact ⟨w.heap.size, rfl, Nat.le_refl _, HM.out, HB.out⟩
end Go.Proofs.YtncpokioagpclaaGreatDoor
namespace Go.Proofs.YtncpokioagpclaaGreatDoor
set_option linter.unusedVariables false
open Go.RowKit
theorem slice8 (p n L : Nat) (hn : n ≤ L) (hL : L ≤ 8) : ∃ ad, (∀ W : World, (Instr.sliceAt 183 (.pointer (some ⟨p, 1, none⟩)) (some (.int .i64 n)) (some (.int .i64 L)) none).run Tryz.prog W = .ok (.slice ad (L - n) (8 - n)) W) ∧ (n < 8 → ad = some ⟨p, 1 + n, none⟩) := by
  by_cases h : n = 8
  · obtain rfl : L = 8 := by omega
    subst h
    exact ⟨some ⟨p, 1, none⟩, fun W => by go_simp, fun h => by omega⟩
  · refine ⟨some ⟨p, 1 + n, none⟩, fun W => ?_, fun _ => rfl⟩
    have e1 : ¬ 8 = n := by omega
    have e2 : (0 : Int) ≤ n := by omega
    have e3 : (n : Int) ≤ L := by omega
    have e4 : (L : Int) ≤ 8 := by omega
    go_simp
theorem slice8z (p L : Nat) (hL : L ≤ 8) : ∀ W : World, (Instr.sliceAt 183 (.pointer (some ⟨p, 1, none⟩)) none (some (.int .i64 L)) none).run Tryz.prog W = .ok (.slice (some ⟨p, 1, none⟩) L 8) W := fun W => by
  have e2 : (0 : Int) ≤ L := by omega
  have e4 : (L : Int) ≤ 8 := by omega
  go_simp
/-- units laid into a Match's block -/
theorem matb_lay {R : List Value} {ty : TypeId} {w : World} {p T : Nat} {xs vs : List Int} {h at_ st : Int} {o : Nat} (hx : o + vs.length ≤ xs.length) (hp : w.heap[p]? = some (.cells (lays (Value.pointer (some (⟨T, 0, none⟩ : Addr)) :: (xs.map (Value.int .i64) ++ ([.int .i64 h, .int .i64 at_, .int .i64 st] ++ R))) (o + 1) (vs.map (Value.int .i64))).toArray ty (0, 0))) :
    w.heap[p]? = some (MatBR R ty T (lays xs o vs) h at_ st) := by
  rw [lays_mid (by simpa using hx), lays_map] at hp
  exact hp
set_option maxRecDepth 100000 in
set_option maxHeartbeats 1600000 in
theorem mdrop_any {R : List Value} {ty : TypeId} (w : World) (p T : Nat) (q : List Int) (at_ st : Int) (hp : MAtR R ty w p T q at_ st) (n : Nat) (h1 : 1 ≤ n) (hn : n ≤ q.length) (h0 : 0 ≤ at_) (h9 : at_ ≤ 4503599627370496) :
    Calls Tryz.prog 236 #[.pointer (some ⟨p, 0, none⟩), .int .i64 n] w fun e w' => e = .returned (.tuple #[]) ∧ MAtR R ty w' p T (q.drop n) (at_ + n) st ∧ w.grownBy w' (some p) := by
  have h8 := hp.le8
  obtain ⟨c0, c9, c10, c11, cf, _⟩ := hp.cells
  have hcs : ∀ j v, ((q.drop n).map (Value.int .i64))[j]? = some v → w.cell? ⟨p, 1 + n + j, none⟩ = some v := by
    intro j v hj
    have hrd := hp.rd (B := p + 1) (by omega)
    rcases hrd with h | ⟨b, o, e, _, hc⟩
    · rw [List.map_eq_nil_iff] at h; subst h; simp at hj
    · injection e with e; injection e with e1 e2; subst e1 e2
      rw [List.map_drop, List.getElem?_drop] at hj
      have hl : n + j < (q.map (Value.int .i64)).length := (List.getElem?_eq_some_iff.1 hj).1
      rw [Nat.add_assoc]
      exact (hc _ hl).trans hj
  obtain ⟨xs, hx, hb, hq⟩ := hp
  have hmv := moved hq (by omega) hn
  obtain ⟨L, hL⟩ : ∃ L, q.length = L := ⟨_, rfl⟩
  rw [hL] at c9 hb hmv h8 hn
  obtain ⟨ad2, hs2, hsa⟩ := slice8 p n L hn h8
  have hfr0 : (Value.pointer (some (⟨T, 0, none⟩ : Addr)) :: (xs.map (Value.int .i64) ++ ([.int .i64 L, .int .i64 at_, .int .i64 st] ++ R))).length = 12 + R.length := by simp [hx]; omega
  have HFR0 := Lib.hid hfr0
  have HC := Lib.hid hcs
  have HX := Lib.hid hx
  have HB := Lib.hid hb
  have HMV := Lib.hid hmv
  have HL := Lib.hid hL
  have HSA := Lib.hid hsa
  have e2 : (0 : Int) ≤ n := by omega
  have e3 : (n : Int) ≤ L := by omega
  have e4 : (L : Int) ≤ 8 := by omega
  have hdl : (q.drop n).length = L - n := by rw [List.length_drop, hL]
  have HDL := Lib.hid hdl
  clear hcs hx hb hq hmv hL hsa hfr0 hdl
  go_enter Tryz.func236, Tryz.ntmps236
  go_wp2
  go_region_law (refine step_copyG rfl (.tmp 7) (.tmp 16) 34 34 rfl 3 Tryz.underlying34 (by kernel_rfl) (some ⟨p, 1, none⟩) ad2 8 8 (L - n) (8 - n) rfl rfl p 1 _ ty HB.out ((q.drop n).map (Value.int .i64)) (by rw [List.length_map, HDL.out]; exact (Nat.min_eq_left (by omega)).symm) (fun hh => ⟨rfl, _, HSA.out (by rw [List.length_map, HDL.out] at hh; omega), fun j v hj => by rw [Addr.add_lit]; exact HC.out j v hj⟩) (by rw [HFR0.out, List.length_map, HDL.out]; omega) (ints_one _ _) ?_; intro w4 hg4 hb4)
  have hm4 := matb_lay (by rw [HDL.out, HX.out]; omega) hg4.out
  have hx4 : (lays xs 0 (q.drop n)).length = 8 := by rw [lays_len (by rw [HDL.out, HX.out]; omega), HX.out]
  obtain ⟨_, d9, d10, _, df, _⟩ := matb_get T _ _ _ _ hx4 hm4
  obtain ⟨ys, hys⟩ : ∃ ys, lays xs 0 (q.drop n) = ys := ⟨_, rfl⟩
  have hmv := HMV.out
  rw [hys] at hm4 hx4 hmv
  have HX4 := Lib.hid hx4
  have HM4 := Lib.hid hm4
  have HMV4 := Lib.hid hmv
  have hfr4 : (Value.pointer (some (⟨T, 0, none⟩ : Addr)) :: (ys.map (Value.int .i64) ++ ([.int .i64 L, .int .i64 at_, .int .i64 st] ++ R))).length = 12 + R.length := by simp [hx4]; omega
  have HFR4 := Lib.hid hfr4
  obtain ⟨k, hk⟩ : ∃ k, k = L - n := ⟨_, rfl⟩
  obtain ⟨ad3, hs3, hsb⟩ := slice8 p k L (by omega) h8
  have hk8 : k < 8 := by omega
  obtain rfl := hsb hk8
  have hki : (L : Int) - n = k := by omega
  have hkn : L - k = n := by omega
  have hkw : IntKind.i64.wrap (k : Int) = k := by rw [IntKind.wrap_i64]; omega
  rw [← hk] at hmv
  rw [hkn] at hs3
  have HG4 := Lib.hid (grown_seq (grown_drew (grownR w (some p))) hb4.out)
  have HKN := Lib.hid hk
  clear hm4 hx4 hys hmv hfr4 hb4 hg4 hk hkn HMV c0 c9 c10 c11 cf hs2
  go_wp2
  go_region_law (refine step_clearG rfl (.tmp 31) 34 rfl 3 (.int .i64 0) Tryz.underlying34 (fun _ => rfl) rfl rfl p (1 + k) n (8 - k) rfl _ ty HM4.out (by omega) (by rw [HFR4.out]; omega) ?_; intro w5 hg5 hb5)
  all_goals (
    have hg5' := hg5.out
    rw [show List.replicate n (Value.int .i64 0) = (List.replicate n (0 : Int)).map (Value.int .i64) from by rw [List.map_replicate], Nat.add_comm 1 k] at hg5'
    have hm5 := matb_lay (by rw [HX4.out]; simp; omega) hg5'
    have hx5 : (lays ys k (List.replicate n 0)).length = 8 := by rw [lays_len (by rw [HX4.out]; simp; omega), HX4.out]
    obtain ⟨zs, hzs⟩ : ∃ zs, lays ys k (List.replicate n 0) = zs := ⟨_, rfl⟩
    rw [hzs] at hm5 hx5
    obtain ⟨_, f9, f10, _, ff, _⟩ := matb_get T _ _ _ _ hx5 hm5
    have hmv5 := HMV4.out.1
    rw [← HKN.out, hzs] at hmv5
    have HX5 := Lib.hid hx5
    have HM5 := Lib.hid hm5
    have HMV5 := Lib.hid hmv5
    have HG5 := Lib.hid (grown_seq HG4.out (grown_seq (grown_drew (grownR w4 (some p))) hb5.out))
    clear hg5' hm5 hx5 hzs hmv5 hg5 hb5 d9 d10 df hs3
    go_wp2
    go_end0
    have g9 := (matb_set T zs _ _ _ HX5.out HM5.out (k : Int)).1
    have g10 := (matb_set T zs _ _ _ HX5.out g9 (at_ + n)).2.1
    have hdl := HDL.out
    rw [← HKN.out] at hdl
    exact ⟨rfl, ⟨zs, HX5.out, by rw [hdl]; exact g10, by rw [hdl]; exact HMV5.out⟩, grown_set (grown_set HG5.out _ _) _ _⟩)
set_option maxRecDepth 100000 in
set_option maxHeartbeats 1600000 in
theorem mlook_any {R : List Value} {ty : TypeId} (w : World) (p T : Nat) (q : List Int) (at_ st : Int) (hp : MAtR R ty w p T q at_ st) (B : Nat) (rs : List Rl) (ht : TrieOK w B T rs) (hB : B ≤ p) (h0 : 0 ≤ st) (h9 : st ≤ 4503599627370496) (k m : Int) (o : Bool) (hv : longL rs q = (k, m, o)) :
    Calls Tryz.prog 235 #[.pointer (some ⟨p, 0, none⟩)] w fun e w' => e = .returned (.tuple #[.int .i64 k, .int .i64 m, .bool o]) ∧ MAtR R ty w' p T q at_ (st + q.length) ∧ w.grownBy w' (some p) := by
  have h8 := hp.le8
  have hlt := hp.lt
  obtain ⟨c0, c9, c10, c11, cf, _⟩ := hp.cells
  obtain ⟨xs, hx, hb, hq⟩ := hp
  obtain ⟨L, hL⟩ : ∃ L, q.length = L := ⟨_, rfl⟩
  rw [hL] at c9 hb h8 hq ⊢
  have HX := Lib.hid hx
  have HB := Lib.hid hb
  have HQ := Lib.hid hq
  have HL := Lib.hid hL
  have HT := Lib.hid ht
  have HV := Lib.hid hv
  clear hx hb hq hL ht hv
  go_enter Tryz.func235, Tryz.ntmps235
  go_wp2
  go_region
  obtain ⟨w2, hw2⟩ : ∃ w2, w2 = (w.setCell ⟨p, 11, none⟩ (.int .i64 (st + L))).drew := ⟨_, rfl⟩
  have hm2 : w2.heap[p]? = some (MatBR R ty T xs L at_ (st + L)) := by rw [hw2]; exact (matb_set T xs _ _ _ HX.out HB.out (st + L)).2.2.1
  have hg2 : w.grownBy w2 (some p) := by rw [hw2]; exact grown_drew (grown_set (grownR w _) _ _)
  rw [← hw2]
  have hma2 : MAtR R ty w2 p T q at_ (st + L) := ⟨xs, HX.out, by rw [HL.out]; exact hm2, by rw [HL.out]; exact HQ.out⟩
  have hlt2 := hma2.lt
  obtain ⟨d0, d9, d10, _, df, _⟩ := hma2.cells
  rw [HL.out] at d9
  have hs2 := slice8z p L h8
  have D0 := Lib.hid d0
  have D9 := Lib.hid d9
  have HMA := Lib.hid hma2
  have HG2 := Lib.hid hg2
  have HB2 := Lib.hid (below_grownP (Below.refl B w) hg2 hB (by omega))
  have HRD := Lib.hid (hma2.rd (B := w2.heap.size) hlt2)
  clear hw2 c0 c9 c10 c11 cf hma2 hm2 hg2
  go_wp2
  refine wp_region_mixe (G := SameB p) [(0, false), (1, false), (2, false), (3, false), (4, false), (5, false), (6, false), (7, false), (8, false), (9, false), (10, false), (11, false), (12, true), (13, false), (14, false), (15, false), (16, false), (17, false), (18, false)]
    (SameB.refl _) (SameB.trans _) (by kernel_rfl) rfl (by kernel_rfl) (by kernel_rfl) ?_
  iterate 3 (refine mixe_one rfl rfl ?_; go_big_quiet_step ((intro _; rfl)); refine wpQuiet_nil ?_)
  refine mixe_one rfl rfl ?_
  go_big_quiet_step ((intro hh; rw [hh.cell, World.cell?_drew, D0.out]; exact ⟨rfl, rfl⟩))
  refine wpQuiet_nil ?_
  iterate 6 (refine mixe_one rfl rfl ?_; go_big_quiet_step ((intro _; rfl)); refine wpQuiet_nil ?_)
  refine mixe_one rfl rfl ?_
  go_big_quiet_step ((intro hh; rw [hh.cell, World.cell?_drew, D9.out]; exact ⟨rfl, rfl⟩))
  refine wpQuiet_nil ?_
  refine mixe_one rfl rfl ?_
  go_big_quiet_step ((intro _; rfl))
  refine wpQuiet_nil ?_
  refine mixe_call rfl ?_
  go_wp2_with fail
  refine (long_ok w2.drew B T rs (HT.out.below HB2.out.drew (Nat.le_refl _)) (by show B ≤ w2.heap.size; omega) L (some ⟨p, 1, none⟩) 8 q w2.heap.size HL.out.symm (HRD.out.below (Below.refl _ _).drew (Nat.le_refl _)) (Nat.le_refl _) h8 (by simp [maxLen]) k m o HV.out).mono ?_
  rintro e w3 ⟨rfl, hb3⟩
  have hb23 : Below w2.heap.size w2 w3 := (Below.refl _ _).drew.trans hb3
  have HM3 := Lib.hid (HMA.out.below hb23 hlt2)
  have HG3 := Lib.hid (grown_seq HG2.out (grown_below hb23))
  go_wp2_with fail
  refine ⟨SameB.of hb3 (by show p < w2.heap.size; omega), ?_⟩
  clear hb3 hb23
  iterate 6 (refine mixe_one rfl rfl ?_; go_big_quiet_step ((intro _; rfl)); refine wpQuiet_nil ?_)
  refine NoPanic.normal ?_
  go_wp2
  go_ret3
  exact ⟨rfl, HM3.out, HG3.out⟩
end Go.Proofs.YtncpokioagpclaaGreatDoor
namespace Go.Proofs.YtncpokioagpclaaGreatDoor
set_option linter.unusedVariables false
open Go.RowKit
/-- a row of tokens of the call's own, from block base on: their units lie there, too, but not in it -/
def OwnTkB (base : Nat) (w : World) (v : Value) (ts : List Tk) : Prop := ∃ xs, w.ownsRow base 51 4 v ts.length xs ∧ Tks (fun b => v.ownBlock ≠ some b ∧ base ≤ b) w xs ts
theorem OwnTkB.nil (base : Nat) (w : World) : OwnTkB base w (.slice none 0 0) [] := ⟨[], World.ownsRow_nil _ _ _ _, trivial⟩
theorem OwnTkB.own {base : Nat} {w : World} {v : Value} {ts : List Tk} (h : OwnTkB base w v ts) : OwnTk base w v ts := by
  obtain ⟨xs, ho, hr⟩ := h
  exact ⟨xs, ho, hr.step (Nat.le_refl _) fun b _ hx => ⟨hx.1, rfl⟩⟩
theorem OwnTkB.form {base : Nat} {w : World} {v : Value} {ts : List Tk} (h : OwnTkB base w v ts) : ∃ A c, v = .slice A ts.length c ∧ TkAt w w.heap.size A ts.length c ts := h.own.form
theorem OwnTkB.below {base B : Nat} {w w' : World} {v : Value} {ts : List Tk} (h : OwnTkB base w v ts) (hb : Below B w w') (hB : w.heap.size ≤ B) : OwnTkB base w' v ts := by
  obtain ⟨xs, ho, hr⟩ := h
  exact ⟨xs, own_below ho hb hB, hr.step hb.size fun b hl hx => ⟨hx, hb.block b (by omega)⟩⟩
theorem own_kept {base p n size : Nat} {T : TypeId} {w w' : World} {v : Value} {xs : List Value} (ho : w.ownsRow base T size v n xs) (hg : w.grownBy w' (some p)) (hp : p < base) : w'.ownsRow base T size v n xs :=
  ho.kept hg (by
    cases hv : v.ownBlock with
    | none => exact .inl rfl
    | some k =>
      refine .inr fun e => ?_
      have := (ho.lt k hv).1
      injection e with e
      omega)
/-- a Match's block is written: the row stays -/
theorem OwnTkB.past {base p : Nat} {w w' : World} {v : Value} {ts : List Tk} (h : OwnTkB base w v ts) (hg : w.grownBy w' (some p)) (hp : p < base) : OwnTkB base w' v ts := by
  obtain ⟨xs, ho, hr⟩ := h
  exact ⟨xs, own_kept ho hg hp, hr.step hg.size fun b hl hx => ⟨hx, hg.block b hl (fun e => by injection e with e; have := hx.2; omega)⟩⟩
theorem Us.past {X : Nat → Prop} {w w' : World} {v : Value} {us : List Int} {p : Nat} (h : Us X w v us) (hg : w.grownBy w' (some p)) (hp : ∀ b, X b → b ≠ p) : Us X w' v us :=
  h.step hg.size fun b hl hx => ⟨hx, hg.block b hl (fun e => by injection e with e; exact hp b hx e)⟩
/-- tokens laid behind: w1 the world ahead of the append, w2 the one behind -/
theorem OwnTkB.push {base : Nat} {w1 w2 : World} {v v' : Value} {ts us : List Tk} {xs ys : List Value} {n : Nat} (hn : n = ts.length + us.length) (ho : w2.ownsRow base 51 4 v' n (xs ++ ys)) (hx : Tks (fun b => v.ownBlock ≠ some b ∧ base ≤ b) w1 xs ts)
    (hy : Tks (fun b => v.ownBlock ≠ some b ∧ base ≤ b) w1 ys us) (hg : w1.grownBy w2 v.ownBlock) (hv : v'.ownBlock = v.ownBlock ∨ v'.ownBlock = some w1.heap.size) : OwnTkB base w2 v' (ts ++ us) := by
  refine ⟨xs ++ ys, by rw [List.length_append, ← hn]; exact ho, (hx.app hy).step hg.size fun b hl hx => ⟨⟨?_, hx.2⟩, hg.block b hl (fun e => hx.1 e.symm)⟩⟩
  rcases hv with e | e
  · rw [e]; exact hx.1
  · rw [e]; intro e'; injection e' with e'; omega
/-- behind an append to a row from base on: what lay below base, or beside the row -/
theorem grown_app {w W w2 : World} {p n size base : Nat} {T : TypeId} {v : Value} {xs : List Value} (h : w.grownBy W (some p)) (hg : W.grownBy w2 v.ownBlock) (ho : W.ownsRow base T size v n xs) (hb : w.heap.size ≤ base) : w.grownBy w2 (some p) :=
  ⟨hg.os.trans h.os, hg.tape.trans h.tape, hg.output.trans h.output, Nat.le_trans h.size hg.size, fun k hk hr => (hg.block k (Nat.lt_of_lt_of_le hk h.size) (fun e => by
    have := (ho.lt k e.symm).1
    omega)).trans (h.block k hk hr)⟩
theorem MAtR.app {R : List Value} {ty : TypeId} {w w2 : World} {p T n size base : Nat} {Ty : TypeId} {q : List Int} {a s : Int} {v : Value} {xs : List Value} (h : MAtR R ty w p T q a s) (hg : w.grownBy w2 v.ownBlock) (ho : w.ownsRow base Ty size v n xs) (hp : p < base) : MAtR R ty w2 p T q a s :=
  h.of_block (hg.block p h.lt (fun e => by have := (ho.lt p e.symm).1; omega))
/-- the token that is taken lies in block X; the row v, and the Match, are as they were -/
def CutT (R : List Value) (ty : TypeId) (w : World) (S p T X : Nat) (q : List Int) (a s : Int) (v : Value) (acc : List Tk) (sz x : Int) (o : List Int) (m : Nat) (wx : World) : Prop :=
  ∃ A c, wx.heap[X]? = some (.cells #[.int .i64 a, .int .i64 sz, .slice A m c, .int .i64 x] 51 (0, 0)) ∧ Us (fun b => v.ownBlock ≠ some b ∧ S ≤ b) wx (.slice A m c) o ∧ OwnTkB S wx v acc ∧ MAtR R ty wx p T q a s ∧ w.grownBy wx (some p)
def heldOf (p : Nat) (w : World) : Nat := (intOf ((w.cell? ⟨p, 9, none⟩).getD (.int .i64 0))).toNat
theorem MAtR.heldW {R : List Value} {ty : TypeId} {w : World} {p T : Nat} {q : List Int} {a s : Int} (h : MAtR R ty w p T q a s) : heldOf p w = q.length := by
  obtain ⟨_, c9, _⟩ := h.cells
  simp [heldOf, c9, intOf]
theorem tk_cells {w : World} {g : Nat} {y0 y1 y2 y3 : Value} {t : TypeId} (hp : w.heap[g]? = some (.cells #[y0, y1, y2, y3] t (0, 0))) : w.cell? ⟨g, 0, none⟩ = some y0 ∧ w.cell? ⟨g, 1, none⟩ = some y1 ∧ w.cell? ⟨g, 2, none⟩ = some y2 ∧ w.cell? ⟨g, 3, none⟩ = some y3 := by
  refine ⟨?_, ?_, ?_, ?_⟩ <;> (rw [cell_of_row _ _ _ _ _ _ hp]; rfl)
theorem take_r3 {s st : Int} {L a k : Nat} (h : s + ((a + L : Nat) : Int) = st + k) : s + L + (a : Int) = st + k := by omega
theorem take_r1 {acc l ts : List Tk} {t : Tk} (h : acc ++ t :: l = ts) : acc ++ [t] ++ l = ts := by rw [← h]; simp
set_option maxRecDepth 100000 in
set_option maxHeartbeats 6400000 in
theorem mtake_any {R : List Value} {ty : TypeId} (e : Bool) (w : World) (p T : Nat) (q : List Int) (at_ st : Int) (hp : MAtR R ty w p T q at_ st) (B : Nat) (rs : List Rl) (ht : TrieOK w B T rs) (hB : B ≤ p) (h0 : 0 ≤ at_) (h9 : at_ ≤ 1099511627776) (hs0 : 0 ≤ st) (hs9 : st ≤ 1099511627776)
    (ts : List Tk) (rest : List Int) (k : Nat) (hv : tkE rs e at_ q = (ts, rest, k)) :
    Calls Tryz.prog 233 #[.pointer (some ⟨p, 0, none⟩), .bool e] w fun en w' => ∃ v, en = .returned v ∧ OwnTkB w.heap.size w' v ts ∧ MAtR R ty w' p T rest (at_ + q.length - rest.length) (st + k) ∧ w.grownBy w' (some p) := by
  obtain ⟨i0, hi, hz0, HZ1, hz2⟩ := info_parts infotok
  have h8 := hp.le8
  have hlt := hp.lt
  have hk8 : k ≤ 72 := by
    have := (ht.good.tkE_rest e at_ q).2.2.1
    rw [hv] at this
    have h2 : q.length * q.length ≤ 8 * 8 := Nat.mul_le_mul h8 h8
    simp only at this
    omega
  obtain ⟨L0, hL0⟩ : ∃ L0, q.length = L0 := ⟨_, rfl⟩
  rw [hL0] at h8 ⊢
  have HP := Lib.hid hp
  have HT := Lib.hid ht
  have HG := Lib.hid ht.good
  have HV := Lib.hid hv
  have HL0 := Lib.hid hL0
  clear hp ht hv hL0
  go_enter Tryz.func233, Tryz.ntmps233
  go_wp2
  go_loopw [5] (fun v wr => ∃ (acc : List Tk) (q' : List Int) (a' s' : Int), Hid (OwnTkB w.heap.size wr v acc) ∧ Hid (MAtR R ty wr p T q' a' s') ∧ acc.length + q'.length ≤ L0 ∧ Hid (acc ++ (tkE rs e a' q').1 = ts) ∧ Hid ((tkE rs e a' q').2.1 = rest) ∧ Hid (s' + (tkE rs e a' q').2.2 = st + k) ∧ a' + q'.length = at_ + L0 ∧ 0 ≤ s' ∧ Hid (w.grownBy wr (some p))) (fun _ wr => heldOf p wr)
  case atStart => exact ⟨[], q, at_, st, OwnTkB.nil _ _, HP.out, by rw [HL0.out]; simp, by rw [HV.out]; exact rfl, by rw [HV.out]; exact rfl, by rw [HV.out]; exact rfl, by rw [HL0.out], hs0, grownR w _⟩
  case round =>
    obtain ⟨acc, q', a', s', ho, hm, hle, he1, he2, he3, hea, hs', hg⟩ := hrel
    have hs9' : s' ≤ 2199023255552 := by have := he3.out; omega
    have hw9 := hm.out.heldW
    have hmlt := hm.out.lt
    obtain ⟨_, c9, _⟩ := hm.out.cells
    have HW9 := Lib.hid hw9
    obtain ⟨L, hL⟩ : ∃ L, q'.length = L := ⟨_, rfl⟩
    rw [hL] at c9 hle hea
    have HL := Lib.hid hL
    clear hw9 hL
    by_cases hq : L = 0
    · have hq0 : q' = [] := List.eq_nil_of_length_eq_zero (by rw [HL.out]; exact hq)
      have h1 := he1.out
      have h2 := he2.out
      have h3 := he3.out
      rw [hq0, tkE_nil] at h1 h2 h3
      have hm2 := hm.out
      rw [hq0] at hm2
      have HE1 := Lib.hid (show acc = ts by simpa using h1)
      have HE2 := Lib.hid (show rest = [] from h2.symm)
      have HE3 := Lib.hid (show s' = st + k by simpa using h3)
      have HM2 := Lib.hid hm2
      have hd : decide ((L : Int) > 0) = false := by simp; omega
      subst hq
      clear h1 h2 h3 hm2 hq0
      go_wp2
      go_ret
      refine ⟨_, rfl, by rw [← HE1.out]; exact ho.out, ?_, hg.out⟩
      rw [HE2.out, ← HE3.out, show at_ + (L0 : Int) - (([] : List Int).length : Nat) = a' from by simp; omega]
      exact HM2.out
    have hL1 : 1 ≤ L := by omega
    have hne : q' ≠ [] := by intro e; rw [e] at HL; have := HL.out; simp at this; omega
    have hd : decide ((L : Int) > 0) = true := by simp; omega
    obtain ⟨k1, l1, o1, hlo, _⟩ := HG.out.long q'
    have hop : opens rs q' = o1 := by unfold opens; rw [hlo]
    have HLO := Lib.hid hlo
    have HOP := Lib.hid hop
    have HNE := Lib.hid hne
    have hBw : Below B w wr := below_grownP (Below.refl B w) hg.out hB (by omega)
    have hsw := hg.out.size
    clear hlo hop hne
    go_wp2_with fail
    refine (mlook_any wr p T q' a' s' hm.out B rs (HT.out.below hBw (Nat.le_refl _)) hB hs' (by omega) k1 l1 o1 HLO.out).mono ?_
    rintro en w1 ⟨rfl, hm1, hg1⟩
    rw [HL.out] at hm1
    have HM1 := Lib.hid hm1
    have HO1 := Lib.hid (ho.out.past hg1 hlt)
    have HG1 := Lib.hid (grown_seq hg.out hg1)
    have hs1 := hg1.size
    clear hm1 hg1 c9 hd
    have HBR : e = false → o1 = true → Hid (acc = ts ∧ rest = q' ∧ s' + L = st + k) := fun h1 h2 => by
      have g1 := he1.out
      have g2 := he2.out
      have g3 := he3.out
      rw [h1, tkE_open HNE.out (by rw [HOP.out]; exact h2)] at g1 g2 g3
      exact ⟨by simpa using g1, g2.symm, by rw [← HL.out]; exact g3⟩
    have HB2 := Lib.hid HBR
    clear HBR
    have hcase : (e = false ∧ o1 = true) ∨ (e = true ∧ o1 = true) ∨ o1 = false := by cases e <;> cases o1 <;> simp
    rcases hcase with ⟨rfl, rfl⟩ | hcase
    · obtain ⟨h1, h2, h3⟩ := (HB2.out rfl rfl).out
      have H1 := Lib.hid h1
      have H2 := Lib.hid h2
      have H3 := Lib.hid h3
      clear h1 h2 h3
      go_wp2
      go_ret
      refine ⟨_, rfl, by rw [← H1.out]; exact HO1.out, ?_, HG1.out⟩
      rw [H2.out, ← H3.out, HL.out, show at_ + (L0 : Int) - L = a' from by omega]
      exact HM1.out
    have HGO : Hid (e = true ∨ opens rs q' = false) := by
      rcases hcase with ⟨h, _⟩ | h
      · exact .inl h
      · exact .inr (by rw [HOP.out]; exact h)
    clear HB2
    rcases hcase with ⟨rfl, rfl⟩ | rfl
    all_goals (
    obtain ⟨s, x, o, hst, hsp⟩ := HG.out.stepP HNE.out
    obtain ⟨n, rfl⟩ : ∃ n : Nat, s = n := ⟨s.toNat, by have := hsp.lo; omega⟩
    have hn1 : 1 ≤ n := by have := hsp.lo; omega
    have hn2 : n ≤ L := by have := hsp.hi; rw [HL.out] at this; omega
    obtain ⟨m, hm0⟩ : ∃ m, o.length = m := ⟨_, rfl⟩
    have HM0 := Lib.hid hm0
    have hstep := HG.out.step HLO.out
    have hstepN := HG.out.stepN HLO.out
    rw [hst] at hstep hstepN
    have HSTEP := Lib.hid hstep
    have HSTEPN := Lib.hid hstepN
    have hcons := tkE_cons (at_ := a') HNE.out HGO.out hst (by omega)
    rw [HL.out, show ((n : Nat) : Int).toNat = n from by omega] at hcons
    have hne1 := he1.out
    have hne2 := he2.out
    have hne3 := he3.out
    rw [hcons] at hne1 hne2 hne3
    have HNE1 := Lib.hid hne1
    have HNE2 := Lib.hid hne2
    have HNE3 := Lib.hid hne3
    clear hst hsp hm0 hstep hstepN hcons hne1 hne2 hne3 HGO he1 he2 he3 HV HP
    obtain ⟨d0, d9, d10, _, df, _⟩ := HM1.out.cells
    have D0 := Lib.hid d0
    have D10 := Lib.hid d10
    obtain ⟨A3, c3, rfl, hat⟩ := HO1.out.form
    have hat2 := hat.fits
    have hat3 := hat.small
    unfold maxLen at hat3
    have hp1 : p < w1.heap.size := HM1.out.lt
    have hsw1 : w.heap.size ≤ w1.heap.size := HG1.out.size
    clear hat hm ho hg
    go_upto_if 32 with fail
    obtain ⟨W1, hW1⟩ : ∃ W1, W1 = w1.alloc (.cells #[.int .i64 a', .int .i64 1, .slice none 0 0, .int .i64 3] 51) := ⟨_, rfl⟩
    obtain ⟨X, hX⟩ : ∃ X, X = w1.heap.size := ⟨_, rfl⟩
    have hX1 : w.heap.size ≤ X := by omega
    have hX2 : p < X := by omega
    have hblk : W1.heap[X]? = some (.cells #[.int .i64 a', .int .i64 1, .slice none 0 0, .int .i64 3] 51 (0, 0)) := by rw [hW1, hX]; exact heap_alloc_new w1 _
    have hb1 : Below w1.heap.size w1 W1 := by rw [hW1]; exact (Below.refl _ _).alloc (Nat.le_refl _) _
    have hXW : X < W1.heap.size := heap_lt0 hblk
    have HBLK := Lib.hid hblk
    have HB1 := Lib.hid hb1
    have HXE := Lib.hid hX
    rw [← hW1, ← hX]
    have hpW : p < W1.heap.size := by omega
    have D0' := Lib.hid ((hb1.cell (p := ⟨p, 0, none⟩) hp1).trans d0)
    have D10' := Lib.hid ((hb1.cell (p := ⟨p, 10, none⟩) hp1).trans d10)
    have HO2 := Lib.hid (HO1.out.below hb1 (Nat.le_refl _))
    have HM2 := Lib.hid (HM1.out.below hb1 hp1)
    have HG2 := Lib.hid (grown_seq HG1.out (grown_below (p := some p) hb1))
    clear hW1 hX hblk hb1 d0 d9 d10 df D0 D10
    go_cut [9] (fun s9 wx => s9 = .pointer (some ⟨X, 0, none⟩) ∧ CutT R ty w w.heap.size p T X q' a' (s' + L) (.slice A3 acc.length c3) acc n x o m wx)
    case first =>
      by_cases hk : k1 < 0
      · have he := HSTEPN.out hk
        injection he with e1 he
        injection he with e2 e3
        have hm0 : m = 0 := by rw [← HM0.out, e3]; rfl
        have hn0 : n = 1 := by omega
        subst e2 e3 hm0 hn0
        clear e1
        have hd : decide (k1 ≥ 0) = false := by simp; omega
        go_wp2
        go_meet
        exact ⟨rfl, none, 0, HBLK.out, ⟨none, 0, rfl, by simp, by simp [maxLen], .inl rfl⟩, HO2.out, HM2.out, HG2.out⟩
      · rcases HSTEP.out with ⟨h1, _⟩ | ⟨m1, h1, h2, h3, h4, K, h5, hK, h6, h7⟩
        · exact absurd h1 hk
        injection h7 with e1 h7
        injection h7 with e2 e3
        subst h5 e2
        have hd : decide (0 ≤ (K : Int)) = true := by simp
        have HK := Lib.hid hK
        have hoe : rs[K].2 = o := e3.symm
        have HOE := Lib.hid hoe
        obtain rfl : l1 = n := e1.symm
        clear hk h6 e3 h1 h2 h3 h4 e1 hoe
        go_wp2_with fail
        refine wp_region_mixe (G := SameB p) [(0, false), (1, false), (2, false), (3, false), (4, false), (5, false), (6, false), (7, false), (8, false), (9, false), (10, true), (11, false), (12, true)]
          (SameB.refl _) (SameB.trans _) (by kernel_rfl) rfl (by kernel_rfl) (by kernel_rfl) ?_
        iterate 3 (refine mixe_one rfl rfl ?_; go_big_quiet_step ((intro _; rfl)); refine wpQuiet_nil ?_)
        refine mixe_one rfl rfl ?_
        go_big_quiet_step ((intro hh; rw [hh.cell, World.cell?_drew, D10'.out]; exact ⟨rfl, rfl⟩))
        refine wpQuiet_nil ?_
        iterate 4 (refine mixe_one rfl rfl ?_; go_big_quiet_step ((intro _; rfl)); refine wpQuiet_nil ?_)
        refine mixe_one rfl rfl ?_
        go_big_quiet_step ((intro hh; rw [hh.cell, World.cell?_drew, D0'.out]; exact ⟨rfl, rfl⟩))
        refine wpQuiet_nil ?_
        iterate 1 (refine mixe_one rfl rfl ?_; go_big_quiet_step ((intro _; rfl)); refine wpQuiet_nil ?_)
        refine mixe_call rfl ?_
        have hBW : Below B w W1 := (below_grownP (Below.refl B w) HG2.out hB (by omega))
        go_wp2_with fail
        refine (out_ok W1.drew B T rs (HT.out.below hBW.drew (Nat.le_refl _)) (by show B ≤ W1.heap.size; omega) K HK.out o m HOE.out HM0.out).mono ?_
        rintro en w2 ⟨A', c', rfl, hu, hb2⟩
        have hb12 : Below W1.heap.size W1 w2 := (Below.refl _ _).drew.trans hb2
        have hblk2 := (hb12.block X hXW).trans HBLK.out
        have HU := Lib.hid hu
        have HO3 := Lib.hid (HO2.out.below hb12 (Nat.le_refl _))
        have HM3 := Lib.hid (HM2.out.below hb12 hpW)
        have HG3 := Lib.hid (grown_seq HG2.out (grown_below (p := some p) hb12))
        have hsb := SameB.of (R := p) hb2 (by show p < W1.heap.size; omega)
        have HB12 := Lib.hid hb12
        clear hu hb12 hb2
        go_wp2_with fail
        refine ⟨hsb, ?_⟩
        iterate 1 (refine mixe_one rfl rfl ?_; go_big_quiet_step ((intro _; rfl)); refine wpQuiet_nil ?_)
        refine mixe_call rfl ?_
        go_wp2_with (refine wpList_store_row rfl _ _ _ rfl X #[.int .i64 a', .int .i64 n, .slice A' m c', .int .i64 0] rfl rfl _ _ hblk2 infotok4 rfl (by simp [Value.oneCell']) ?_)
        have hq5 := setRow_heap w2 X _ #[.int .i64 a', .int .i64 n, .slice A' m c', .int .i64 0] _ _ hblk2
        refine ⟨⟨setRow_other _ _ _ _ (by omega), Nat.le_of_eq (setRow_size _ _ _).symm⟩, ?_⟩
        refine NoPanic.normal ?_
        have hxe := HXE.out
        have hbF : Below w1.heap.size w1 (w2.setRow X #[.int .i64 a', .int .i64 n, .slice A' m c', .int .i64 0]) := below_row (HB1.out.trans (HB12.out.mono HB1.out.size)) (by omega) _
        have hU5 : Us (fun b => (Value.slice A3 acc.length c3).ownBlock ≠ some b ∧ w.heap.size ≤ b) (w2.setRow X #[.int .i64 a', .int .i64 n, .slice A' m c', .int .i64 0]) (.slice A' m c') o := by
          refine HU.out.step (Nat.le_of_eq (setRow_size _ _ _).symm) fun b hb hx => ⟨⟨fun e => ?_, ?_⟩, setRow_other _ _ _ _ ?_⟩
          · have h1 := own_lt HO1.out.choose_spec.1 e
            have : W1.heap.size ≤ b := hx
            omega
          · have : W1.heap.size ≤ b := hx
            omega
          · have : W1.heap.size ≤ b := hx
            omega
        have HF := Lib.hid hbF
        have HU5 := Lib.hid hU5
        have HQ5 := Lib.hid hq5
        clear hxe hbF hU5 hq5 hsb hblk2
        go_wp2_with fail
        go_meet
        exact ⟨rfl, A', c', HQ5.out, HU5.out, HO1.out.below HF.out (Nat.le_refl _), HM1.out.below HF.out hp1, grown_seq HG1.out (grown_below HF.out)⟩
    case rest =>
      obtain ⟨rfl, A4, c4, hblk4, hu4, ho4, hm4, hg4⟩ := hcut
      obtain ⟨w4, rfl⟩ : ∃ w4 : World, w4 = wc := ⟨_, rfl⟩
      obtain ⟨g0, g1, g2, g3⟩ := tk_cells hblk4
      have hX4 : X < w4.heap.size := heap_lt0 hblk4
      have HBLK4 := Lib.hid hblk4
      have HU4 := Lib.hid hu4
      have HO4 := Lib.hid ho4
      have HM4 := Lib.hid hm4
      have HG4 := Lib.hid hg4
      clear hblk4 hu4 ho4 hm4 hg4 HO1 HO2 HM1 HM2 HG1 HG2 HBLK HB1 D0' D10'
      go_wp2_with fail
      refine (mdrop_any w4 p T q' a' (s' + L) HM4.out n hn1 (by rw [HL.out]; exact hn2) (by omega) (by omega)).mono ?_
      rintro en w5 ⟨rfl, hm5, hg5⟩
      have hblk5 := (hg5.block X hX4 (by intro e; injection e with e; omega)).trans HBLK4.out
      obtain ⟨f0, f1, f2, f3⟩ := tk_cells hblk5
      obtain ⟨xs, hown, hx⟩ := HO4.out.past hg5 hlt
      have hu5 := HU4.out.past hg5 (fun b hx e => by have := hx.2; omega)
      have hs5 := hg5.size
      have hs4 := HG4.out.size
      have HX := Lib.hid hx
      have HU5 := Lib.hid hu5
      have HM5 := Lib.hid hm5
      have HG5 := Lib.hid (grown_seq HG4.out hg5)
      have HF5 := Lib.hid (show (∀ o', Below w5.heap.size w5 (w5.alloc o')) from fun o' => (Below.refl _ _).alloc (Nat.le_refl _) _)
      clear hx hu5 hm5 hg5 hblk5 g0 g1 g2 g3
      go_wp2_with (at_builtin; refine wpList_appB _ rfl _ _ 32 rfl w.heap.size 51 i0 _ 4 48 Tryz.underlying32 hi hz0 HZ1 hz2 rfl (by decide) _ _ _ rfl (hown.alloc _) (w5.heap.size + 1) _ 1 1 [.int .i64 a', .int .i64 n, .slice A4 m c4, .int .i64 x] rfl rfl ?c1 ?c2 ?c3 ?c4 ?c5 ?_)
      case c1 => exact Rd_newR _ _ _ _ rfl
      case c2 => intro u hu; simp at hu; rcases hu with rfl | rfl | rfl | rfl <;> rfl
      case c3 => simp only [maxLen]; omega
      case c4 => omega
      case c5 => simp; omega
      intro v' w6 hown6 hg6 hv6
      have hpush : OwnTkB w.heap.size w6 v' (acc ++ [⟨a', n, o, x⟩]) := by
        refine OwnTkB.push (v := .slice A3 acc.length c3) (xs := xs) (ys := [.int .i64 a', .int .i64 n, .slice A4 m c4, .int .i64 x]) (n := acc.length + 1) (by simp) hown6 (HX.out.step (HF5.out _).size fun b hb hx => ⟨hx, (HF5.out _).block b hb⟩) (Tks.one (HU5.out.step (HF5.out _).size fun b hb hx => ⟨hx, (HF5.out _).block b hb⟩)) hg6 (by simpa using hv6)
      have hm6 : MAtR R ty w6 p T (q'.drop n) (a' + n) (s' + L) := (HM5.out.below (HF5.out _) HM5.out.lt).app hg6 (hown.alloc _) hlt
      have hg6' : w.grownBy w6 (some p) := grown_app (grown_seq HG5.out (grown_below (HF5.out _))) hg6 (hown.alloc _) (Nat.le_refl _)
      have hh6 : heldOf p w6 < heldOf p wr := by rw [hm6.heldW, HW9.out, List.length_drop, HL.out]; omega
      have hr1 := take_r1 HNE1.out
      have hr3 := take_r3 HNE3.out
      have HPU := Lib.hid hpush
      have HM6 := Lib.hid hm6
      have HG6 := Lib.hid hg6'
      have HH6 := Lib.hid hh6
      have HR1 := Lib.hid hr1
      have HR3 := Lib.hid hr3
      clear hown6 hg6 hv6 hpush hm6 hg6' hh6 hr1 hr3 hown
      go_wp2
      go_roundw
      case rel => exact ⟨_, q'.drop n, a' + n, s' + L, HPU, HM6, by simp only [List.length_append, List.length_singleton, List.length_drop, HL.out]; omega, HR1, HNE2, HR3, by rw [List.length_drop, HL.out]; omega, by omega, HG6⟩
      case measure => exact HH6.out)
end Go.Proofs.YtncpokioagpclaaGreatDoor
namespace Go.Proofs.YtncpokioagpclaaGreatDoor
set_option linter.unusedVariables false
open Go.RowKit
theorem MAtR.put {R : List Value} {ty : TypeId} {w : World} {p T : Nat} {q : List Int} {at_ st : Int} (h : MAtR R ty w p T q at_ st) (hq : q.length ≤ 7) (u : Int) : MAtR R ty ((w.setCell ⟨p, 1 + q.length, none⟩ (.int .i64 u)).setCell ⟨p, 9, none⟩ (.int .i64 (q.length + 1))).drew p T (q ++ [u]) at_ st := by
  obtain ⟨xs, h0, h1, h2⟩ := h
  have g1 := (matb_set T xs _ _ _ h0 h1 u).2.2.2 q.length (by omega)
  have g2 := (matb_set T (xs.set q.length u) _ _ _ (by simpa using h0) g1 (q.length + 1)).1
  refine ⟨xs.set q.length u, by simpa using h0, ?_, laid1 h2 (by omega)⟩
  rw [List.length_append, List.length_singleton, Int.natCast_add]
  exact g2
set_option maxRecDepth 100000 in
set_option maxHeartbeats 1600000 in
theorem mput_any {R : List Value} {ty : TypeId} (w : World) (p T : Nat) (q : List Int) (at_ st u : Int) (hp : MAtR R ty w p T q at_ st) (hq : q.length ≤ 7) (B : Nat) (rs : List Rl) (ht : TrieOK w B T rs) (hB : B ≤ p) (h0 : 0 ≤ at_) (h9 : at_ ≤ 1099511627776) (hs0 : 0 ≤ st) (hs9 : st ≤ 1099511627776)
    (ts : List Tk) (rest : List Int) (k : Nat) (hv : drain rs at_ (q ++ [u]) = (ts, rest, k)) :
    Calls Tryz.prog 231 #[.pointer (some ⟨p, 0, none⟩), .int .i64 u] w fun en w' => ∃ v, en = .returned v ∧ OwnTkB w.heap.size w' v ts ∧ MAtR R ty w' p T rest (at_ + q.length + 1 - rest.length) (st + k) ∧ w.grownBy w' (some p) := by
  have hlt := hp.lt
  have hput := hp.put hq u
  obtain ⟨_, c9, _, _, cf, cx⟩ := hp.cells
  obtain ⟨x, cx⟩ := cx q.length (by omega)
  obtain ⟨L, hL⟩ : ∃ L, q.length = L := ⟨_, rfl⟩
  rw [hL] at c9 cx hq hput ⊢
  have e1 : ¬ L = 8 := by omega
  have e2 : ¬ 8 = L := by omega
  have e3 : (0 : Int) ≤ L := by omega
  have e4 : (L : Int) < 8 := by omega
  have e5 : ¬ (1 + L = 9) := by omega
  have HPU := Lib.hid hput
  have HL := Lib.hid hL
  have HT := Lib.hid ht
  have HV := Lib.hid (show tkE rs false at_ (q ++ [u]) = (ts, rest, k) by simpa [tkE] using hv)
  clear hp hput hL ht hv
  go_enter Tryz.func231, Tryz.ntmps231
  go_wp2
  go_region
  go_wp2_with fail
  obtain ⟨W2, hW2⟩ : ∃ W2, W2 = ((w.setCell ⟨p, 1 + L, none⟩ (.int .i64 u)).setCell ⟨p, 9, none⟩ (.int .i64 (L + 1))).drew := ⟨_, rfl⟩
  rw [← hW2]
  have hg2 : w.grownBy W2 (some p) := by rw [hW2]; exact grown_drew (grown_set (grown_set (grownR w _) _ _) _ _)
  have hm2 : MAtR R ty W2 p T (q ++ [u]) at_ st := by rw [hW2]; exact HPU.out
  have hs2 : W2.heap.size = w.heap.size := by rw [hW2]; simp
  refine (mtake_any false W2 p T (q ++ [u]) at_ st hm2 B rs (HT.out.below (below_grownP (Below.refl B w) hg2 hB (by omega)) (Nat.le_refl _)) hB h0 h9 hs0 hs9 ts rest k HV.out).mono ?_
  rintro en w3 ⟨v, rfl, ho, hm, hg⟩
  rw [hs2] at ho
  rw [List.length_append, List.length_singleton, HL.out, show at_ + ((L + 1 : Nat) : Int) - rest.length = at_ + L + 1 - rest.length from by omega] at hm
  have HO := Lib.hid ho
  have HM := Lib.hid hm
  have HG := Lib.hid (grown_seq hg2 hg)
  clear hW2 hg2 hm2 hs2 ho hm hg c9 cx cf
  go_wp2
  go_ret
  exact ⟨_, rfl, HO.out, HM.out, HG.out⟩
set_option maxRecDepth 100000 in
set_option maxHeartbeats 1600000 in
theorem mend_any {R : List Value} {ty : TypeId} (w : World) (p T : Nat) (q : List Int) (at_ st : Int) (hp : MAtR R ty w p T q at_ st) (B : Nat) (rs : List Rl) (ht : TrieOK w B T rs) (hB : B ≤ p) (h0 : 0 ≤ at_) (h9 : at_ ≤ 1099511627776) (hs0 : 0 ≤ st) (hs9 : st ≤ 1099511627776)
    (ts : List Tk) (hv : rewA rs at_ q = ts) :
    Calls Tryz.prog 228 #[.pointer (some ⟨p, 0, none⟩)] w fun en w' => ∃ v, en = .returned v ∧ OwnTkB w.heap.size w' v ts ∧ MAtR R ty w' p T [] (at_ + q.length) (st + looksE rs q) ∧ w.grownBy w' (some p) := by
  have HP := Lib.hid hp
  have HT := Lib.hid ht
  have HV := Lib.hid (show tkE rs true at_ q = (ts, [], looksE rs q) by simp [tkE, hv])
  clear hp ht hv
  go_enter Tryz.func228, Tryz.ntmps228
  go_wp2_with fail
  refine (mtake_any true w p T q at_ st HP.out B rs HT.out hB h0 h9 hs0 hs9 ts [] _ HV.out).mono ?_
  rintro en w3 ⟨v, rfl, ho, hm, hg⟩
  rw [show at_ + (q.length : Int) - (([] : List Int).length : Nat) = at_ + q.length from by simp] at hm
  have HO := Lib.hid ho
  have HM := Lib.hid hm
  have HG := Lib.hid hg
  clear ho hm hg
  go_wp2
  go_ret
  exact ⟨_, rfl, HO.out, HM.out, HG.out⟩
end Go.Proofs.YtncpokioagpclaaGreatDoor
namespace Go.Proofs.YtncpokioagpclaaGreatDoor
set_option linter.unusedVariables false
open Go.RowKit
/-- where only blocks at and above p are written, what lay below is as it was -/
theorem below_of {B p : Nat} {w w' : World} (hg : w.grownBy w' (some p)) (hB : B ≤ p) (hw : B ≤ w.heap.size) : Below B w w' := below_grownP (Below.refl B w) hg hB hw
/-- tokens that a Match told, laid behind a row: p its block, wr the world ahead of the call, w6 behind it, w7 behind the append -/
theorem told {R : List Value} {ty : TypeId} {S p : Nat} {wa wr w6 w7 : World} {T : Nat} {v v6 v7 : Value} {xs ys : List Value} {acc t2 : List Tk} {q : List Int} {a s : Int} {m : Nat} (hm2 : t2.length = m) (hSp : p < S) (hSr : S ≤ wr.heap.size) (hSa : wa.heap.size ≤ S) (hg : wa.grownBy wr (some p)) (ho : wr.ownsRow S 51 4 v acc.length xs) (hx : Tks (fun b => v.ownBlock ≠ some b ∧ S ≤ b) wr xs acc)
    (ho6 : w6.ownsRow wr.heap.size 51 4 v6 t2.length ys) (hy : Tks (fun b => v6.ownBlock ≠ some b ∧ wr.heap.size ≤ b) w6 ys t2) (hm : MAtR R ty w6 p T q a s) (hg6 : wr.grownBy w6 (some p)) (ho7 : w7.ownsRow S 51 4 v7 (acc.length + m) (xs ++ ys)) (hg7 : w6.grownBy w7 v.ownBlock) (hv7 : v7.ownBlock = v.ownBlock ∨ v7.ownBlock = some w6.heap.size) :
    OwnTkB S w7 v7 (acc ++ t2) ∧ MAtR R ty w7 p T q a s ∧ wa.grownBy w7 (some p) := by
  have hk := own_kept ho hg6 hSp
  refine ⟨OwnTkB.push (n := acc.length + m) (by rw [hm2]) ho7 (hx.step hg6.size fun b hl hb => ⟨hb, hg6.block b hl (fun e => by injection e with e; have := hb.2; omega)⟩) (hy.step (Nat.le_refl _) fun b hl hb => ⟨⟨fun e => ?_, by have := hb.2; omega⟩, rfl⟩) hg7 hv7, hm.app hg7 hk hSp, grown_app (grown_seq hg hg6) hg7 hk hSa⟩
  have := own_lt ho e
  have := hb.2
  omega
end Go.Proofs.YtncpokioagpclaaGreatDoor
