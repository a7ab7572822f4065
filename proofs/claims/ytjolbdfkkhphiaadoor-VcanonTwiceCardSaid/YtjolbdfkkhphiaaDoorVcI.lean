/- Layer 10: rows of ints of one's own beside a letter that waits; the table of signs; the law's Units. -/
import Derived.Test.YtjolbdfkkhphiaaDoorVcM
import Derived.Test.YtjolbdfkkhphiaaDoorGlob
namespace Go.Proofs.YtjolbdfkkhphiaaDoor
set_option linter.unusedVariables false
set_option linter.unusedSimpArgs false
set_option linter.unnecessarySimpa false
open Go.RowKit Go.Shelf

/-- a row of ints of the call's own, from block base on -/
def IR (w : World) (base : Nat) (v : Value) (zs : List Int) : Prop := OwnI .i64 3 w base v zs
/-- the ints zs lie at A, below the heap's end -/
def RI (w : World) (A : Option Addr) (zs : List Int) : Prop := Rd w w.heap.size A (zs.map (Value.int .i64))
theorem IR.nil (w : World) (base : Nat) : IR w base (.slice none 0 0) [] := World.ownsRow_nil _ _ _ _
theorem IR.form {w : World} {base : Nat} {v : Value} {zs : List Int} (h : IR w base v zs) : ∃ A c, v = .slice A zs.length c ∧ zs.length ≤ c ∧ c ≤ maxLen := own_form h
theorem IR.rd {w : World} {base : Nat} {A : Option Addr} {n c : Nat} {zs : List Int} (h : IR w base (.slice A n c) zs) : RI w A zs := by
  obtain ⟨A', c', e, _⟩ := IR.form h
  injection e with e1 e2 e3
  subst e1 e2 e3
  exact Rd.own h
theorem IR.low {w : World} {base base' : Nat} {v : Value} {zs : List Int} (h : IR w base v zs) (hb : base' ≤ base) : IR w base' v zs := own_low h hb
theorem IR.below {w w' : World} {B base : Nat} {v : Value} {zs : List Int} (h : IR w base v zs) (hb : Below B w w') (hB : w.heap.size ≤ B) : IR w' base v zs := own_below h hb hB
theorem IR.alloc {w : World} {base : Nat} {v : Value} {zs : List Int} (h : IR w base v zs) (o : Obj) : IR (w.alloc o) base v zs := h.below ((Below.refl _ w).alloc (Nat.le_refl _) o) (Nat.le_refl _)
theorem IR.drewN {w : World} {base : Nat} {v : Value} {zs : List Int} (h : IR w base v zs) (m : Nat) : IR (w.drewN m) base v zs := h.below (below_dN w m) (Nat.le_refl _)
theorem RI.below {w w' : World} {A : Option Addr} {zs : List Int} (h : RI w A zs) (hb : Below w.heap.size w w') : RI w' A zs := Rd.below h hb hb.size
theorem RI.nil (w : World) (A : Option Addr) : RI w A [] := Rd.nil
theorem IR.block {w : World} {base : Nat} {v : Value} {zs : List Int} (h : IR w base v zs) {g : Nat} (hg : v.ownBlock = some g) : ∃ cur, w.heap[g]? = some (.cells cur 3 (0, 0)) := by
  rcases h.2 with ⟨h1, _⟩ | ⟨g', cap, cur, h1, _, h3, _⟩
  · subst h1; cases hg
  · subst h1
    injection hg with hg
    exact ⟨cur, by rw [← hg]; exact h3⟩
theorem IR.lt {w : World} {base : Nat} {v : Value} {zs : List Int} (h : IR w base v zs) {g : Nat} (hg : v.ownBlock = some g) : base ≤ g ∧ g < w.heap.size := World.ownsRow.lt h _ hg
/-- another element type's block is another block -/
theorem IR.ne {w : World} {base : Nat} {v : Value} {zs : List Int} (h : IR w base v zs) {p : Nat} {cs : Array Value} {t : TypeId} (q : Held w p cs t) (ht : t ≠ 3) : some p ≠ v.ownBlock := fun e => by
  obtain ⟨cur, hc⟩ := h.block e.symm
  unfold Held at q
  rw [hc] at q
  injection q with q
  injection q with _ q
  exact ht q.symm
theorem IR.grownP {w w' : World} {base : Nat} {v : Value} {zs : List Int} (h : IR w base v zs) {p : Nat} {cs : Array Value} {t : TypeId} (q : Held w p cs t) (ht : t ≠ 3) (hg : w.grownBy w' (some p)) : IR w' base v zs := by
  refine ⟨h.1, ?_⟩
  rcases h.2 with h2 | ⟨g, cap, cur, h1, h2, h3, h4⟩
  · exact .inl h2
  · have hlt := (h.lt (g := g) (by rw [h1]; rfl)).2
    exact .inr ⟨g, cap, cur, h1, h2, (hg.block g hlt (fun e => h.ne q ht (by rw [h1]; exact e.symm))).trans h3, h4⟩
theorem RI.grownP {w w' : World} {A : Option Addr} {zs : List Int} {p : Nat} (h : Rd w p A (zs.map (Value.int .i64))) (hp : p ≤ w.heap.size) (hg : w.grownBy w' (some p)) : Rd w' p A (zs.map (Value.int .i64)) :=
  h.keep (Nat.le_refl _) fun b o hb => World.cell?_of_block (w := w) (a := ⟨b, o, none⟩) (hg.block b (by omega) (fun e => by injection e with e; omega))
theorem below_grow {w w' : World} {p B : Nat} {w0 : World} (hb : Below B w0 w) (hz : B ≤ w.heap.size) (hg : w.grownBy w' (some p)) (hB : B ≤ p) : Below B w0 w' := hb.grown hg hz fun k hk => by injection hk with hk; omega
theorem IR.new (w : World) (x : Int) : IR (w.alloc (.cells #[.int .i64 x] 3)) w.heap.size (.slice (some ⟨w.heap.size, 0, none⟩) 1 1) [x] :=
  ⟨rfl, .inr ⟨w.heap.size, 1, #[.int .i64 x], rfl, Nat.le_refl _, heap_alloc_new w _, Nat.le_refl _, by simp [maxLen], rfl, rfl⟩⟩
theorem infoI : (Tryd.prog.info? 3).map (fun i => (i.zero, i.size, i.bytes)) = some (some (.int .i64 0), 1, 8) := by kernel_rfl

/-- append a slice of ints -/
theorem wpList_appI {w : World} {ops : Array Oper} {rest : List Oper} {o : Oper} {a : Act} {Q : Exit → Act → World → Prop} (hgd : o.guard = none) (s x : Operand)
    (ho : o.op = .call { callee := .builtin .append, args := #[s, x], argTypes := #[23, 23] })
    (base : Nat) (v : Value) (zs : List Int) (hs : a.eval s = v) (hown : IR w base v zs) (A : Option Addr) (m c : Nat) (ys : List Int) (hx : a.eval x = .slice A m c) (hm : m = ys.length) (B : Nat) (hr : Rd w B A (ys.map (Value.int .i64)))
    (hsz : zs.length + ys.length ≤ 17592186044416) (hbase : base ≤ w.heap.size)
    (h : ∀ v' w', Hid (IR w' base v' (zs ++ ys)) → Hid (w.grownBy w' v.ownBlock) → wpList Tryd.prog ops Q rest (a.put o.dst v') w') : wpList Tryd.prog ops Q (o :: rest) a w := by
  obtain ⟨i0, hi, hz0, hz1, hz2⟩ := info_parts infoI
  subst hm
  refine wpList_app w hgd s x 23 ho base 3 i0 (.int .i64 0) 1 8 Tryd.underlying23 hi hz0 hz1 hz2 rfl (by decide) v zs.length _ hs hown B A ys.length c _ hx (by simp) hr (ints_one _ _) (by simp only [maxLen]; omega) (by omega) hbase ?_
  intro v' w' h1 h2
  refine h v' w' (Lib.hid ?_) (Lib.hid h2)
  unfold IR OwnI
  rw [List.length_append, List.map_append]
  exact h1
/-- append one int that a slice was just built of -/
theorem wpList_appI1 {w : World} {ops : Array Oper} {rest : List Oper} {o : Oper} {a : Act} {Q : Exit → Act → World → Prop} (hgd : o.guard = none) (s x : Operand)
    (ho : o.op = .call { callee := .builtin .append, args := #[s, x], argTypes := #[23, 23] })
    (base : Nat) (v : Value) (zs : List Int) (y : Int) (hs : a.eval s = v) (hown : IR w base v zs) (N : Nat) (hx : a.eval x = .slice (some ⟨N, 0, none⟩) 1 1) (hN : w.heap.size = N)
    (hsz : zs.length ≤ 17592186044415) (hbase : base ≤ w.heap.size)
    (h : ∀ v' w', Hid (IR w' base v' (zs ++ [y])) → Hid (w.grownBy w' v.ownBlock) → wpList Tryd.prog ops Q rest (a.put o.dst v') w') : wpList Tryd.prog ops Q (o :: rest) a (w.alloc (.cells #[.int .i64 y] 3)) := by
  subst hN
  refine wpList_appI hgd s x ho base v zs hs (hown.alloc _) _ 1 1 [y] hx rfl _ (IR.new w y).rd (by simp; omega) (by simp; omega) ?_
  intro v' w' h1 h2
  refine h v' w' h1 (Lib.hid ?_)
  exact ((World.grownBy_alloc w _ v.ownBlock).trans h2.out)
theorem IR.keepsB {w w' : World} {base B : Nat} {v : Value} {zs : List Int} {w0 : World} (hb : Below B w0 w) (hg : w.grownBy w' v.ownBlock) (h : IR w base v zs) (hB : B ≤ base) (hz : B ≤ w.heap.size) : Below B w0 w' := below_own hb hg h hB hz
theorem Held.grownI {w w' : World} {base : Nat} {v : Value} {zs : List Int} {p : Nat} {cs : Array Value} {t : TypeId} (q : Held w p cs t) (h : IR w base v zs) (ht : t ≠ 3) (hg : w.grownBy w' v.ownBlock) : Held w' p cs t := q.kept hg (h.ne q ht)

/-! the program's table of signs -/
def sigC : Array Value := ((List.range 8).map fun j => Value.int .i64 (mkS j)).toArray
def SigV (w : World) : Prop := w.var? Tryd.prog "lontar/vcanon.signs" = some sigC
theorem SigV.block {w : World} (h : SigV w) : ∃ t fr, w.heap[1]? = some (.cells sigC t fr) := by
  have hg : Tryd.prog.globalNamed "lontar/vcanon.signs" = some 1 := by kernel_rfl
  unfold SigV World.var? at h
  rw [hg] at h
  simp only [Option.bind_some] at h
  split at h
  · rename_i cs t fr hb
    injection h with h
    subst h
    exact ⟨t, fr, hb⟩
  · cases h
theorem SigV.of {w w' : World} (h : SigV w) (hb : w'.heap[1]? = w.heap[1]?) : SigV w' := by
  have hg : Tryd.prog.globalNamed "lontar/vcanon.signs" = some 1 := by kernel_rfl
  unfold SigV World.var? at *
  rw [hg] at h ⊢
  simp only [Option.bind_some, hb] at *
  exact h
theorem SigV.lt {w : World} (h : SigV w) : 1 < w.heap.size := by
  obtain ⟨t, fr, hb⟩ := h.block
  exact (Array.getElem?_eq_some_iff.1 hb).1
theorem SigV.below {w w' : World} (h : SigV w) (hb : Below w.heap.size w w') : SigV w' := h.of (hb.block _ h.lt)
theorem RowsV.grownP {w w' : World} {p : Nat} {x : Value} {t : TypeId} (h : RowsV w) (q : Held w p #[x] t) (hg : w.grownBy w' (some p)) : RowsV w' := by
  refine h.of (hg.block _ h.lt fun e => ?_)
  injection e with e
  obtain ⟨t', fr, hb⟩ := h.block
  unfold Held at q
  rw [e, q] at hb
  injection hb with hb
  injection hb with hb
  have := congrArg Array.size hb
  rw [rowsC_size] at this
  cases this
/-- both tables -/
structure TabV (w : World) : Prop where
  rows : RowsV w
  sigs : SigV w
theorem TabV.below {w w' : World} (h : TabV w) (hb : Below w.heap.size w w') : TabV w' := ⟨h.rows.below hb, h.sigs.below hb⟩

set_option maxHeartbeats 800000 in
theorem units_true (n : Nat) (A A' : Option Addr) (c c' : Nat) (zs : List Int) (B : Nat) (w : World) (hn : n = zs.length) (hr : Rd w B A (zs.map (Value.int .i64))) (hr' : Rd w B A' (zs.map (Value.int .i64))) (hl : zs.length ≤ 140737488355328) :
    Calls Tryd.prog 12 #[.slice A n c, .slice A' n c'] w fun e w' => e = .returned (.bool true) ∧ ∃ m, w' = w.drewN m := by
  subst hn
  have HR := Lib.hid hr
  have HR' := Lib.hid hr'
  clear hr hr'
  go_enter Tryd.func12, Tryd.ntmps12
  go_wp2
  go_loopw [13] (fun i wr => ∃ K m : Nat, K ≤ zs.length ∧ i = .int .i64 K ∧ wr = w.drewN m) (fun i _ => zs.length - (intOf i).toNat)
  case atStart => exact ⟨0, 0, by omega, rfl, rfl⟩
  case round =>
    obtain ⟨K, m, hK, rfl, rfl⟩ := hrel
    by_cases hKl : K = zs.length
    · have hKl' : ¬ K < zs.length := by omega
      clear hKl
      go_wp2
      go_ret
      exact ⟨rfl, m, rfl⟩
    have hKl' : K < zs.length := by omega
    obtain ⟨b, o, rfl, _, hc⟩ := rd_ints HR.out (by omega)
    obtain ⟨b', o', rfl, _, hc'⟩ := rd_ints HR'.out (by omega)
    have k1 := hc K hKl'
    have k2 := hc' K hKl'
    have k0 : (zs.getD K 0 != zs.getD K 0) = false := by simp
    have k3 : (0 : Int) ≤ K := by omega
    have k4 : (K : Int) < zs.length := by omega
    clear hc hc'
    go_wp2_with fail
    go_quiet (fail)
    go_wp2
    go_roundw
    case rel => exact ⟨K + 1, _, by omega, by go_num, rfl⟩
    case measure => simp [intOf]; omega
/-- as the laws ask it -/
theorem units_any (n n' : Nat) (A A' : Option Addr) (c c' : Nat) (xs ys : List Int) (w : World) (he : xs = ys) (hn : n = xs.length) (hn' : n' = ys.length) (hr : RI w A xs) (hr' : RI w A' ys) (hl : xs.length ≤ 140737488355328) :
    Calls Tryd.prog 12 #[.slice A n c, .slice A' n' c'] w fun e w' => e = .returned (.bool true) ∧ Below w.heap.size w w' := by
  subst he
  rw [hn', ← hn]
  exact (units_true n A A' c c' xs _ w hn hr hr' hl).mono fun e w' ⟨h, m, hm⟩ => ⟨h, by rw [hm]; exact below_dN w m⟩
end Go.Proofs.YtjolbdfkkhphiaaDoor
