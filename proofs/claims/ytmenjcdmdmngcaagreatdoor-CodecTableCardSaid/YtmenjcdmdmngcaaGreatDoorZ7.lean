/- Texts of this seat, one behind the other: IntR, AppG, TmQ, UnitsA. -/
import Derived.Test.YtmenjcdmdmngcaaGreatDoorZ6
import Derived.Laws.OwnMore
import Derived.Lib.SmallJoins
namespace Go.Proofs.YtmenjcdmdmngcaaGreatDoor
set_option linter.unusedVariables false
set_option linter.unusedSimpArgs false
set_option linter.unnecessarySimpa false
open Go.RowKit

/-- a row of ints of the call's own, from block base on -/
def IR (w : World) (base : Nat) (v : Value) (zs : List Int) : Prop := OwnI .i64 3 w base v zs
/-- the ints zs lie at A, below the heap's end -/
def RI (w : World) (A : Option Addr) (zs : List Int) : Prop := Rd w w.heap.size A (zs.map (Value.int .i64))
theorem IR.nil (w : World) (base : Nat) : IR w base (.slice none 0 0) [] := World.ownsRow_nil _ _ _ _
theorem IR.form {w : World} {base : Nat} {v : Value} {zs : List Int} (h : IR w base v zs) : ∃ A c, v = .slice A zs.length c ∧ zs.length ≤ c ∧ c ≤ maxLen := own_form h
theorem IR.rd {w : World} {base : Nat} {A : Option Addr} {n c : Nat} {zs : List Int} (h : IR w base (.slice A n c) zs) : RI w A zs := by
  obtain ⟨A', c', e, _⟩ := IR.form h
  injection e with e1 e2 e3
  subst e1 e2 e3
  exact Rd.own h
theorem IR.low {w : World} {base base' : Nat} {v : Value} {zs : List Int} (h : IR w base v zs) (hb : base' ≤ base) : IR w base' v zs := own_low h hb
theorem IR.below {w w' : World} {B base : Nat} {v : Value} {zs : List Int} (h : IR w base v zs) (hb : Below B w w') (hB : w.heap.size ≤ B) : IR w' base v zs := own_below h hb hB
theorem IR.alloc {w : World} {base : Nat} {v : Value} {zs : List Int} (h : IR w base v zs) (o : Obj) : IR (w.alloc o) base v zs := h.below ((Below.refl _ w).alloc (Nat.le_refl _) o) (Nat.le_refl _)
theorem IR.drewN {w : World} {base : Nat} {v : Value} {zs : List Int} (h : IR w base v zs) (m : Nat) : IR (w.drewN m) base v zs := h.below (below_dN w m) (Nat.le_refl _)
theorem RI.below {w w' : World} {A : Option Addr} {zs : List Int} (h : RI w A zs) (hb : Below w.heap.size w w') : RI w' A zs := Rd.below h hb hb.size
theorem RI.nil (w : World) (A : Option Addr) : RI w A [] := Rd.nil
theorem IR.block {w : World} {base : Nat} {v : Value} {zs : List Int} (h : IR w base v zs) {g : Nat} (hg : v.ownBlock = some g) : ∃ cur, w.heap[g]? = some (.cells cur 3 (0, 0)) := by
  rcases h.2 with ⟨h1, _⟩ | ⟨g', cap, cur, h1, _, h3, _⟩
  · subst h1; cases hg
  · subst h1
    injection hg with hg
    exact ⟨cur, by rw [← hg]; exact h3⟩
theorem IR.lt {w : World} {base : Nat} {v : Value} {zs : List Int} (h : IR w base v zs) {g : Nat} (hg : v.ownBlock = some g) : base ≤ g ∧ g < w.heap.size := World.ownsRow.lt h _ hg
/-- another element type's block is another block -/
theorem IR.ne {w : World} {base : Nat} {v : Value} {zs : List Int} (h : IR w base v zs) {p : Nat} {cs : Array Value} {t : TypeId} (q : Held w p cs t) (ht : t ≠ 3) : some p ≠ v.ownBlock := fun e => by
  obtain ⟨cur, hc⟩ := h.block e.symm
  unfold Held at q
  rw [hc] at q
  injection q with q
  injection q with _ q
  exact ht q.symm
theorem IR.grownP {w w' : World} {base : Nat} {v : Value} {zs : List Int} (h : IR w base v zs) {p : Nat} {cs : Array Value} {t : TypeId} (q : Held w p cs t) (ht : t ≠ 3) (hg : w.grownBy w' (some p)) : IR w' base v zs := by
  refine ⟨h.1, ?_⟩
  rcases h.2 with h2 | ⟨g, cap, cur, h1, h2, h3, h4⟩
  · exact .inl h2
  · have hlt := (h.lt (g := g) (by rw [h1]; rfl)).2
    exact .inr ⟨g, cap, cur, h1, h2, (hg.block g hlt (fun e => h.ne q ht (by rw [h1]; exact e.symm))).trans h3, h4⟩
theorem RI.grownP {w w' : World} {A : Option Addr} {zs : List Int} {p : Nat} (h : Rd w p A (zs.map (Value.int .i64))) (hp : p ≤ w.heap.size) (hg : w.grownBy w' (some p)) : Rd w' p A (zs.map (Value.int .i64)) :=
  h.keep (Nat.le_refl _) fun b o hb => World.cell?_of_block (w := w) (a := ⟨b, o, none⟩) (hg.block b (by omega) (fun e => by injection e with e; omega))
theorem below_grow {w w' : World} {p B : Nat} {w0 : World} (hb : Below B w0 w) (hz : B ≤ w.heap.size) (hg : w.grownBy w' (some p)) (hB : B ≤ p) : Below B w0 w' := hb.grown hg hz fun k hk => by injection hk with hk; omega
theorem IR.new (w : World) (x : Int) : IR (w.alloc (.cells #[.int .i64 x] 3)) w.heap.size (.slice (some ⟨w.heap.size, 0, none⟩) 1 1) [x] :=
  ⟨rfl, .inr ⟨w.heap.size, 1, #[.int .i64 x], rfl, Nat.le_refl _, heap_alloc_new w _, Nat.le_refl _, by simp [maxLen], rfl, rfl⟩⟩
theorem infoI : (Tryz.prog.info? 3).map (fun i => (i.zero, i.size, i.bytes)) = some (some (.int .i64 0), 1, 8) := by kernel_rfl

/-- append a slice of ints -/
theorem wpList_appI {w : World} {ops : Array Oper} {rest : List Oper} {o : Oper} {a : Act} {Q : Exit → Act → World → Prop} (hgd : o.guard = none) (s x : Operand)
    (ho : o.op = .call { callee := .builtin .append, args := #[s, x], argTypes := #[39, 39] })
    (base : Nat) (v : Value) (zs : List Int) (hs : a.eval s = v) (hown : IR w base v zs) (A : Option Addr) (m c : Nat) (ys : List Int) (hx : a.eval x = .slice A m c) (hm : m = ys.length) (B : Nat) (hr : Rd w B A (ys.map (Value.int .i64)))
    (hsz : zs.length + ys.length ≤ 17592186044416) (hbase : base ≤ w.heap.size)
    (h : ∀ v' w', Hid (IR w' base v' (zs ++ ys)) → Hid (w.grownBy w' v.ownBlock) → wpList Tryz.prog ops Q rest (a.put o.dst v') w') : wpList Tryz.prog ops Q (o :: rest) a w := by
  obtain ⟨i0, hi, hz0, hz1, hz2⟩ := info_parts infoI
  subst hm
  refine wpList_app w hgd s x 39 ho base 3 i0 (.int .i64 0) 1 8 Tryz.underlying39 hi hz0 hz1 hz2 rfl (by decide) v zs.length _ hs hown B A ys.length c _ hx (by simp) hr (ints_one _ _) (by simp only [maxLen]; omega) (by omega) hbase ?_
  intro v' w' h1 h2
  refine h v' w' (Lib.hid ?_) (Lib.hid h2)
  unfold IR OwnI
  rw [List.length_append, List.map_append]
  exact h1
/-- append one int that a slice was just built of -/
theorem wpList_appI1 {w : World} {ops : Array Oper} {rest : List Oper} {o : Oper} {a : Act} {Q : Exit → Act → World → Prop} (hgd : o.guard = none) (s x : Operand)
    (ho : o.op = .call { callee := .builtin .append, args := #[s, x], argTypes := #[39, 39] })
    (base : Nat) (v : Value) (zs : List Int) (y : Int) (hs : a.eval s = v) (hown : IR w base v zs) (N : Nat) (hx : a.eval x = .slice (some ⟨N, 0, none⟩) 1 1) (hN : w.heap.size = N)
    (hsz : zs.length ≤ 17592186044415) (hbase : base ≤ w.heap.size)
    (h : ∀ v' w', Hid (IR w' base v' (zs ++ [y])) → Hid (w.grownBy w' v.ownBlock) → wpList Tryz.prog ops Q rest (a.put o.dst v') w') : wpList Tryz.prog ops Q (o :: rest) a (w.alloc (.cells #[.int .i64 y] 3)) := by
  subst hN
  refine wpList_appI hgd s x ho base v zs hs (hown.alloc _) _ 1 1 [y] hx rfl _ (IR.new w y).rd (by simp; omega) (by simp; omega) ?_
  intro v' w' h1 h2
  refine h v' w' h1 (Lib.hid ?_)
  exact ((World.grownBy_alloc w _ v.ownBlock).trans h2.out)
/-- append a literal that was just built -/
theorem wpList_appIL {w : World} {ops : Array Oper} {rest : List Oper} {o : Oper} {a : Act} {Q : Exit → Act → World → Prop} {cs : Array Value} (hgd : o.guard = none) (s x : Operand)
    (ho : o.op = .call { callee := .builtin .append, args := #[s, x], argTypes := #[39, 39] })
    (base : Nat) (v : Value) (zs ys : List Int) (hs : a.eval s = v) (hown : IR w base v zs) (N m c : Nat) (hx : a.eval x = .slice (some ⟨N, 0, none⟩) m c) (hN : w.heap.size = N) (hm : m = ys.length) (hcs : cs.toList = ys.map (Value.int .i64))
    (hsz : zs.length + ys.length ≤ 17592186044416) (hbase : base ≤ w.heap.size)
    (h : ∀ v' w', Hid (IR w' base v' (zs ++ ys)) → Hid (w.grownBy w' v.ownBlock) → wpList Tryz.prog ops Q rest (a.put o.dst v') w') : wpList Tryz.prog ops Q (o :: rest) a (w.alloc (.cells cs 3)) := by
  subst hN
  refine wpList_appI hgd s x ho base v zs hs (hown.alloc _) _ m c ys hx hm _ (rd_new_ints w .i64 ys _ cs hcs) hsz (by simp; omega) ?_
  intro v' w' h1 h2
  exact h v' w' h1 (Lib.hid ((World.grownBy_alloc w _ v.ownBlock).trans h2.out))
theorem IR.own {w : World} {base n c : Nat} {A : Option Addr} {zs : List Int} (h : IR w base (.slice A n c) zs) : n = zs.length ∧ w.ownsRow base 3 1 (.slice A n c) n (zs.map (Value.int .i64)) := by
  obtain ⟨A', c', e, _⟩ := IR.form h
  injection e with e1 e2 e3
  subst e1 e2 e3
  exact ⟨rfl, h⟩
theorem IR.set {w : World} {base g n c : Nat} {zs : List Int} (h : IR w base (.slice (some ⟨g, 0, none⟩) n c) zs) (j : Nat) (x : Int) : IR (w.setCell ⟨g, j, none⟩ (.int .i64 x)) base (.slice (some ⟨g, 0, none⟩) n c) (zs.set j x) := by
  obtain ⟨rfl, h'⟩ := h.own
  have := (World.ownsRow.stored h' j (.int .i64 x)).1
  unfold IR OwnI
  rw [List.length_set, List.map_set]
  exact this
theorem IR.cellAt {w : World} {base g n c : Nat} {zs : List Int} (h : IR w base (.slice (some ⟨g, 0, none⟩) n c) zs) (j : Nat) (hj : j < zs.length) : w.cell? ⟨g, j, none⟩ = some (.int .i64 (zs.getD j 0)) := by
  obtain ⟨rfl, h'⟩ := h.own
  rw [World.ownsRow.cellAt h' j (by simpa using hj), List.getElem?_map, List.getD_eq_getElem?_getD, List.getElem?_eq_getElem hj]; rfl
theorem IR.frozenAt {w : World} {base g n c : Nat} {zs : List Int} (h : IR w base (.slice (some ⟨g, 0, none⟩) n c) zs) (j : Nat) : w.frozen? ⟨g, j, none⟩ = false := World.ownsRow.frozenAt h.own.2 j
theorem IR.formG {w : World} {base : Nat} {v : Value} {zs : List Int} (h : IR w base v zs) (hz : 0 < zs.length) : ∃ g c, v = .slice (some ⟨g, 0, none⟩) zs.length c ∧ base ≤ g ∧ g < w.heap.size := by
  obtain ⟨g, cap, hg⟩ := Joins.ownsRow_form h hz
  exact ⟨g, cap, hg, World.ownsRow.lt h g (by rw [hg]; rfl)⟩
theorem IR.keepsB {w w' : World} {base B : Nat} {v : Value} {zs : List Int} {w0 : World} (hb : Below B w0 w) (hg : w.grownBy w' v.ownBlock) (h : IR w base v zs) (hB : B ≤ base) (hz : B ≤ w.heap.size) : Below B w0 w' := below_own hb hg h hB hz
theorem Held.grownI {w w' : World} {base : Nat} {v : Value} {zs : List Int} {p : Nat} {cs : Array Value} {t : TypeId} (q : Held w p cs t) (h : IR w base v zs) (ht : t ≠ 3) (hg : w.grownBy w' v.ownBlock) : Held w' p cs t := q.kept hg (h.ne q ht)

end Go.Proofs.YtmenjcdmdmngcaaGreatDoor
namespace Go.Proofs.YtmenjcdmdmngcaaGreatDoor
set_option linter.unusedVariables false
set_option linter.unusedSimpArgs false
set_option linter.unnecessarySimpa false
open Go.RowKit
theorem IR.us {w : World} {base : Nat} {v : Value} {zs : List Int} (h : IR w base v zs) : Us (fun b => base ≤ b) w v zs := by
  by_cases hz : zs = []
  · subst hz
    obtain ⟨A, c, rfl, h1, h2⟩ := h.form
    exact ⟨A, c, rfl, h1, h2, .inl rfl⟩
  · obtain ⟨A, c, e, h1, h2⟩ := h.form
    obtain ⟨g, c', rfl, hb, hl⟩ := h.formG (List.length_pos_iff.2 hz)
    injection e with e1 _ e3
    subst e1 e3
    refine ⟨_, _, rfl, h1, h2, .inr ⟨g, 0, rfl, hl, hb, fun j hj => ?_⟩⟩
    rw [Nat.zero_add, h.cellAt j (by simpa using hj), List.getElem?_map, List.getD_eq_getElem?_getD, List.getElem?_eq_getElem (by simpa using hj)]; rfl
theorem wpList_appRG {w : World} {ops : Array Oper} {rest : List Oper} {o : Oper} {a : Act} {Q : Exit → Act → World → Prop} (hgd : o.guard = none) (s x : Operand)
    (ho : o.op = .call { callee := .builtin .append, args := #[s, x], argTypes := #[54, 54] })
    (base : Nat) (v : Value) (acc : List Rl) (p q : Value) (r : Rl) (hs : a.eval s = v) (hown : OwnRs base w v acc)
    (hp : Us (fun b => v.ownBlock ≠ some b) w p r.1) (hq : Us (fun b => v.ownBlock ≠ some b) w q r.2)
    (N : Nat) (hN : w.heap.size = N) (hx : a.eval x = .slice (some ⟨N, 0, none⟩) 1 1) (hsz : acc.length ≤ 1048576) (hbase : base ≤ w.heap.size)
    (h : ∀ v' w', Hid (OwnRs base w' v' (acc ++ [r])) → Hid (∀ B w0, B ≤ base → Below B w0 w → Below B w0 w') → Hid (∀ (b : Nat) (cs : Array Value) (t : TypeId), t ≠ 97 → w.heap[b]? = some (.cells cs t (0, 0)) → w'.heap[b]? = some (.cells cs t (0, 0))) → wpList Tryz.prog ops Q rest (a.put o.dst v') w') :
    wpList Tryz.prog ops Q (o :: rest) a (w.alloc (.cells #[p, q] 97)) := by
  subst hN
  obtain ⟨i0, hi, hz0, hz1, hz2⟩ := info_parts inforl
  obtain ⟨xs, ho1, hx1⟩ := hown
  have hA := ho1.alloc (.cells #[p, q] 97)
  have hrd := Rd_new w #[p, q] 97
  refine wpList_appB _ hgd s x 54 ho base 97 i0 _ 2 48 Tryz.underlying54 hi hz0 hz1 hz2 rfl (by decide) v acc.length xs hs hA _ _ 1 1 [p, q] hx rfl hrd ?_ (by simp only [maxLen]; omega) (by omega) (by simp; omega) ?_
  · intro u hu; simp at hu; rcases hu with rfl | rfl
    · exact hp.one
    · exact hq.one
  intro v' w4 hown4 hg4 hv4
  have hb3 : Below w.heap.size w (w.alloc (.cells #[p, q] 97)) := (Below.refl _ _).alloc (Nat.le_refl _) _
  refine h v' w4 (Lib.hid ?_) (Lib.hid ?_) (Lib.hid ?_)
  · refine own_push (r := r) (v := v) (xs := xs) (by simpa using hown4) ?_ ?_ ?_ hg4 hv4
    · exact hx1.step hb3.size fun b hb hx => ⟨hx, hb3.block b hb⟩
    · exact hp.step hb3.size fun b hb hx => ⟨hx, hb3.block b hb⟩
    · exact hq.step hb3.size fun b hb hx => ⟨hx, hb3.block b hb⟩
  · intro B w0 hB hw0
    rcases Nat.lt_or_ge w.heap.size B with hl | hl
    · omega
    · exact below_own (hw0.trans (hb3.mono hl)) hg4 hA hB (by simp; omega)
  · intro b cs t ht hqq
    have hbl : b < w.heap.size := (Array.getElem?_eq_some_iff.1 hqq).1
    refine (hg4.block b (by simp; omega) ?_).trans ((hb3.block b hbl).trans hqq)
    intro e
    rcases ho1.2 with ⟨h1, _⟩ | ⟨g, cap, cur, h1, _, h3, _⟩
    · subst h1; cases e
    · subst h1
      injection e with e
      subst e
      rw [hqq] at h3
      injection h3 with h3
      injection h3 with _ h3
      exact ht h3
/-- append a rule whose two sides were just built -/
theorem wpList_appRlL {w : World} {ops : Array Oper} {rest : List Oper} {o : Oper} {a : Act} {Q : Exit → Act → World → Prop} {csI csO : Array Value} (hgd : o.guard = none) (s x : Operand)
    (ho : o.op = .call { callee := .builtin .append, args := #[s, x], argTypes := #[54, 54] })
    (base : Nat) (v : Value) (acc : List Rl) (I O : List Int) (hs : a.eval s = v) (hown : OwnRs base w v acc) (n m : Nat)
    (hI : csI.toList = I.map (Value.int .i64)) (hO : csO.toList = O.map (Value.int .i64)) (hn : n = I.length) (hm : m = O.length) (hnl : n ≤ maxLen) (hml : m ≤ maxLen)
    (N : Nat) (hN : w.heap.size = N) (hx : a.eval x = .slice (some ⟨N + 1 + 1, 0, none⟩) 1 1) (hsz : acc.length ≤ 1048576) (hbase : base ≤ w.heap.size)
    (h : ∀ v' w', Hid (OwnRs base w' v' (acc ++ [(I, O)])) → Hid (∀ B w0, B ≤ base → Below B w0 w → Below B w0 w') → Hid (∀ (b : Nat) (cs : Array Value) (t : TypeId), t ≠ 97 → w.heap[b]? = some (.cells cs t (0, 0)) → w'.heap[b]? = some (.cells cs t (0, 0))) → wpList Tryz.prog ops Q rest (a.put o.dst v') w') :
    wpList Tryz.prog ops Q (o :: rest) a (((w.alloc (.cells csI 3)).alloc (.cells csO 3)).alloc (.cells #[.slice (some ⟨N, 0, none⟩) n n, .slice (some ⟨N + 1, 0, none⟩) m m] 97)) := by
  have hb1 : Below w.heap.size w (w.alloc (.cells csI 3)) := (Below.refl _ _).alloc (Nat.le_refl _) _
  have hb2 : Below w.heap.size w ((w.alloc (.cells csI 3)).alloc (.cells csO 3)) := hb1.alloc (by simp) _
  have hlt : ∀ b, w.heap.size ≤ b → v.ownBlock ≠ some b := fun b hb e => by
    obtain ⟨xs, h1, _⟩ := hown
    have := own_lt h1 e; omega
  have hp : Us (fun b => v.ownBlock ≠ some b) ((w.alloc (.cells csI 3)).alloc (.cells csO 3)) (.slice (some ⟨N, 0, none⟩) n n) (I, O).1 :=
    (us_newL w N hN I csI hI n hn hnl).up _ fun b _ hb => hlt b (by omega)
  have hq : Us (fun b => v.ownBlock ≠ some b) ((w.alloc (.cells csI 3)).alloc (.cells csO 3)) (.slice (some ⟨N + 1, 0, none⟩) m m) (I, O).2 :=
    (us_newL (w.alloc (.cells csI 3)) (N + 1) (by simp [hN]) O csO hO m hm hml).step (Nat.le_refl _) fun b _ hb => ⟨hlt b (by omega), rfl⟩
  refine wpList_appRG hgd s x ho base v acc _ _ (I, O) hs (hown.below hb2 (Nat.le_refl _)) hp hq (N + 1 + 1) (by simp [hN]) hx hsz (by simp; omega) ?_
  intro v' w' h1 h2 h3
  refine h v' w' h1 (Lib.hid fun B w0 hB hw0 => h2.out B w0 hB ((hw0.alloc (by omega) _).alloc (by simp; omega) _)) (Lib.hid fun b cs t ht hb => h3.out b cs t ht ?_)
  have hbl : b < w.heap.size := (Array.getElem?_eq_some_iff.1 hb).1
  exact (hb2.block b hbl).trans hb
/-- append a row of rules that lie elsewhere -/
theorem wpList_appRsN {w : World} {ops : Array Oper} {rest : List Oper} {o : Oper} {a : Act} {Q : Exit → Act → World → Prop} (hgd : o.guard = none) (s x : Operand)
    (ho : o.op = .call { callee := .builtin .append, args := #[s, x], argTypes := #[54, 54] })
    (base : Nat) (v : Value) (acc : List Rl) (hs : a.eval s = v) (hown : OwnRs base w v acc) (A : Option Addr) (m c : Nat) (xs : List Value) (ss : List Rl) (hx : a.eval x = .slice A m c) (hm : m = ss.length)
    (B : Nat) (hr : Rd w B A xs) (hl : Rls (fun b => v.ownBlock ≠ some b) w xs ss) (hsz : acc.length + ss.length ≤ 1048576) (hbase : base ≤ w.heap.size)
    (h : ∀ v' w', Hid (OwnRs base w' v' (acc ++ ss)) → Hid (∀ B w0, B ≤ base → Below B w0 w → Below B w0 w') → wpList Tryz.prog ops Q rest (a.put o.dst v') w') :
    wpList Tryz.prog ops Q (o :: rest) a w := by
  subst hm
  obtain ⟨i0, hi, hz0, hz1, hz2⟩ := info_parts inforl
  obtain ⟨ys, ho1, hx1⟩ := hown
  refine wpList_appB _ hgd s x 54 ho base 97 i0 _ 2 48 Tryz.underlying54 hi hz0 hz1 hz2 rfl (by decide) v acc.length ys hs ho1 B A ss.length c xs hx (Rls.length hl) hr (Rls.ones hl) (by simp only [maxLen]; omega) (by omega) hbase ?_
  intro v' w4 hown4 hg4 hv4
  refine h v' w4 (Lib.hid ?_) (Lib.hid ?_)
  · exact ⟨ys ++ xs, by simpa using hown4, Rls.grown (hx1.app hl) hg4 hv4⟩
  · intro B0 w0 hB hw0
    exact below_own hw0 hg4 ho1 hB (by omega)
end Go.Proofs.YtmenjcdmdmngcaaGreatDoor
namespace Go.Proofs.YtmenjcdmdmngcaaGreatDoor
set_option linter.unusedVariables false
set_option linter.unusedSimpArgs false
set_option linter.unnecessarySimpa false
open Go.RowKit
/-- append a rule whose two sides were just built, handed on by 'to' -/
theorem wpList_appRF {w : World} {ops : Array Oper} {rest : List Oper} {o : Oper} {a : Act} {Q : Exit → Act → World → Prop} (hgd : o.guard = none) (s x : Operand)
    (ho : o.op = .call { callee := .builtin .append, args := #[s, x], argTypes := #[54, 54] })
    (base : Nat) (v : Value) (acc : List Rl) (p q : Int) (hs : a.eval s = v) (hown : OwnRsF base w v acc)
    (N : Nat) (hN : w.heap.size = N) (hx : a.eval x = .slice (some ⟨N + 1 + 1 + 1, 0, none⟩) 1 1) (hsz : acc.length ≤ 1048576) (hbase : base ≤ w.heap.size)
    (h : ∀ v' w', Hid (OwnRsF base w' v' (acc ++ [([p], [q])])) → Hid (∀ B w0, B ≤ base → Below B w0 w → Below B w0 w') → wpList Tryz.prog ops Q rest (a.put o.dst v') w') :
    wpList Tryz.prog ops Q (o :: rest) a ((((w.alloc (.cells #[.int .i64 p] 3)).alloc (.cells #[.int .i64 q] 3)).alloc (.cells #[.slice (some ⟨N, 0, none⟩) 1 1, .slice (some ⟨N + 1, 0, none⟩) 1 1] 97)).alloc (.cells #[.slice (some ⟨N, 0, none⟩) 1 1, .slice (some ⟨N + 1, 0, none⟩) 1 1] 97)) := by
  show wpList Tryz.prog ops Q (o :: rest) a ((ruT w N ([p], [q])).alloc (.cells #[.slice (some ⟨N, 0, none⟩) 1 1, .slice (some ⟨N + 1, 0, none⟩) 1 1] 97))
  obtain ⟨i0, hi, hz0, hz1, hz2⟩ := info_parts inforl
  have hb3 := ruT_below w N ([p], [q])
  have hz3 := ruT_size w N ([p], [q])
  obtain ⟨u1, u2⟩ := ruT_us w N hN ([p], [q]) (by simp [maxLen]) (by simp [maxLen])
  obtain ⟨xs, ho1, hx1⟩ := hown.below hb3 (Nat.le_refl _)
  obtain ⟨xs0, ho0, hx0⟩ := hown
  have hne : ∀ b, N ≤ b → v.ownBlock ≠ some b := fun b hb e => by have := own_lt ho0 e; omega
  obtain ⟨w3, hw3⟩ : ∃ w3, ruT w N ([p], [q]) = w3 := ⟨_, rfl⟩
  rw [hw3] at hb3 hz3 u1 u2 ho1 hx1 ⊢
  have hA := ho1.alloc (.cells #[.slice (some ⟨N, 0, none⟩) 1 1, .slice (some ⟨N + 1, 0, none⟩) 1 1] 97)
  have hrd := Rd_new w3 #[.slice (some ⟨N, 0, none⟩) 1 1, .slice (some ⟨N + 1, 0, none⟩) 1 1] 97
  rw [show w3.heap.size = N + 1 + 1 + 1 by omega] at hrd
  refine wpList_appB _ hgd s x 54 ho base 97 i0 _ 2 48 Tryz.underlying54 hi hz0 hz1 hz2 rfl (by decide) v acc.length xs hs hA _ _ 1 1 [.slice (some ⟨N, 0, none⟩) 1 1, .slice (some ⟨N + 1, 0, none⟩) 1 1] hx rfl hrd ?_ (by simp only [maxLen]; omega) (by omega) (by simp; omega) ?_
  · intro u hu; simp at hu; rcases hu with rfl | rfl <;> rfl
  intro v' w4 hown4 hg4 hv4
  have hb4 : Below w3.heap.size w3 (w3.alloc (.cells #[.slice (some ⟨N, 0, none⟩) 1 1, .slice (some ⟨N + 1, 0, none⟩) 1 1] 97)) := (Below.refl _ _).alloc (Nat.le_refl _) _
  refine h v' w4 (Lib.hid ?_) (Lib.hid ?_)
  · refine ⟨xs ++ [.slice (some ⟨N, 0, none⟩) 1 1, .slice (some ⟨N + 1, 0, none⟩) 1 1], by simpa using hown4, Rls.grownF (v := v) ?_ hg4 hv4⟩
    refine (hx1.app (Rls.one (r := ([p], [q])) ?_ ?_)).step hb4.size fun b hb hx => ⟨hx, hb4.block b hb⟩
    · exact u1.step (Nat.le_refl _) fun b _ hx => ⟨⟨hne b (by have : b = N := hx; omega), by have : b = N := hx; omega⟩, rfl⟩
    · exact u2.step (Nat.le_refl _) fun b _ hx => ⟨⟨hne b (by have : b = N + 1 := hx; omega), by have : b = N + 1 := hx; omega⟩, rfl⟩
  · intro B w0 hB hw0
    exact below_own ((hw0.trans (hb3.mono (by omega))).trans (hb4.mono (by omega))) hg4 hA hB (by simp; omega)
/-- rules of one unit a side -/
def sgF (f : Int) (outs : List Int) : List Rl := (List.range outs.length).map (fun k : Nat => ([f + (k : Int)], [outs.getD k 0]))
theorem sgF_len (f : Int) (outs : List Int) : (sgF f outs).length = outs.length := by simp [sgF]
theorem sgF_take (f : Int) (outs : List Int) (k : Nat) (h : k < outs.length) : (sgF f outs).take (k + 1) = (sgF f outs).take k ++ [([f + (k : Int)], [outs.getD k 0])] := by
  rw [List.take_succ_eq_append_getElem (by rw [sgF_len]; exact h)]
  simp [sgF]
set_option maxHeartbeats 1600000 in
theorem tsingle_any (w : World) (f : Int) (f0 : 0 ≤ f) (f1 : f ≤ 1000) (n c : Nat) (A : Option Addr) (B : Nat) (outs : List Int) (hn : n = outs.length) (hn1 : n ≤ 1000) (hr : Rd w B A (outs.map (Value.int .i64))) (hB : B ≤ w.heap.size) :
    Calls Tryz.prog 74 #[.int .i64 f, .slice A n c] w fun e w' => ∃ A' c' xs, e = .returned (.slice A' n c') ∧ Rd w' w'.heap.size A' xs ∧ Rls (fun b => w.heap.size ≤ b) w' xs (sgF f outs) ∧ Below w.heap.size w w' := by
  have HR := Lib.hid hr
  have HN := Lib.hid hn
  have n0 : (0 : Int) ≤ n := by omega
  have n1 : (n : Int) ≤ 1000 := by omega
  clear hr hn
  go_enter Tryz.func74, Tryz.ntmps74
  go_wp2_with fail
  go_loopw [5, 10] (fun v i wr => ∃ K : Nat, K ≤ n ∧ i = .int .i64 K ∧ Hid (OwnRsF w.heap.size wr v ((sgF f outs).take K)) ∧ Hid (Below w.heap.size w wr)) (fun _ i _ => n - (intOf i).toNat)
  case atStart => exact ⟨0, by omega, rfl, OwnRsF.nil _ _, Lib.hid (Below.refl _ _)⟩
  case round =>
    obtain ⟨K, hK, rfl, ho, hb⟩ := hrel
    by_cases hKn : K = n
    · subst hKn
      rw [List.take_of_length_le (by rw [sgF_len]; exact Nat.le_of_eq HN.out.symm)] at ho
      obtain ⟨A', c', xs, rfl, h1, h2⟩ := ho.out.form
      rw [sgF_len, ← HN.out]
      have H1 := Lib.hid h1
      have H2 := Lib.hid h2
      clear h1 h2 ho
      go_wp2_with fail
      go_ret
      exact ⟨A', c', xs, rfl, H1.out, H2.out, hb.out⟩
    have hK' : K < n := by omega
    have k3 : (0 : Int) ≤ K := by omega
    have k4 : (K : Int) < n := by omega
    have hwr := hb.out.size
    have hKo : K < outs.length := by rw [← HN.out]; exact hK'
    have HRr := Lib.hid (HR.out.below (hb.out.mono hB) (Nat.le_refl _))
    obtain ⟨b, o, rfl, _, hc⟩ := rd_ints HRr.out (by omega)
    have k1 := hc K hKo
    have HS := Lib.hid (sgF_take f outs K hKo)
    obtain ⟨s, hs⟩ : ∃ s, outs.getD K 0 = s := ⟨_, rfl⟩
    have HL := Lib.hid (show ((sgF f outs).take K).length ≤ 1048576 by rw [List.length_take]; omega)
    obtain ⟨acc, hacc⟩ : ∃ acc, (sgF f outs).take K = acc := ⟨_, rfl⟩
    rw [hs] at k1 HS
    rw [hacc] at HS HL ho
    obtain ⟨A3, c3, -, rfl, -⟩ := ho.out.form
    clear hc hKn hKo hacc hs
    go_wp2_with fail
    refine (to_any _ _ _ _ _ _ _).mono ?_
    rintro e w5 ⟨rfl, rfl⟩
    go_wp2_with (at_builtin; refine wpList_appRF rfl _ _ rfl w.heap.size (.slice A3 acc.length c3) acc (f + (K : Int)) s rfl ho.out wr.heap.size rfl rfl HL.out hwr ?_)
    intro v7 w7 HN2 HBB
    have HB7 := Lib.hid (HBB.out w.heap.size w (Nat.le_refl _) hb.out)
    have HN3 : Hid (OwnRsF w.heap.size w7 v7 ((sgF f outs).take (K + 1))) := by rw [HS.out]; exact HN2
    clear HN2 HBB
    go_wp2_with fail
    go_roundw
    case rel => exact ⟨K + 1, by omega, by go_num, HN3, HB7⟩
    case measure => simp [intOf]; omega
end Go.Proofs.YtmenjcdmdmngcaaGreatDoor
namespace Go.Proofs.YtmenjcdmdmngcaaGreatDoor
set_option linter.unusedVariables false
set_option linter.unusedSimpArgs false
set_option linter.unnecessarySimpa false
open Go.RowKit

theorem rd_dN {w : World} {B : Nat} {A : Option Addr} {xs : List Value} (h : Rd w B A xs) (m : Nat) : Rd (w.drewN m) B A xs := h.keep (Nat.le_refl _) fun _ _ _ => rfl
set_option maxHeartbeats 800000 in
theorem units_eqA (n : Nat) (A A' : Option Addr) (c c' : Nat) (zs : List Int) (B B' : Nat) (w : World) (hn : n = zs.length) (hr : Rd w B A (zs.map (Value.int .i64))) (hr' : Rd w B' A' (zs.map (Value.int .i64))) (hl : zs.length ≤ 9223372036854775807) :
    Calls Tryz.prog 22 #[.slice A n c, .slice A' n c'] w fun e w' => e = .returned (.bool true) ∧ ∃ m, w' = w.drewN m := by
  subst hn
  have HR := Lib.hid hr
  have HR' := Lib.hid hr'
  clear hr hr'
  go_enter Tryz.func22, Tryz.ntmps22
  go_wp2
  go_loopw [13] (fun i wr => ∃ K m : Nat, K ≤ zs.length ∧ i = .int .i64 K ∧ wr = w.drewN m) (fun i _ => zs.length - (intOf i).toNat)
  case atStart => exact ⟨0, 0, by omega, rfl, rfl⟩
  case round =>
    obtain ⟨K, m, hK, rfl, rfl⟩ := hrel
    by_cases hKl : K = zs.length
    · have hKl' : ¬ K < zs.length := by omega
      clear hKl
      go_wp2
      go_ret
      exact ⟨rfl, m, rfl⟩
    have hKl' : K < zs.length := by omega
    obtain ⟨b, o, rfl, _, hc⟩ := rd_ints HR.out (by omega)
    obtain ⟨b', o', rfl, _, hc'⟩ := rd_ints HR'.out (by omega)
    have k1 := hc K hKl'
    have k2 := hc' K hKl'
    have k0 : (zs.getD K 0 != zs.getD K 0) = false := by simp
    have k3 : (0 : Int) ≤ K := by omega
    have k4 : (K : Int) < zs.length := by omega
    clear hc hc'
    go_wp2_with fail
    go_quiet (fail)
    go_wp2
    go_roundw
    case rel => exact ⟨K + 1, _, by omega, by go_num, rfl⟩
    case measure => simp [intOf]; omega
/-- as the laws ask it -/
theorem units_any (n n' : Nat) (A A' : Option Addr) (c c' : Nat) (xs ys : List Int) (w : World) (he : xs = ys) (hn : n = xs.length) (hn' : n' = ys.length) (hr : RI w A xs) (hr' : RI w A' ys) (hl : xs.length ≤ 140737488355328) :
    Calls Tryz.prog 22 #[.slice A n c, .slice A' n' c'] w fun e w' => e = .returned (.bool true) ∧ Below w.heap.size w w' := by
  subst he
  rw [hn', ← hn]
  exact (units_eqA n A A' c c' xs _ _ w hn hr hr' (by omega)).mono fun e w' ⟨h, m, hm⟩ => ⟨h, by rw [hm]; exact below_dN w m⟩
end Go.Proofs.YtmenjcdmdmngcaaGreatDoor
