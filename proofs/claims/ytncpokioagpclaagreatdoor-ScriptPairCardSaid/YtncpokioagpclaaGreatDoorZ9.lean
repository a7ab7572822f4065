/- Texts of this seat, one behind the other: IntR, AppG, TmQ. -/
import Derived.Test.YtncpokioagpclaaGreatDoorZ6
import Derived.Laws.OwnMore
import Derived.Lib.SmallJoins
namespace Go.Proofs.YtncpokioagpclaaGreatDoor
set_option linter.unusedVariables false
set_option linter.unusedSimpArgs false
set_option linter.unnecessarySimpa false
open Go.RowKit

/-- a row of ints of the call's own, from block base on -/
def IR (w : World) (base : Nat) (v : Value) (zs : List Int) : Prop := OwnI .i64 3 w base v zs
/-- the ints zs lie at A, below the heap's end -/
def RI (w : World) (A : Option Addr) (zs : List Int) : Prop := Rd w w.heap.size A (zs.map (Value.int .i64))
theorem IR.nil (w : World) (base : Nat) : IR w base (.slice none 0 0) [] := World.ownsRow_nil _ _ _ _
theorem IR.form {w : World} {base : Nat} {v : Value} {zs : List Int} (h : IR w base v zs) : ∃ A c, v = .slice A zs.length c ∧ zs.length ≤ c ∧ c ≤ maxLen := own_form h
theorem IR.rd {w : World} {base : Nat} {A : Option Addr} {n c : Nat} {zs : List Int} (h : IR w base (.slice A n c) zs) : RI w A zs := by
  obtain ⟨A', c', e, _⟩ := IR.form h
  injection e with e1 e2 e3
  subst e1 e2 e3
  exact Rd.own h
theorem IR.low {w : World} {base base' : Nat} {v : Value} {zs : List Int} (h : IR w base v zs) (hb : base' ≤ base) : IR w base' v zs := own_low h hb
theorem IR.below {w w' : World} {B base : Nat} {v : Value} {zs : List Int} (h : IR w base v zs) (hb : Below B w w') (hB : w.heap.size ≤ B) : IR w' base v zs := own_below h hb hB
theorem IR.alloc {w : World} {base : Nat} {v : Value} {zs : List Int} (h : IR w base v zs) (o : Obj) : IR (w.alloc o) base v zs := h.below ((Below.refl _ w).alloc (Nat.le_refl _) o) (Nat.le_refl _)
theorem IR.drewN {w : World} {base : Nat} {v : Value} {zs : List Int} (h : IR w base v zs) (m : Nat) : IR (w.drewN m) base v zs := h.below (below_dN w m) (Nat.le_refl _)
theorem IR.new (w : World) (x : Int) : IR (w.alloc (.cells #[.int .i64 x] 3)) w.heap.size (.slice (some ⟨w.heap.size, 0, none⟩) 1 1) [x] :=
  ⟨rfl, .inr ⟨w.heap.size, 1, #[.int .i64 x], rfl, Nat.le_refl _, heap_alloc_new w _, Nat.le_refl _, by simp [maxLen], rfl, rfl⟩⟩
theorem infoI : (Tryz.prog.info? 3).map (fun i => (i.zero, i.size, i.bytes)) = some (some (.int .i64 0), 1, 8) := by kernel_rfl

/-- append a slice of ints -/
theorem wpList_appI {w : World} {ops : Array Oper} {rest : List Oper} {o : Oper} {a : Act} {Q : Exit → Act → World → Prop} (hgd : o.guard = none) (s x : Operand)
    (ho : o.op = .call { callee := .builtin .append, args := #[s, x], argTypes := #[34, 34] })
    (base : Nat) (v : Value) (zs : List Int) (hs : a.eval s = v) (hown : IR w base v zs) (A : Option Addr) (m c : Nat) (ys : List Int) (hx : a.eval x = .slice A m c) (hm : m = ys.length) (B : Nat) (hr : Rd w B A (ys.map (Value.int .i64)))
    (hsz : zs.length + ys.length ≤ 17592186044416) (hbase : base ≤ w.heap.size)
    (h : ∀ v' w', Hid (IR w' base v' (zs ++ ys)) → Hid (w.grownBy w' v.ownBlock) → wpList Tryz.prog ops Q rest (a.put o.dst v') w') : wpList Tryz.prog ops Q (o :: rest) a w := by
  obtain ⟨i0, hi, hz0, hz1, hz2⟩ := info_parts infoI
  subst hm
  refine wpList_app w hgd s x 34 ho base 3 i0 (.int .i64 0) 1 8 Tryz.underlying34 hi hz0 hz1 hz2 rfl (by decide) v zs.length _ hs hown B A ys.length c _ hx (by simp) hr (ints_one _ _) (by simp only [maxLen]; omega) (by omega) hbase ?_
  intro v' w' h1 h2
  refine h v' w' (Lib.hid ?_) (Lib.hid h2)
  unfold IR OwnI
  rw [List.length_append, List.map_append]
  exact h1
/-- append one int that a slice was just built of -/
theorem wpList_appI1 {w : World} {ops : Array Oper} {rest : List Oper} {o : Oper} {a : Act} {Q : Exit → Act → World → Prop} (hgd : o.guard = none) (s x : Operand)
    (ho : o.op = .call { callee := .builtin .append, args := #[s, x], argTypes := #[34, 34] })
    (base : Nat) (v : Value) (zs : List Int) (y : Int) (hs : a.eval s = v) (hown : IR w base v zs) (N : Nat) (hx : a.eval x = .slice (some ⟨N, 0, none⟩) 1 1) (hN : w.heap.size = N)
    (hsz : zs.length ≤ 17592186044415) (hbase : base ≤ w.heap.size)
    (h : ∀ v' w', Hid (IR w' base v' (zs ++ [y])) → Hid (w.grownBy w' v.ownBlock) → wpList Tryz.prog ops Q rest (a.put o.dst v') w') : wpList Tryz.prog ops Q (o :: rest) a (w.alloc (.cells #[.int .i64 y] 3)) := by
  subst hN
  refine wpList_appI hgd s x ho base v zs hs (hown.alloc _) _ 1 1 [y] hx rfl _ (IR.new w y).rd (by simp; omega) (by simp; omega) ?_
  intro v' w' h1 h2
  refine h v' w' h1 (Lib.hid ?_)
  exact ((World.grownBy_alloc w _ v.ownBlock).trans h2.out)
theorem IR.own {w : World} {base n c : Nat} {A : Option Addr} {zs : List Int} (h : IR w base (.slice A n c) zs) : n = zs.length ∧ w.ownsRow base 3 1 (.slice A n c) n (zs.map (Value.int .i64)) := by
  obtain ⟨A', c', e, _⟩ := IR.form h
  injection e with e1 e2 e3
  subst e1 e2 e3
  exact ⟨rfl, h⟩
theorem IR.set {w : World} {base g n c : Nat} {zs : List Int} (h : IR w base (.slice (some ⟨g, 0, none⟩) n c) zs) (j : Nat) (x : Int) : IR (w.setCell ⟨g, j, none⟩ (.int .i64 x)) base (.slice (some ⟨g, 0, none⟩) n c) (zs.set j x) := by
  obtain ⟨rfl, h'⟩ := h.own
  have := (World.ownsRow.stored h' j (.int .i64 x)).1
  unfold IR OwnI
  rw [List.length_set, List.map_set]
  exact this
theorem IR.cellAt {w : World} {base g n c : Nat} {zs : List Int} (h : IR w base (.slice (some ⟨g, 0, none⟩) n c) zs) (j : Nat) (hj : j < zs.length) : w.cell? ⟨g, j, none⟩ = some (.int .i64 (zs.getD j 0)) := by
  obtain ⟨rfl, h'⟩ := h.own
  rw [World.ownsRow.cellAt h' j (by simpa using hj), List.getElem?_map, List.getD_eq_getElem?_getD, List.getElem?_eq_getElem hj]; rfl
theorem IR.frozenAt {w : World} {base g n c : Nat} {zs : List Int} (h : IR w base (.slice (some ⟨g, 0, none⟩) n c) zs) (j : Nat) : w.frozen? ⟨g, j, none⟩ = false := World.ownsRow.frozenAt h.own.2 j
theorem IR.formG {w : World} {base : Nat} {v : Value} {zs : List Int} (h : IR w base v zs) (hz : 0 < zs.length) : ∃ g c, v = .slice (some ⟨g, 0, none⟩) zs.length c ∧ base ≤ g ∧ g < w.heap.size := by
  obtain ⟨g, cap, hg⟩ := Joins.ownsRow_form h hz
  exact ⟨g, cap, hg, World.ownsRow.lt h g (by rw [hg]; rfl)⟩
theorem IR.keepsB {w w' : World} {base B : Nat} {v : Value} {zs : List Int} {w0 : World} (hb : Below B w0 w) (hg : w.grownBy w' v.ownBlock) (h : IR w base v zs) (hB : B ≤ base) (hz : B ≤ w.heap.size) : Below B w0 w' := below_own hb hg h hB hz
end Go.Proofs.YtncpokioagpclaaGreatDoor
namespace Go.Proofs.YtncpokioagpclaaGreatDoor
set_option linter.unusedVariables false
set_option linter.unusedSimpArgs false
set_option linter.unnecessarySimpa false
open Go.RowKit
theorem IR.us {w : World} {base : Nat} {v : Value} {zs : List Int} (h : IR w base v zs) : Us (fun b => base ≤ b) w v zs := by
  by_cases hz : zs = []
  · subst hz
    obtain ⟨A, c, rfl, h1, h2⟩ := h.form
    exact ⟨A, c, rfl, h1, h2, .inl rfl⟩
  · obtain ⟨A, c, e, h1, h2⟩ := h.form
    obtain ⟨g, c', rfl, hb, hl⟩ := h.formG (List.length_pos_iff.2 hz)
    injection e with e1 _ e3
    subst e1 e3
    refine ⟨_, _, rfl, h1, h2, .inr ⟨g, 0, rfl, hl, hb, fun j hj => ?_⟩⟩
    rw [Nat.zero_add, h.cellAt j (by simpa using hj), List.getElem?_map, List.getD_eq_getElem?_getD, List.getElem?_eq_getElem (by simpa using hj)]; rfl
theorem wpList_appRG {w : World} {ops : Array Oper} {rest : List Oper} {o : Oper} {a : Act} {Q : Exit → Act → World → Prop} (hgd : o.guard = none) (s x : Operand)
    (ho : o.op = .call { callee := .builtin .append, args := #[s, x], argTypes := #[41, 41] })
    (base : Nat) (v : Value) (acc : List Rl) (p q : Value) (r : Rl) (hs : a.eval s = v) (hown : OwnRs base w v acc)
    (hp : Us (fun b => v.ownBlock ≠ some b) w p r.1) (hq : Us (fun b => v.ownBlock ≠ some b) w q r.2)
    (N : Nat) (hN : w.heap.size = N) (hx : a.eval x = .slice (some ⟨N, 0, none⟩) 1 1) (hsz : acc.length ≤ 1048576) (hbase : base ≤ w.heap.size)
    (h : ∀ v' w', Hid (OwnRs base w' v' (acc ++ [r])) → Hid (∀ B w0, B ≤ base → Below B w0 w → Below B w0 w') → Hid (∀ (b : Nat) (cs : Array Value) (t : TypeId), t ≠ 104 → w.heap[b]? = some (.cells cs t (0, 0)) → w'.heap[b]? = some (.cells cs t (0, 0))) → wpList Tryz.prog ops Q rest (a.put o.dst v') w') :
    wpList Tryz.prog ops Q (o :: rest) a (w.alloc (.cells #[p, q] 104)) := by
  subst hN
  obtain ⟨i0, hi, hz0, hz1, hz2⟩ := info_parts inforl
  obtain ⟨xs, ho1, hx1⟩ := hown
  have hA := ho1.alloc (.cells #[p, q] 104)
  have hrd := Rd_new w #[p, q] 104
  refine wpList_appB _ hgd s x 41 ho base 104 i0 _ 2 48 Tryz.underlying41 hi hz0 hz1 hz2 rfl (by decide) v acc.length xs hs hA _ _ 1 1 [p, q] hx rfl hrd ?_ (by simp only [maxLen]; omega) (by omega) (by simp; omega) ?_
  · intro u hu; simp at hu; rcases hu with rfl | rfl
    · exact hp.one
    · exact hq.one
  intro v' w4 hown4 hg4 hv4
  have hb3 : Below w.heap.size w (w.alloc (.cells #[p, q] 104)) := (Below.refl _ _).alloc (Nat.le_refl _) _
  refine h v' w4 (Lib.hid ?_) (Lib.hid ?_) (Lib.hid ?_)
  · refine own_push (r := r) (v := v) (xs := xs) (by simpa using hown4) ?_ ?_ ?_ hg4 hv4
    · exact hx1.step hb3.size fun b hb hx => ⟨hx, hb3.block b hb⟩
    · exact hp.step hb3.size fun b hb hx => ⟨hx, hb3.block b hb⟩
    · exact hq.step hb3.size fun b hb hx => ⟨hx, hb3.block b hb⟩
  · intro B w0 hB hw0
    rcases Nat.lt_or_ge w.heap.size B with hl | hl
    · omega
    · exact below_own (hw0.trans (hb3.mono hl)) hg4 hA hB (by simp; omega)
  · intro b cs t ht hqq
    have hbl : b < w.heap.size := (Array.getElem?_eq_some_iff.1 hqq).1
    refine (hg4.block b (by simp; omega) ?_).trans ((hb3.block b hbl).trans hqq)
    intro e
    rcases ho1.2 with ⟨h1, _⟩ | ⟨g, cap, cur, h1, _, h3, _⟩
    · subst h1; cases e
    · subst h1
      injection e with e
      subst e
      rw [hqq] at h3
      injection h3 with h3
      injection h3 with _ h3
      exact ht h3
/-- append a row of rules that lie elsewhere -/
theorem wpList_appRsN {w : World} {ops : Array Oper} {rest : List Oper} {o : Oper} {a : Act} {Q : Exit → Act → World → Prop} (hgd : o.guard = none) (s x : Operand)
    (ho : o.op = .call { callee := .builtin .append, args := #[s, x], argTypes := #[41, 41] })
    (base : Nat) (v : Value) (acc : List Rl) (hs : a.eval s = v) (hown : OwnRs base w v acc) (A : Option Addr) (m c : Nat) (xs : List Value) (ss : List Rl) (hx : a.eval x = .slice A m c) (hm : m = ss.length)
    (B : Nat) (hr : Rd w B A xs) (hl : Rls (fun b => v.ownBlock ≠ some b) w xs ss) (hsz : acc.length + ss.length ≤ 1048576) (hbase : base ≤ w.heap.size)
    (h : ∀ v' w', Hid (OwnRs base w' v' (acc ++ ss)) → Hid (∀ B w0, B ≤ base → Below B w0 w → Below B w0 w') → wpList Tryz.prog ops Q rest (a.put o.dst v') w') :
    wpList Tryz.prog ops Q (o :: rest) a w := by
  subst hm
  obtain ⟨i0, hi, hz0, hz1, hz2⟩ := info_parts inforl
  obtain ⟨ys, ho1, hx1⟩ := hown
  refine wpList_appB _ hgd s x 41 ho base 104 i0 _ 2 48 Tryz.underlying41 hi hz0 hz1 hz2 rfl (by decide) v acc.length ys hs ho1 B A ss.length c xs hx (Rls.length hl) hr (Rls.ones hl) (by simp only [maxLen]; omega) (by omega) hbase ?_
  intro v' w4 hown4 hg4 hv4
  refine h v' w4 (Lib.hid ?_) (Lib.hid ?_)
  · exact ⟨ys ++ xs, by simpa using hown4, Rls.grown (hx1.app hl) hg4 hv4⟩
  · intro B0 w0 hB hw0
    exact below_own hw0 hg4 ho1 hB (by omega)
end Go.Proofs.YtncpokioagpclaaGreatDoor
namespace Go.Proofs.YtncpokioagpclaaGreatDoor
set_option linter.unusedVariables false
set_option linter.unusedSimpArgs false
set_option linter.unnecessarySimpa false
open Go.RowKit
/-- append a rule whose two sides were just built, handed on by 'to' -/
theorem wpList_appRF {w : World} {ops : Array Oper} {rest : List Oper} {o : Oper} {a : Act} {Q : Exit → Act → World → Prop} (hgd : o.guard = none) (s x : Operand)
    (ho : o.op = .call { callee := .builtin .append, args := #[s, x], argTypes := #[41, 41] })
    (base : Nat) (v : Value) (acc : List Rl) (p q : Int) (hs : a.eval s = v) (hown : OwnRsF base w v acc)
    (N : Nat) (hN : w.heap.size = N) (hx : a.eval x = .slice (some ⟨N + 1 + 1 + 1, 0, none⟩) 1 1) (hsz : acc.length ≤ 1048576) (hbase : base ≤ w.heap.size)
    (h : ∀ v' w', Hid (OwnRsF base w' v' (acc ++ [([p], [q])])) → Hid (∀ B w0, B ≤ base → Below B w0 w → Below B w0 w') → wpList Tryz.prog ops Q rest (a.put o.dst v') w') :
    wpList Tryz.prog ops Q (o :: rest) a ((((w.alloc (.cells #[.int .i64 p] 3)).alloc (.cells #[.int .i64 q] 3)).alloc (.cells #[.slice (some ⟨N, 0, none⟩) 1 1, .slice (some ⟨N + 1, 0, none⟩) 1 1] 104)).alloc (.cells #[.slice (some ⟨N, 0, none⟩) 1 1, .slice (some ⟨N + 1, 0, none⟩) 1 1] 104)) := by
  show wpList Tryz.prog ops Q (o :: rest) a ((ruT w N ([p], [q])).alloc (.cells #[.slice (some ⟨N, 0, none⟩) 1 1, .slice (some ⟨N + 1, 0, none⟩) 1 1] 104))
  obtain ⟨i0, hi, hz0, hz1, hz2⟩ := info_parts inforl
  have hb3 := ruT_below w N ([p], [q])
  have hz3 := ruT_size w N ([p], [q])
  obtain ⟨u1, u2⟩ := ruT_us w N hN ([p], [q]) (by simp [maxLen]) (by simp [maxLen])
  obtain ⟨xs, ho1, hx1⟩ := hown.below hb3 (Nat.le_refl _)
  obtain ⟨xs0, ho0, hx0⟩ := hown
  have hne : ∀ b, N ≤ b → v.ownBlock ≠ some b := fun b hb e => by have := own_lt ho0 e; omega
  obtain ⟨w3, hw3⟩ : ∃ w3, ruT w N ([p], [q]) = w3 := ⟨_, rfl⟩
  rw [hw3] at hb3 hz3 u1 u2 ho1 hx1 ⊢
  have hA := ho1.alloc (.cells #[.slice (some ⟨N, 0, none⟩) 1 1, .slice (some ⟨N + 1, 0, none⟩) 1 1] 104)
  have hrd := Rd_new w3 #[.slice (some ⟨N, 0, none⟩) 1 1, .slice (some ⟨N + 1, 0, none⟩) 1 1] 104
  rw [show w3.heap.size = N + 1 + 1 + 1 by omega] at hrd
  refine wpList_appB _ hgd s x 41 ho base 104 i0 _ 2 48 Tryz.underlying41 hi hz0 hz1 hz2 rfl (by decide) v acc.length xs hs hA _ _ 1 1 [.slice (some ⟨N, 0, none⟩) 1 1, .slice (some ⟨N + 1, 0, none⟩) 1 1] hx rfl hrd ?_ (by simp only [maxLen]; omega) (by omega) (by simp; omega) ?_
  · intro u hu; simp at hu; rcases hu with rfl | rfl <;> rfl
  intro v' w4 hown4 hg4 hv4
  have hb4 : Below w3.heap.size w3 (w3.alloc (.cells #[.slice (some ⟨N, 0, none⟩) 1 1, .slice (some ⟨N + 1, 0, none⟩) 1 1] 104)) := (Below.refl _ _).alloc (Nat.le_refl _) _
  refine h v' w4 (Lib.hid ?_) (Lib.hid ?_)
  · refine ⟨xs ++ [.slice (some ⟨N, 0, none⟩) 1 1, .slice (some ⟨N + 1, 0, none⟩) 1 1], by simpa using hown4, Rls.grownF (v := v) ?_ hg4 hv4⟩
    refine (hx1.app (Rls.one (r := ([p], [q])) ?_ ?_)).step hb4.size fun b hb hx => ⟨hx, hb4.block b hb⟩
    · exact u1.step (Nat.le_refl _) fun b _ hx => ⟨⟨hne b (by have : b = N := hx; omega), by have : b = N := hx; omega⟩, rfl⟩
    · exact u2.step (Nat.le_refl _) fun b _ hx => ⟨⟨hne b (by have : b = N + 1 := hx; omega), by have : b = N + 1 := hx; omega⟩, rfl⟩
  · intro B w0 hB hw0
    exact below_own ((hw0.trans (hb3.mono (by omega))).trans (hb4.mono (by omega))) hg4 hA hB (by simp; omega)
/-- rules of one unit a side -/
def sgF (f : Int) (outs : List Int) : List Rl := (List.range outs.length).map (fun k : Nat => ([f + (k : Int)], [outs.getD k 0]))
theorem sgF_len (f : Int) (outs : List Int) : (sgF f outs).length = outs.length := by simp [sgF]
theorem sgF_take (f : Int) (outs : List Int) (k : Nat) (h : k < outs.length) : (sgF f outs).take (k + 1) = (sgF f outs).take k ++ [([f + (k : Int)], [outs.getD k 0])] := by
  rw [List.take_succ_eq_append_getElem (by rw [sgF_len]; exact h)]
  simp [sgF]
set_option maxHeartbeats 1600000 in
theorem tsingle_any (w : World) (f : Int) (f0 : 0 ≤ f) (f1 : f ≤ 1000) (n c : Nat) (A : Option Addr) (B : Nat) (outs : List Int) (hn : n = outs.length) (hn1 : n ≤ 1000) (hr : Rd w B A (outs.map (Value.int .i64))) (hB : B ≤ w.heap.size) :
    Calls Tryz.prog 90 #[.int .i64 f, .slice A n c] w fun e w' => ∃ A' c' xs, e = .returned (.slice A' n c') ∧ Rd w' w'.heap.size A' xs ∧ Rls (fun b => w.heap.size ≤ b) w' xs (sgF f outs) ∧ Below w.heap.size w w' := by
  have HR := Lib.hid hr
  have HN := Lib.hid hn
  have n0 : (0 : Int) ≤ n := by omega
  have n1 : (n : Int) ≤ 1000 := by omega
  clear hr hn
  go_enter Tryz.func90, Tryz.ntmps90
  go_wp2_with fail
  go_loopw [5, 10] (fun v i wr => ∃ K : Nat, K ≤ n ∧ i = .int .i64 K ∧ Hid (OwnRsF w.heap.size wr v ((sgF f outs).take K)) ∧ Hid (Below w.heap.size w wr)) (fun _ i _ => n - (intOf i).toNat)
  case atStart => exact ⟨0, by omega, rfl, OwnRsF.nil _ _, Lib.hid (Below.refl _ _)⟩
  case round =>
    obtain ⟨K, hK, rfl, ho, hb⟩ := hrel
    by_cases hKn : K = n
    · subst hKn
      rw [List.take_of_length_le (by rw [sgF_len]; exact Nat.le_of_eq HN.out.symm)] at ho
      obtain ⟨A', c', xs, rfl, h1, h2⟩ := ho.out.form
      rw [sgF_len, ← HN.out]
      have H1 := Lib.hid h1
      have H2 := Lib.hid h2
      clear h1 h2 ho
      go_wp2_with fail
      go_ret
      exact ⟨A', c', xs, rfl, H1.out, H2.out, hb.out⟩
    have hK' : K < n := by omega
    have k3 : (0 : Int) ≤ K := by omega
    have k4 : (K : Int) < n := by omega
    have hwr := hb.out.size
    have hKo : K < outs.length := by rw [← HN.out]; exact hK'
    have HRr := Lib.hid (HR.out.below (hb.out.mono hB) (Nat.le_refl _))
    obtain ⟨b, o, rfl, _, hc⟩ := rd_ints HRr.out (by omega)
    have k1 := hc K hKo
    have HS := Lib.hid (sgF_take f outs K hKo)
    obtain ⟨s, hs⟩ : ∃ s, outs.getD K 0 = s := ⟨_, rfl⟩
    have HL := Lib.hid (show ((sgF f outs).take K).length ≤ 1048576 by rw [List.length_take]; omega)
    obtain ⟨acc, hacc⟩ : ∃ acc, (sgF f outs).take K = acc := ⟨_, rfl⟩
    rw [hs] at k1 HS
    rw [hacc] at HS HL ho
    obtain ⟨A3, c3, -, rfl, -⟩ := ho.out.form
    clear hc hKn hKo hacc hs
    go_wp2_with fail
    refine (to_any _ _ _ _ _ _ _).mono ?_
    rintro e w5 ⟨rfl, rfl⟩
    go_wp2_with (at_builtin; refine wpList_appRF rfl _ _ rfl w.heap.size (.slice A3 acc.length c3) acc (f + (K : Int)) s rfl ho.out wr.heap.size rfl rfl HL.out hwr ?_)
    intro v7 w7 HN2 HBB
    have HB7 := Lib.hid (HBB.out w.heap.size w (Nat.le_refl _) hb.out)
    have HN3 : Hid (OwnRsF w.heap.size w7 v7 ((sgF f outs).take (K + 1))) := by rw [HS.out]; exact HN2
    clear HN2 HBB
    go_wp2_with fail
    go_roundw
    case rel => exact ⟨K + 1, by omega, by go_num, HN3, HB7⟩
    case measure => simp [intOf]; omega
end Go.Proofs.YtncpokioagpclaaGreatDoor
