/- Texts of this seat, one behind the other: AddS. -/
import Derived.Test.YtdkcadckbjncjaaDoorZ3
import Derived.RangeFuncBox
namespace Go.Proofs.YtdkcadckbjncjaaDoor
set_option linter.unusedVariables false
set_option linter.unusedSimpArgs false
set_option linter.unnecessarySimpa false
open Go.RowKit
/-- block b holds ints -/
def IntB (w : World) (b : Nat) : Prop := ∃ cs, w.heap[b]? = some (.cells cs 3 (0, 0))
/-- box P holds a row of rules of its own -/
def AddSt (P : Nat) (w : World) (acc : List Rl) : Prop := ∃ v xs, Boxed w P 57 v ∧ w.ownsRow P 75 2 v acc.length xs ∧ Rls (IntB w) w xs acc
theorem own_blockT {w : World} {base size n : Nat} {e : TypeId} {v : Value} {xs : List Value} (h : w.ownsRow base e size v n xs) {g : Nat} (hg : v.ownBlock = some g) : ∃ cur, w.heap[g]? = some (.cells cur e (0, 0)) := by
  rcases h.2 with ⟨rfl, _⟩ | ⟨g', cap, cur, rfl, _, hb, _⟩
  · simp [Value.ownBlock] at hg
  · obtain rfl : g' = g := by simpa [Value.ownBlock] using hg
    exact ⟨cur, hb⟩
theorem AddSt.below {P : Nat} {w w' : World} {acc : List Rl} (h : AddSt P w acc) (hb : Below w.heap.size w w') : AddSt P w' acc := by
  obtain ⟨v, xs, h1, h2, h3⟩ := h
  refine ⟨v, xs, (hb.block P h1.lt).trans h1, own_below h2 hb (Nat.le_refl _), h3.step hb.size fun b hl hx => ⟨?_, hb.block b hl⟩⟩
  obtain ⟨cs, hc⟩ := hx
  exact ⟨cs, (hb.block b hl).trans hc⟩
theorem AddSt.own {P : Nat} {w : World} {acc : List Rl} (h : AddSt P w acc) : ∃ A c, w.cell? ⟨P, 0, none⟩ = some (.slice A acc.length c) ∧ OwnRs P w (.slice A acc.length c) acc := by
  obtain ⟨v, xs, h1, h2, h3⟩ := h
  obtain ⟨A, c, rfl, _⟩ := own_form h2
  refine ⟨A, c, h1.cell, xs, h2, h3.step (Nat.le_refl _) fun b hl hx => ⟨fun e => ?_, rfl⟩⟩
  obtain ⟨cs, hc⟩ := hx
  obtain ⟨cur, hq⟩ := own_blockT h2 e
  rw [hc] at hq
  injection hq with hq
  injection hq with _ hq
  revert hq; decide
theorem AddSt.new (w : World) (P : Nat) (hP : w.heap.size = P) : AddSt P (w.alloc (.cells #[.slice none 0 0] 57)) [] := by
  subst hP
  exact ⟨_, [], Boxed.new w _ _, World.ownsRow_nil _ _ _ _, trivial⟩
theorem add_keep {w w1 : World} {P k : Nat} {v : Value} {xs : List Value} {tmp : Obj} (hB : Boxed w P 57 v) (ho : w.ownsRow P 75 2 v k xs) (hg : (w.alloc tmp).grownBy w1 v.ownBlock) (v' : Value)
    (b : Nat) (cs : Array Value) (t : TypeId) (ht : t ≠ 75) (ht' : t ≠ 57) (hb : w.heap[b]? = some (.cells cs t (0, 0))) : (w1.setCell ⟨P, 0, none⟩ v').heap[b]? = some (.cells cs t (0, 0)) := by
  have hl : b < w.heap.size := (Array.getElem?_eq_some_iff.1 hb).1
  have h1 : b ≠ P := fun e => by
    subst e
    rw [show w.heap[b]? = _ from hB] at hb
    injection hb with hb
    injection hb with _ hb
    exact ht' hb.symm
  have h2 : some b ≠ v.ownBlock := fun e => by
    obtain ⟨cur, hc⟩ := own_blockT ho e.symm
    rw [hb] at hc
    injection hc with hc
    injection hc with _ hc
    exact ht hc
  exact (Below.heap_setCell w1 ⟨P, 0, none⟩ v' b h1).trans ((hg.block b (by simp; omega) h2).trans ((Below.heap_alloc w tmp b hl).trans hb))
theorem wpList_appBx {w : World} {ops : Array Oper} {rest : List Oper} {o : Oper} {a : Act} {Q : Exit → Act → World → Prop} (hgd : o.guard = none) (s x : Operand)
    (ho : o.op = .call { callee := .builtin .append, args := #[s, x], argTypes := #[57, 57] })
    (P : Nat) (v : Value) (k : Nat) (xs : List Value) (p q : Value) (hs : a.eval s = v) (ho1 : w.ownsRow P 75 2 v k xs) (hp : p.oneCell' = true) (hq : q.oneCell' = true)
    (N : Nat) (hN : w.heap.size = N) (hx : a.eval x = .slice (some ⟨N, 0, none⟩) 1 1) (hsz : k ≤ 1048576) (hbase : P ≤ w.heap.size)
    (h : ∀ v' w', Hid (w'.ownsRow P 75 2 v' (k + 1) (xs ++ [p, q])) → Hid ((w.alloc (.cells #[p, q] 75)).grownBy w' v.ownBlock) → wpList Tryd.prog ops Q rest (a.put o.dst v') w') :
    wpList Tryd.prog ops Q (o :: rest) a (w.alloc (.cells #[p, q] 75)) := by
  subst hN
  obtain ⟨i0, hi, hz0, hz1, hz2⟩ := info_parts inforl
  refine wpList_appB _ hgd s x 57 ho P 75 i0 _ 2 48 Tryd.underlying57 hi hz0 hz1 hz2 rfl (by decide) v k xs hs (ho1.alloc _) _ _ 1 1 [p, q] hx rfl (Rd_new w #[p, q] _) ?_ (by simp only [maxLen]; omega) (by omega) (by simp; omega) ?_
  · intro u hu; simp at hu; rcases hu with rfl | rfl
    · exact hp
    · exact hq
  intro v' w4 hown4 hg4 _
  exact h v' w4 (Lib.hid hown4) (Lib.hid hg4)

end Go.Proofs.YtdkcadckbjncjaaDoor
