/- Append one rule of one unit each side, just built, onto a row of rules of the call's own. -/
import Derived.Test.YthgomhmalmmhlaaDoorRep
namespace Go.Proofs.YthgomhmalmmhlaaDoor
set_option linter.unusedVariables false
set_option linter.unusedSimpArgs false
set_option linter.unnecessarySimpa false
open Go.RowKit

/-- .. where the numbers of the new blocks are spelled otherwise; blocks of other element types stay -/
theorem wpList_appRlN {w : World} {ops : Array Oper} {rest : List Oper} {o : Oper} {a : Act} {Q : Exit → Act → World → Prop} (hgd : o.guard = none) (s x : Operand)
    (ho : o.op = .call { callee := .builtin .append, args := #[s, x], argTypes := #[41, 41] })
    (base : Nat) (v : Value) (acc : List Rl) (p q : Int) (hs : a.eval s = v) (hown : OwnRs base w v acc)
    (N : Nat) (hN : w.heap.size = N) (hx : a.eval x = .slice (some ⟨N + 1 + 1, 0, none⟩) 1 1) (hsz : acc.length ≤ 1048576) (hbase : base ≤ w.heap.size)
    (h : ∀ v' w', Hid (OwnRs base w' v' (acc ++ [([p], [q])])) → Hid (∀ B w0, B ≤ base → Below B w0 w → Below B w0 w') → Hid (∀ (b : Nat) (cs : Array Value) (t : TypeId), t ≠ 49 → w.heap[b]? = some (.cells cs t (0, 0)) → w'.heap[b]? = some (.cells cs t (0, 0))) → wpList Tryd.prog ops Q rest (a.put o.dst v') w') :
    wpList Tryd.prog ops Q (o :: rest) a (((w.alloc (.cells #[.int .i64 p] 3)).alloc (.cells #[.int .i64 q] 3)).alloc (.cells #[.slice (some ⟨N, 0, none⟩) 1 1, .slice (some ⟨N + 1, 0, none⟩) 1 1] 49)) := by
  subst hN
  obtain ⟨i0, hi, hz0, hz1, hz2⟩ := info_parts inforl
  obtain ⟨xs, ho1, hx1⟩ := hown
  have hA := ((ho1.alloc (.cells #[.int .i64 p] 3)).alloc (.cells #[.int .i64 q] 3)).alloc (.cells #[.slice (some ⟨w.heap.size, 0, none⟩) 1 1, .slice (some ⟨w.heap.size + 1, 0, none⟩) 1 1] 49)
  have hrd := Rd_new ((w.alloc (.cells #[.int .i64 p] 3)).alloc (.cells #[.int .i64 q] 3)) #[.slice (some ⟨w.heap.size, 0, none⟩) 1 1, .slice (some ⟨w.heap.size + 1, 0, none⟩) 1 1] 49
  have hz : ((w.alloc (.cells #[.int .i64 p] 3)).alloc (.cells #[.int .i64 q] 3)).heap.size = w.heap.size + 1 + 1 := by simp
  rw [hz] at hrd
  refine wpList_appB _ hgd s x 41 ho base 49 i0 _ 2 48 Tryd.underlying41 hi hz0 hz1 hz2 rfl (by decide) v acc.length xs hs hA _ _ 1 1 [.slice (some ⟨w.heap.size, 0, none⟩) 1 1, .slice (some ⟨w.heap.size + 1, 0, none⟩) 1 1] hx rfl hrd ?_ (by simp only [maxLen]; omega) (by omega) (by simp; omega) ?_
  · intro u hu; simp at hu; rcases hu with rfl | rfl <;> rfl
  intro v' w4 hown4 hg4 hv4
  have hb3 : Below w.heap.size w (((w.alloc (.cells #[.int .i64 p] 3)).alloc (.cells #[.int .i64 q] 3)).alloc (.cells #[.slice (some ⟨w.heap.size, 0, none⟩) 1 1, .slice (some ⟨w.heap.size + 1, 0, none⟩) 1 1] 49)) :=
    (((Below.refl _ _).alloc (Nat.le_refl _) _).alloc (by simp) _).alloc (by simp; omega) _
  have hne : ∀ x, v.ownBlock = some x → x < w.heap.size := fun x hx => own_lt ho1 hx
  refine h v' w4 (Lib.hid ?_) (Lib.hid ?_) (Lib.hid ?_)
  · refine own_push (r := ([p], [q])) (v := v) (xs := xs) (by simpa using hown4) ?_ ?_ ?_ hg4 hv4
    · exact hx1.step hb3.size fun b hb hx => ⟨hx, hb3.block b hb⟩
    · refine (us_new w w.heap.size rfl p).step (by simp) fun b hb he => ⟨?_, ?_⟩
      · intro e; have := hne _ e; have : b = w.heap.size := he; omega
      · rw [Below.heap_alloc _ _ _ (by simp at hb ⊢; omega), Below.heap_alloc _ _ _ (by simpa using hb)]
    · refine (us_new (w.alloc (.cells #[.int .i64 p] 3)) (w.heap.size + 1) (by simp) q).step (by simp) fun b hb he => ⟨?_, ?_⟩
      · intro e; have := hne _ e; have : b = w.heap.size + 1 := he; omega
      · rw [Below.heap_alloc _ _ _ (by simpa using hb)]
  · intro B w0 hB hw0
    rcases Nat.lt_or_ge w.heap.size B with hl | hl
    · omega
    · exact below_own (hw0.trans (hb3.mono hl)) hg4 hA hB (by simp; omega)
  · intro b cs t ht hq
    have hbl : b < w.heap.size := (Array.getElem?_eq_some_iff.1 hq).1
    refine (hg4.block b (by simp; omega) ?_).trans ((hb3.block b hbl).trans hq)
    intro e
    rcases ho1.2 with ⟨h1, _⟩ | ⟨g, cap, cur, h1, _, h3, _⟩
    · subst h1; cases e
    · subst h1
      injection e with e
      subst e
      rw [hq] at h3
      injection h3 with h3
      injection h3 with _ h3
      exact ht h3
theorem wpList_appRl {w : World} {ops : Array Oper} {rest : List Oper} {o : Oper} {a : Act} {Q : Exit → Act → World → Prop} (hgd : o.guard = none) (s x : Operand)
    (ho : o.op = .call { callee := .builtin .append, args := #[s, x], argTypes := #[41, 41] })
    (base : Nat) (v : Value) (acc : List Rl) (p q : Int) (hs : a.eval s = v) (hown : OwnRs base w v acc)
    (hx : a.eval x = .slice (some ⟨w.heap.size + 1 + 1, 0, none⟩) 1 1) (hsz : acc.length ≤ 1048576) (hbase : base ≤ w.heap.size)
    (h : ∀ v' w', Hid (OwnRs base w' v' (acc ++ [([p], [q])])) → Hid (∀ B w0, B ≤ base → Below B w0 w → Below B w0 w') → wpList Tryd.prog ops Q rest (a.put o.dst v') w') :
    wpList Tryd.prog ops Q (o :: rest) a (((w.alloc (.cells #[.int .i64 p] 3)).alloc (.cells #[.int .i64 q] 3)).alloc (.cells #[.slice (some ⟨w.heap.size, 0, none⟩) 1 1, .slice (some ⟨w.heap.size + 1, 0, none⟩) 1 1] 49)) :=
  wpList_appRlN hgd s x ho base v acc p q hs hown _ rfl hx hsz hbase fun v' w' h1 h2 _ => h v' w' h1 h2
end Go.Proofs.YthgomhmalmmhlaaDoor
