/- Append a rule whose units lie where they may onto a row of rules of the call's own. -/
import Derived.Test.YthgomhmalmmhlaaDoorRep
import Derived.Test.YthgomhmalmmhlaaDoorIntR
import Derived.Test.YthgomhmalmmhlaaDoorUsNew
namespace Go.Proofs.YthgomhmalmmhlaaDoor
set_option linter.unusedVariables false
set_option linter.unusedSimpArgs false
set_option linter.unnecessarySimpa false
open Go.RowKit
theorem IR.us {w : World} {base : Nat} {v : Value} {zs : List Int} (h : IR w base v zs) : Us (fun b => base ≤ b) w v zs := by
  by_cases hz : zs = []
  · subst hz
    obtain ⟨A, c, rfl, h1, h2⟩ := h.form
    exact ⟨A, c, rfl, h1, h2, .inl rfl⟩
  · obtain ⟨A, c, e, h1, h2⟩ := h.form
    obtain ⟨g, c', rfl, hb, hl⟩ := h.formG (List.length_pos_iff.2 hz)
    injection e with e1 _ e3
    subst e1 e3
    refine ⟨_, _, rfl, h1, h2, .inr ⟨g, 0, rfl, hl, hb, fun j hj => ?_⟩⟩
    rw [Nat.zero_add, h.cellAt j (by simpa using hj), List.getElem?_map, List.getD_eq_getElem?_getD, List.getElem?_eq_getElem (by simpa using hj)]; rfl
theorem wpList_appRG {w : World} {ops : Array Oper} {rest : List Oper} {o : Oper} {a : Act} {Q : Exit → Act → World → Prop} (hgd : o.guard = none) (s x : Operand)
    (ho : o.op = .call { callee := .builtin .append, args := #[s, x], argTypes := #[41, 41] })
    (base : Nat) (v : Value) (acc : List Rl) (p q : Value) (r : Rl) (hs : a.eval s = v) (hown : OwnRs base w v acc)
    (hp : Us (fun b => v.ownBlock ≠ some b) w p r.1) (hq : Us (fun b => v.ownBlock ≠ some b) w q r.2)
    (N : Nat) (hN : w.heap.size = N) (hx : a.eval x = .slice (some ⟨N, 0, none⟩) 1 1) (hsz : acc.length ≤ 1048576) (hbase : base ≤ w.heap.size)
    (h : ∀ v' w', Hid (OwnRs base w' v' (acc ++ [r])) → Hid (∀ B w0, B ≤ base → Below B w0 w → Below B w0 w') → Hid (∀ (b : Nat) (cs : Array Value) (t : TypeId), t ≠ 49 → w.heap[b]? = some (.cells cs t (0, 0)) → w'.heap[b]? = some (.cells cs t (0, 0))) → wpList Tryd.prog ops Q rest (a.put o.dst v') w') :
    wpList Tryd.prog ops Q (o :: rest) a (w.alloc (.cells #[p, q] 49)) := by
  subst hN
  obtain ⟨i0, hi, hz0, hz1, hz2⟩ := info_parts inforl
  obtain ⟨xs, ho1, hx1⟩ := hown
  have hA := ho1.alloc (.cells #[p, q] 49)
  have hrd := Rd_new w #[p, q] 49
  refine wpList_appB _ hgd s x 41 ho base 49 i0 _ 2 48 Tryd.underlying41 hi hz0 hz1 hz2 rfl (by decide) v acc.length xs hs hA _ _ 1 1 [p, q] hx rfl hrd ?_ (by simp only [maxLen]; omega) (by omega) (by simp; omega) ?_
  · intro u hu; simp at hu; rcases hu with rfl | rfl
    · exact hp.one
    · exact hq.one
  intro v' w4 hown4 hg4 hv4
  have hb3 : Below w.heap.size w (w.alloc (.cells #[p, q] 49)) := (Below.refl _ _).alloc (Nat.le_refl _) _
  refine h v' w4 (Lib.hid ?_) (Lib.hid ?_) (Lib.hid ?_)
  · refine own_push (r := r) (v := v) (xs := xs) (by simpa using hown4) ?_ ?_ ?_ hg4 hv4
    · exact hx1.step hb3.size fun b hb hx => ⟨hx, hb3.block b hb⟩
    · exact hp.step hb3.size fun b hb hx => ⟨hx, hb3.block b hb⟩
    · exact hq.step hb3.size fun b hb hx => ⟨hx, hb3.block b hb⟩
  · intro B w0 hB hw0
    rcases Nat.lt_or_ge w.heap.size B with hl | hl
    · omega
    · exact below_own (hw0.trans (hb3.mono hl)) hg4 hA hB (by simp; omega)
  · intro b cs t ht hqq
    have hbl : b < w.heap.size := (Array.getElem?_eq_some_iff.1 hqq).1
    refine (hg4.block b (by simp; omega) ?_).trans ((hb3.block b hbl).trans hqq)
    intro e
    rcases ho1.2 with ⟨h1, _⟩ | ⟨g, cap, cur, h1, _, h3, _⟩
    · subst h1; cases e
    · subst h1
      injection e with e
      subst e
      rw [hqq] at h3
      injection h3 with h3
      injection h3 with _ h3
      exact ht h3
/-- append a rule whose two sides were just built -/
theorem wpList_appRlL {w : World} {ops : Array Oper} {rest : List Oper} {o : Oper} {a : Act} {Q : Exit → Act → World → Prop} {csI csO : Array Value} (hgd : o.guard = none) (s x : Operand)
    (ho : o.op = .call { callee := .builtin .append, args := #[s, x], argTypes := #[41, 41] })
    (base : Nat) (v : Value) (acc : List Rl) (I O : List Int) (hs : a.eval s = v) (hown : OwnRs base w v acc) (n m : Nat)
    (hI : csI.toList = I.map (Value.int .i64)) (hO : csO.toList = O.map (Value.int .i64)) (hn : n = I.length) (hm : m = O.length) (hnl : n ≤ maxLen) (hml : m ≤ maxLen)
    (N : Nat) (hN : w.heap.size = N) (hx : a.eval x = .slice (some ⟨N + 1 + 1, 0, none⟩) 1 1) (hsz : acc.length ≤ 1048576) (hbase : base ≤ w.heap.size)
    (h : ∀ v' w', Hid (OwnRs base w' v' (acc ++ [(I, O)])) → Hid (∀ B w0, B ≤ base → Below B w0 w → Below B w0 w') → Hid (∀ (b : Nat) (cs : Array Value) (t : TypeId), t ≠ 49 → w.heap[b]? = some (.cells cs t (0, 0)) → w'.heap[b]? = some (.cells cs t (0, 0))) → wpList Tryd.prog ops Q rest (a.put o.dst v') w') :
    wpList Tryd.prog ops Q (o :: rest) a (((w.alloc (.cells csI 3)).alloc (.cells csO 3)).alloc (.cells #[.slice (some ⟨N, 0, none⟩) n n, .slice (some ⟨N + 1, 0, none⟩) m m] 49)) := by
  have hb1 : Below w.heap.size w (w.alloc (.cells csI 3)) := (Below.refl _ _).alloc (Nat.le_refl _) _
  have hb2 : Below w.heap.size w ((w.alloc (.cells csI 3)).alloc (.cells csO 3)) := hb1.alloc (by simp) _
  have hlt : ∀ b, w.heap.size ≤ b → v.ownBlock ≠ some b := fun b hb e => by
    obtain ⟨xs, h1, _⟩ := hown
    have := own_lt h1 e; omega
  have hp : Us (fun b => v.ownBlock ≠ some b) ((w.alloc (.cells csI 3)).alloc (.cells csO 3)) (.slice (some ⟨N, 0, none⟩) n n) (I, O).1 :=
    (us_newL w N hN I csI hI n hn hnl).up _ fun b _ hb => hlt b (by omega)
  have hq : Us (fun b => v.ownBlock ≠ some b) ((w.alloc (.cells csI 3)).alloc (.cells csO 3)) (.slice (some ⟨N + 1, 0, none⟩) m m) (I, O).2 :=
    (us_newL (w.alloc (.cells csI 3)) (N + 1) (by simp [hN]) O csO hO m hm hml).step (Nat.le_refl _) fun b _ hb => ⟨hlt b (by omega), rfl⟩
  refine wpList_appRG hgd s x ho base v acc _ _ (I, O) hs (hown.below hb2 (Nat.le_refl _)) hp hq (N + 1 + 1) (by simp [hN]) hx hsz (by simp; omega) ?_
  intro v' w' h1 h2 h3
  refine h v' w' h1 (Lib.hid fun B w0 hB hw0 => h2.out B w0 hB ((hw0.alloc (by omega) _).alloc (by simp; omega) _)) (Lib.hid fun b cs t ht hb => h3.out b cs t ht ?_)
  have hbl : b < w.heap.size := (Array.getElem?_eq_some_iff.1 hb).1
  exact (hb2.block b hbl).trans hb
/-- append a row of rules that lie elsewhere -/
theorem wpList_appRsN {w : World} {ops : Array Oper} {rest : List Oper} {o : Oper} {a : Act} {Q : Exit → Act → World → Prop} (hgd : o.guard = none) (s x : Operand)
    (ho : o.op = .call { callee := .builtin .append, args := #[s, x], argTypes := #[41, 41] })
    (base : Nat) (v : Value) (acc : List Rl) (hs : a.eval s = v) (hown : OwnRs base w v acc) (A : Option Addr) (m c : Nat) (xs : List Value) (ss : List Rl) (hx : a.eval x = .slice A m c) (hm : m = ss.length)
    (B : Nat) (hr : Rd w B A xs) (hl : Rls (fun b => v.ownBlock ≠ some b) w xs ss) (hsz : acc.length + ss.length ≤ 1048576) (hbase : base ≤ w.heap.size)
    (h : ∀ v' w', Hid (OwnRs base w' v' (acc ++ ss)) → Hid (∀ B w0, B ≤ base → Below B w0 w → Below B w0 w') → wpList Tryd.prog ops Q rest (a.put o.dst v') w') :
    wpList Tryd.prog ops Q (o :: rest) a w := by
  subst hm
  obtain ⟨i0, hi, hz0, hz1, hz2⟩ := info_parts inforl
  obtain ⟨ys, ho1, hx1⟩ := hown
  refine wpList_appB _ hgd s x 41 ho base 49 i0 _ 2 48 Tryd.underlying41 hi hz0 hz1 hz2 rfl (by decide) v acc.length ys hs ho1 B A ss.length c xs hx (Rls.length hl) hr (Rls.ones hl) (by simp only [maxLen]; omega) (by omega) hbase ?_
  intro v' w4 hown4 hg4 hv4
  refine h v' w4 (Lib.hid ?_) (Lib.hid ?_)
  · exact ⟨ys ++ xs, by simpa using hown4, Rls.grown (hx1.app hl) hg4 hv4⟩
  · intro B0 w0 hB hw0
    exact below_own hw0 hg4 ho1 hB (by omega)
end Go.Proofs.YthgomhmalmmhlaaDoor
