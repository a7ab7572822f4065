/- Layer 14: a row of rules in a box, pushed to by a closure; the law's own rules. -/
import Derived.Test.YthgomhmalmmhlaaDoorInD
import Derived.RangeFuncBox
namespace Go.Proofs.YthgomhmalmmhlaaDoor
set_option linter.unusedVariables false
set_option linter.unusedSimpArgs false
set_option linter.unnecessarySimpa false
open Go.RowKit

/-- block b holds ints -/
def IntB (w : World) (b : Nat) : Prop := ∃ cs, w.heap[b]? = some (.cells cs 3 (0, 0))
/-- box P holds a row of rules of its own -/
def AddSt (P : Nat) (w : World) (acc : List Rl) : Prop := ∃ v xs, Boxed w P 41 v ∧ w.ownsRow P 49 2 v acc.length xs ∧ Rls (IntB w) w xs acc
theorem own_blockT {w : World} {base size n : Nat} {e : TypeId} {v : Value} {xs : List Value} (h : w.ownsRow base e size v n xs) {g : Nat} (hg : v.ownBlock = some g) : ∃ cur, w.heap[g]? = some (.cells cur e (0, 0)) := by
  rcases h.2 with ⟨rfl, _⟩ | ⟨g', cap, cur, rfl, _, hb, _⟩
  · simp [Value.ownBlock] at hg
  · obtain rfl : g' = g := by simpa [Value.ownBlock] using hg
    exact ⟨cur, hb⟩
theorem AddSt.below {P : Nat} {w w' : World} {acc : List Rl} (h : AddSt P w acc) (hb : Below w.heap.size w w') : AddSt P w' acc := by
  obtain ⟨v, xs, h1, h2, h3⟩ := h
  refine ⟨v, xs, (hb.block P h1.lt).trans h1, own_below h2 hb (Nat.le_refl _), h3.step hb.size fun b hl hx => ⟨?_, hb.block b hl⟩⟩
  obtain ⟨cs, hc⟩ := hx
  exact ⟨cs, (hb.block b hl).trans hc⟩
theorem AddSt.own {P : Nat} {w : World} {acc : List Rl} (h : AddSt P w acc) : ∃ A c, w.cell? ⟨P, 0, none⟩ = some (.slice A acc.length c) ∧ OwnRs P w (.slice A acc.length c) acc := by
  obtain ⟨v, xs, h1, h2, h3⟩ := h
  obtain ⟨A, c, rfl, _⟩ := own_form h2
  refine ⟨A, c, h1.cell, xs, h2, h3.step (Nat.le_refl _) fun b hl hx => ⟨fun e => ?_, rfl⟩⟩
  obtain ⟨cs, hc⟩ := hx
  obtain ⟨cur, hq⟩ := own_blockT h2 e
  rw [hc] at hq
  injection hq with hq
  injection hq with _ hq
  revert hq; decide
theorem AddSt.new (w : World) (P : Nat) (hP : w.heap.size = P) : AddSt P (w.alloc (.cells #[.slice none 0 0] 41)) [] := by
  subst hP
  exact ⟨_, [], Boxed.new w _ _, World.ownsRow_nil _ _ _ _, trivial⟩
theorem add_keep {w w1 : World} {P k : Nat} {v : Value} {xs : List Value} {tmp : Obj} (hB : Boxed w P 41 v) (ho : w.ownsRow P 49 2 v k xs) (hg : (w.alloc tmp).grownBy w1 v.ownBlock) (v' : Value)
    (b : Nat) (cs : Array Value) (t : TypeId) (ht : t ≠ 49) (ht' : t ≠ 41) (hb : w.heap[b]? = some (.cells cs t (0, 0))) : (w1.setCell ⟨P, 0, none⟩ v').heap[b]? = some (.cells cs t (0, 0)) := by
  have hl : b < w.heap.size := (Array.getElem?_eq_some_iff.1 hb).1
  have h1 : b ≠ P := fun e => by
    subst e
    rw [show w.heap[b]? = _ from hB] at hb
    injection hb with hb
    injection hb with _ hb
    exact ht' hb.symm
  have h2 : some b ≠ v.ownBlock := fun e => by
    obtain ⟨cur, hc⟩ := own_blockT ho e.symm
    rw [hb] at hc
    injection hc with hc
    injection hc with _ hc
    exact ht hc
  exact (Below.heap_setCell w1 ⟨P, 0, none⟩ v' b h1).trans ((hg.block b (by simp; omega) h2).trans ((Below.heap_alloc w tmp b hl).trans hb))
theorem wpList_appBx {w : World} {ops : Array Oper} {rest : List Oper} {o : Oper} {a : Act} {Q : Exit → Act → World → Prop} (hgd : o.guard = none) (s x : Operand)
    (ho : o.op = .call { callee := .builtin .append, args := #[s, x], argTypes := #[41, 41] })
    (P : Nat) (v : Value) (k : Nat) (xs : List Value) (p q : Value) (hs : a.eval s = v) (ho1 : w.ownsRow P 49 2 v k xs) (hp : p.oneCell' = true) (hq : q.oneCell' = true)
    (N : Nat) (hN : w.heap.size = N) (hx : a.eval x = .slice (some ⟨N, 0, none⟩) 1 1) (hsz : k ≤ 1048576) (hbase : P ≤ w.heap.size)
    (h : ∀ v' w', Hid (w'.ownsRow P 49 2 v' (k + 1) (xs ++ [p, q])) → Hid ((w.alloc (.cells #[p, q] 49)).grownBy w' v.ownBlock) → wpList Tryd.prog ops Q rest (a.put o.dst v') w') :
    wpList Tryd.prog ops Q (o :: rest) a (w.alloc (.cells #[p, q] 49)) := by
  subst hN
  obtain ⟨i0, hi, hz0, hz1, hz2⟩ := info_parts inforl
  refine wpList_appB _ hgd s x 41 ho P 49 i0 _ 2 48 Tryd.underlying41 hi hz0 hz1 hz2 rfl (by decide) v k xs hs (ho1.alloc _) _ _ 1 1 [p, q] hx rfl (Rd_new w #[p, q] _) ?_ (by simp only [maxLen]; omega) (by omega) (by simp; omega) ?_
  · intro u hu; simp at hu; rcases hu with rfl | rfl
    · exact hp
    · exact hq
  intro v' w4 hown4 hg4 _
  exact h v' w4 (Lib.hid hown4) (Lib.hid hg4)

set_option maxRecDepth 100000 in
set_option maxHeartbeats 1600000 in
theorem add_any (P : Nat) (acc : List Rl) (p q : Value) (r : Rl) (w : World) (h : AddSt P w acc) (hp : Us (IntB w) w p r.1) (hq : Us (IntB w) w q r.2) (hsz : acc.length ≤ 1048576) :
    Calls Tryd.prog 27 #[p, q, .pointer (some ⟨P, 0, none⟩)] w fun e w' => e = .returned (.tuple #[]) ∧ AddSt P w' (acc ++ [r]) ∧ Below P w w' ∧
      (∀ (b : Nat) (cs : Array Value) (t : TypeId), t ≠ 49 → t ≠ 41 → w.heap[b]? = some (.cells cs t (0, 0)) → w'.heap[b]? = some (.cells cs t (0, 0))) := by
  obtain ⟨v, xs, hB, ho, hx⟩ := h
  obtain ⟨A, c, rfl, -, -⟩ := own_form ho
  have HP := Lib.hid hp
  have HQ := Lib.hid hq
  have hpo := hp.one
  have hqo := hq.one
  obtain ⟨Ap, cp, ep, -⟩ := hp
  obtain ⟨Aq, cq, eq, -⟩ := hq
  obtain ⟨lp, hlp⟩ : ∃ n, r.1.length = n := ⟨_, rfl⟩
  obtain ⟨lq, hlq⟩ : ∃ n, r.2.length = n := ⟨_, rfl⟩
  rw [hlp] at ep
  rw [hlq] at eq
  subst ep eq
  have cB := hB.cell
  have hle : P ≤ w.heap.size := Nat.le_of_lt hB.lt
  have HB := Lib.hid hB
  have HO := Lib.hid ho
  have HX := Lib.hid hx
  have HSZ := Lib.hid hsz
  obtain ⟨k, hk⟩ : ∃ k, acc.length = k := ⟨_, rfl⟩
  rw [hk] at cB HB HO HSZ
  have HK := Lib.hid hk
  clear hB ho hx hlp hlq hk hsz
  go_enter Tryd.func27, Tryd.ntmps27
  go_wp2_with (at_builtin; refine wpList_appBx rfl _ _ rfl P (.slice A k c) k xs (.slice Ap lp cp) (.slice Aq lq cq) rfl HO.out hpo hqo w.heap.size rfl rfl HSZ.out hle ?_)
  intro v' w1 HN HG
  obtain ⟨g1, g2, g3, g4, g5⟩ := HB.out.appended (by decide) HO.out hle (Nat.le_refl _) HN.out HG.out
  obtain ⟨g, cap, rfl⟩ := ownsRow_succ HN.out
  have c1 := g1.cell
  have f1 := g1.frozen
  have HR := Lib.hid (add_keep HB.out HO.out HG.out (.slice (some ⟨g, 0, none⟩) (k + 1) cap))
  have G2 := Lib.hid g2
  have G3 := Lib.hid g3
  have G5 := Lib.hid g5
  clear g1 g2 g3 g4 g5
  go_wp2
  go_end0
  have hst : ∀ b, b < w.heap.size → IntB w b → IntB (w1.setCell ⟨P, 0, none⟩ (.slice (some ⟨g, 0, none⟩) (k + 1) cap)) b ∧ (w1.setCell ⟨P, 0, none⟩ (.slice (some ⟨g, 0, none⟩) (k + 1) cap)).heap[b]? = w.heap[b]? := by
    intro b hb hi
    obtain ⟨cs, hc⟩ := hi
    have := HR.out b cs _ (by decide) (by decide) hc
    exact ⟨⟨cs, this⟩, this.trans hc.symm⟩
  have hsz2 : w.heap.size ≤ (w1.setCell ⟨P, 0, none⟩ (.slice (some ⟨g, 0, none⟩) (k + 1) cap)).heap.size := G5.out.size
  refine ⟨rfl, ⟨_, _, G2.out, ?_, (HX.out.step hsz2 hst).app (Rls.one (HP.out.step hsz2 hst) (HQ.out.step hsz2 hst))⟩, G5.out, HR.out⟩
  rw [List.length_append, HK.out]
  exact G3.out
theorem add_lits (P : Nat) (acc : List Rl) (w : World) (I O : List Int) (csI csO : Array Value) (n m N : Nat) (h : AddSt P w acc) (hN : w.heap.size = N)
    (hI : csI.toList = I.map (Value.int .i64)) (hO : csO.toList = O.map (Value.int .i64)) (hn : n = I.length) (hm : m = O.length) (hnl : n ≤ maxLen) (hml : m ≤ maxLen) (hsz : acc.length ≤ 1048576) :
    Calls Tryd.prog 27 #[.slice (some ⟨N, 0, none⟩) n n, .slice (some ⟨N + 1, 0, none⟩) m m, .pointer (some ⟨P, 0, none⟩)] ((w.alloc (.cells csI 3)).alloc (.cells csO 3)) fun e w' =>
      e = .returned (.tuple #[]) ∧ Hid (AddSt P w' (acc ++ [(I, O)])) ∧ Hid (Below P w w') ∧
      Hid (∀ (b : Nat) (cs : Array Value) (t : TypeId), t ≠ 49 → t ≠ 41 → w.heap[b]? = some (.cells cs t (0, 0)) → w'.heap[b]? = some (.cells cs t (0, 0))) := by
  have hP : P ≤ w.heap.size := by obtain ⟨v, xs, h1, _⟩ := h; exact Nat.le_of_lt h1.lt
  have hb1 : Below w.heap.size w (w.alloc (.cells csI 3)) := (Below.refl _ _).alloc (Nat.le_refl _) _
  have hb2 : Below w.heap.size w ((w.alloc (.cells csI 3)).alloc (.cells csO 3)) := hb1.alloc (by simp) _
  have i1 : ((w.alloc (.cells csI 3)).alloc (.cells csO 3)).heap[w.heap.size]? = some (.cells csI 3 (0, 0)) := (Held.new w csI 3).alloc _
  have i2 : ((w.alloc (.cells csI 3)).alloc (.cells csO 3)).heap[w.heap.size + 1]? = some (.cells csO 3 (0, 0)) := by
    have := Held.new (w.alloc (.cells csI 3)) csO 3
    simpa [Held] using this
  refine (add_any P acc _ _ (I, O) _ (h.below hb2) ?_ ?_ hsz).mono ?_
  · exact (us_newL w N hN I csI hI n hn hnl).up _ fun b _ hb => ⟨csI, by rw [hb, ← hN]; exact i1⟩
  · exact (us_newL (w.alloc (.cells csI 3)) (N + 1) (by simp [hN]) O csO hO m hm hml).step (Nat.le_refl _) fun b _ hb => ⟨⟨csO, by rw [hb, ← hN]; exact i2⟩, rfl⟩
  · rintro e w' ⟨rfl, h1, h2, h3⟩
    refine ⟨rfl, Lib.hid h1, Lib.hid ((hb2.mono hP).trans h2), Lib.hid fun b cs t ht ht' hb => h3 b cs t ht ht' ((hb2.block b (Array.getElem?_eq_some_iff.1 hb).1).trans hb)⟩
end Go.Proofs.YthgomhmalmmhlaaDoor
