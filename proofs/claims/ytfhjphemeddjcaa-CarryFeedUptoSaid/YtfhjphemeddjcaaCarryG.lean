/- Layer 2: two readers, two rows: each stays as it is while the other goes on. -/
import Derived.Test.YtfhjphemeddjcaaCarryF
namespace Go.Proofs.Ytfhjphemeddjcaa
set_option linter.unusedVariables false
open Go.RowKit

section
variable {P : Program} (w : World)
theorem run_app2 (base : Nat) (t ty e : TypeId) (i : TypeInfo) (z : Value) (size bytes : Nat) (ht : P.underlying t = some (.slice e)) (hi : P.info? e = some i) (hz : i.zero = some z)
    (hsize : i.size = size) (hby : i.bytes = bytes) (hzs : z.cells.size = size) (hsz : 0 < size)
    (v : Value) (n : Nat) (xs : List Value) (hown : w.ownsRow base e size v n xs)
    (B : Nat) (A : Option Addr) (m c : Nat) (news : List Value) (hl : news.length = m * size) (hr : Rd w B A news) (h1 : ∀ u ∈ news, u.oneCell' = true)
    (h63 : n + m ≤ maxLen) (hbytes : (n + m) * bytes ≤ 140737488355328) (hbase : base ≤ w.heap.size) :
    ∃ v' w', (Builtin.append_ #[t, t] ty #[v, .slice A m c]).run P w = .ok v' w' ∧ w'.ownsRow base e size v' (n + m) (xs ++ news) ∧ w.grownBy w' v.ownBlock ∧ (v'.ownBlock = v.ownBlock ∨ v'.ownBlock = some w.heap.size) := by
  cases A with
  | none =>
    have hn : news = [] := by
      rcases hr with h | ⟨_, _, h, _⟩
      · exact h
      · cases h
    subst hn
    have hm : m = 0 := by
      rcases Nat.eq_zero_or_pos m with h | h
      · exact h
      · have := Nat.mul_pos h hsz; simp at hl; omega
    subst hm
    refine ⟨v, w, ?_, by simpa using hown, World.grownBy.refl w _, .inl rfl⟩
    rcases hown.2 with ⟨hv, hn0⟩ | ⟨g, cap, cur, hv, _, _, hnc, _⟩
    · subst hv; simp [Builtin.append_, run_underlying ht, sizeOf, typeInfo, hi, Builtin.lenOf, Builtin.firstCells]
    · subst hv; simp [Builtin.append_, run_underlying ht, sizeOf, typeInfo, hi, Builtin.lenOf, Builtin.firstCells, hnc, storeCells]
  | some ad =>
    have hc : ∀ j u, news[j]? = some u → w.cell? (ad.add j) = some u := by
      intro j u hu
      rcases hr with h | ⟨b, off, h, _, hcell⟩
      · subst h; simp at hu
      · injection h with h; subst h
        have hj : j < news.length := by
          rcases Nat.lt_or_ge j news.length with hj | hj
          · exact hj
          · rw [List.getElem?_eq_none hj] at hu; cases hu
        rw [← hu, ← hcell j hj]
        simp [Addr.add]
        split <;> simp_all
    obtain ⟨v', w', hrun, h2, h3, _, h5⟩ := run_append_own_at (P := P) w base t ty e i z size bytes ht hi hz hsize hby hzs hsz v n xs hown ad m c news hl hc h1 h63 hbytes hbase
    exact ⟨v', w', hrun, h2, h3, h5⟩

theorem wpList_app2 {ops : Array Oper} {rest : List Oper} {o : Oper} {a : Act} {Q : Exit → Act → World → Prop} (hgd : o.guard = none) (s x : Operand) (t : TypeId)
    (ho : o.op = .call { callee := .builtin .append, args := #[s, x], argTypes := #[t, t] })
    (base : Nat) (e : TypeId) (i : TypeInfo) (z : Value) (size bytes : Nat) (ht : P.underlying t = some (.slice e)) (hi : P.info? e = some i) (hz : i.zero = some z)
    (hsize : i.size = size) (hby : i.bytes = bytes) (hzs : z.cells.size = size) (hsz : 0 < size)
    (v : Value) (n : Nat) (xs : List Value) (hs : a.eval s = v) (hown : w.ownsRow base e size v n xs)
    (B : Nat) (A : Option Addr) (m c : Nat) (news : List Value) (hx : a.eval x = .slice A m c) (hl : news.length = m * size) (hr : Rd w B A news) (h1 : ∀ u ∈ news, u.oneCell' = true)
    (h63 : n + m ≤ maxLen) (hbytes : (n + m) * bytes ≤ 140737488355328) (hbase : base ≤ w.heap.size)
    (h : ∀ v' w', w'.ownsRow base e size v' (n + m) (xs ++ news) → w.grownBy w' v.ownBlock → Hid (v'.ownBlock = v.ownBlock ∨ v'.ownBlock = some w.heap.size) → wpList P ops Q rest (a.put o.dst v') w') : wpList P ops Q (o :: rest) a w :=
  wpList_plain hgd fun K hK => by
    obtain ⟨v', w', hrun, h2, h3, h4⟩ := run_app2 (P := P) w base t o.type e i z size bytes ht hi hz hsize hby hzs hsz v n xs hown B A m c news hl hr h1 h63 hbytes hbase
    unfold Oper.wp execOp
    simp only [ho, resolve, invoke, builtin, Sem.run_bind, Sem.run_pure, Result.andThen_ok, List.map_toArray, List.map_cons, List.map_nil, hs, hx, hrun]
    exact hK _ _ (h v' w' h2 h3 h4)
theorem wpList_app3 {ops : Array Oper} {rest : List Oper} {o : Oper} {a : Act} {Q : Exit → Act → World → Prop} (hgd : Region.wanted o (yielded ops a.tmps) = true) (s x : Operand) (t : TypeId)
    (ho : o.op = .call { callee := .builtin .append, args := #[s, x], argTypes := #[t, t] })
    (base : Nat) (e : TypeId) (i : TypeInfo) (z : Value) (size bytes : Nat) (ht : P.underlying t = some (.slice e)) (hi : P.info? e = some i) (hz : i.zero = some z)
    (hsize : i.size = size) (hby : i.bytes = bytes) (hzs : z.cells.size = size) (hsz : 0 < size)
    (v : Value) (n : Nat) (xs : List Value) (hs : a.eval s = v) (hown : w.ownsRow base e size v n xs)
    (B : Nat) (A : Option Addr) (m c : Nat) (news : List Value) (hx : a.eval x = .slice A m c) (hl : news.length = m * size) (hr : Rd w B A news) (h1 : ∀ u ∈ news, u.oneCell' = true)
    (h63 : n + m ≤ maxLen) (hbytes : (n + m) * bytes ≤ 140737488355328) (hbase : base ≤ w.heap.size)
    (h : ∀ v' w', w'.ownsRow base e size v' (n + m) (xs ++ news) → w.grownBy w' v.ownBlock → Hid (v'.ownBlock = v.ownBlock ∨ v'.ownBlock = some w.heap.size) → wpList P ops Q rest (a.put o.dst v') w') : wpList P ops Q (o :: rest) a w :=
  BigFrame.wpList_want hgd fun K hK => by
    obtain ⟨v', w', hrun, h2, h3, h4⟩ := run_app2 (P := P) w base t o.type e i z size bytes ht hi hz hsize hby hzs hsz v n xs hown B A m c news hl hr h1 h63 hbytes hbase
    unfold Oper.wp execOp
    simp only [ho, resolve, invoke, builtin, Sem.run_bind, Sem.run_pure, Result.andThen_ok, List.map_toArray, List.map_cons, List.map_nil, hs, hx, hrun]
    exact hK _ _ (h v' w' h2 h3 h4)
end

/-- the two rows lie in different blocks -/
def Dis (v v' : Value) : Prop := ∀ k, v.ownBlock = some k → v'.ownBlock = some k → False
theorem Dis.symm {v v' : Value} (h : Dis v v') : Dis v' v := fun k h1 h2 => h k h2 h1
theorem Dis.step {B size n T : Nat} {v v' v5 : Value} {w : World} {xs : List Value} (h : Dis v v') (ho : w.ownsRow B T size v' n xs) (h5 : v5.ownBlock = v.ownBlock ∨ v5.ownBlock = some w.heap.size) : Dis v5 v' := fun k h1 h2 => by
  rcases h5 with e | e
  · exact h k (e ▸ h1) h2
  · rw [e] at h1
    injection h1 with h1
    have := (ho.lt k h2).2
    omega
theorem Dis.ne {v v' : Value} (h : Dis v v') : v'.ownBlock = none ∨ v'.ownBlock ≠ v.ownBlock := by
  cases hv : v'.ownBlock with
  | none => exact .inl rfl
  | some k => exact .inr fun e => h k e.symm hv

/-- v holds what is known of the first K bytes, in a row at block B or above; the reader at p has the rest -/
def TInv (B p : Nat) (zs : List Int) (K : Nat) (v : Value) (wr : World) : Prop :=
  ∃ xs, wr.ownsRow B 38 4 v (KN 0 (zs.take K)).length xs ∧ Toks wr wr.heap.size xs (KN 0 (zs.take K)) ∧ RdrAt wr p (HD (zs.take K)) ((K : Int) - (HD (zs.take K)).length)
theorem TInv.start {B : Nat} {w : World} {p : Nat} {zs : List Int} (hp : RdrAt w p [] 0) : TInv B p zs 0 (.slice none 0 0) w :=
  ⟨[], World.ownsRow_nil _ _ _ _, trivial, by simpa [HD, heldF] using hp⟩
theorem kept_row {B : Nat} {wr w4 : World} {p n size : Nat} {T : TypeId} {v : Value} {xs : List Value} (hp : p < B) (ho : wr.ownsRow B T size v n xs) (hg : wr.grownBy w4 (some p)) : w4.ownsRow B T size v n xs :=
  ho.kept hg (by
    cases hv : v.ownBlock with
    | none => exact .inl rfl
    | some k =>
      refine .inr fun e => ?_
      have := (ho.lt k hv).1
      injection e with e
      omega)
theorem TInv.next {wr w4 w5 : World} {B p K m : Nat} {zs : List Int} {v v5 : Value} {xs xs4 : List Value} {kn : List Tok} {hd : List Int} (hK : K < zs.length) (hb : ∀ z ∈ zs, 0 ≤ z ∧ z ≤ 255) (hp : p < B)
    (hown : wr.ownsRow B 38 4 v (KN 0 (zs.take K)).length xs) (htok : Toks wr wr.heap.size xs (KN 0 (zs.take K))) (hrd : RdrAt wr p (HD (zs.take K)) ((K : Int) - (HD (zs.take K)).length))
    (hk : KN ((K : Int) - (HD (zs.take K)).length) (HD (zs.take K) ++ [zs.getD K 0]) = kn) (hm : kn.length = m) (hh : HD (HD (zs.take K) ++ [zs.getD K 0]) = hd)
    (ht4 : Toks w4 w4.heap.size xs4 kn) (hr4 : RdrAt w4 p hd ((K : Int) - (HD (zs.take K)).length + (HD (zs.take K)).length + 1 - hd.length)) (hg4 : wr.grownBy w4 (some p))
    (hown5 : w5.ownsRow B 38 4 v5 ((KN 0 (zs.take K)).length + m) (xs ++ xs4)) (hg5 : w4.grownBy w5 v.ownBlock) : TInv B p zs (K + 1) v5 w5 := by
  have hkeep := kept_row hp hown hg4
  obtain ⟨_, _, _, _, e1, e2, _, _⟩ := cstep hK hb
  subst hk hm hh
  refine ⟨xs ++ xs4, ?_, ?_, ?_⟩
  · rw [e1, List.length_append]; exact hown5
  · rw [e1]; exact (((htok.grownP hrd hg4).app ht4).grown (Nat.le_refl _) hg5.size hkeep (by decide) hg5)
  · rw [e2]; exact (hr4.grownV hkeep hp hg5).at_eq (by omega)
theorem TInv.put {wr w4 : World} {B p p' K : Nat} {zs q : List Int} {v' : Value} {at_ : Int} (h : TInv B p' zs K v' wr) (hp : p < B) (hne : p' ≠ p) (hr : RdrAt wr p q at_) (hg : wr.grownBy w4 (some p)) : TInv B p' zs K v' w4 := by
  obtain ⟨xs, h1, h2, h3⟩ := h
  exact ⟨xs, kept_row hp h1 hg, h2.grownP hr hg, h3.other hg hne⟩
theorem TInv.app {w4 w5 : World} {B p' K n : Nat} {zs : List Int} {v v' : Value} {xs : List Value} (h : TInv B p' zs K v' w4) (hp' : p' < B) (ho : w4.ownsRow B 38 4 v n xs) (hd : Dis v v') (hg : w4.grownBy w5 v.ownBlock) : TInv B p' zs K v' w5 := by
  obtain ⟨xs', h1, h2, h3⟩ := h
  exact ⟨xs', h1.kept hg hd.ne, h2.grown (Nat.le_refl _) hg.size ho (by decide) hg, h3.grownV ho hp' hg⟩
theorem TInv.below {B p K : Nat} {zs : List Int} {v : Value} {w w' : World} (h : TInv B p zs K v w) (hb : Below w.heap.size w w') : TInv B p zs K v w' := by
  obtain ⟨xs, h1, h2, h3⟩ := h
  exact ⟨xs, own_below h1 hb (Nat.le_refl _), h2.below hb hb.size, h3.below hb⟩
theorem TInv.all {B p : Nat} {zs : List Int} {v : Value} {w : World} (h : TInv B p zs zs.length v w) : ∃ xs, w.ownsRow B 38 4 v (KN 0 zs).length xs ∧ Toks w w.heap.size xs (KN 0 zs) ∧ RdrAt w p (HD zs) ((zs.length : Int) - (HD zs).length) := by
  unfold TInv at h
  rw [List.take_length] at h
  exact h
end Go.Proofs.Ytfhjphemeddjcaa
