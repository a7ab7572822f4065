/- Texts of this seat, one behind the other: Rep, Eq, RuleB, RuleC, RuleD, FlatP, RuleE, RuleF, Hold, RdT, RuleP, RuleO, Bs, UsNew, InCr, RowPush, OwnF. -/
import Derived.Test.YtdkcadckbjncjaaDoorProg
import Derived.Test.YtdkcadckbjncjaaDoorZ2
import Derived.Test.YtdkcadckbjncjaaDoorZ1
namespace Go.Proofs.YtdkcadckbjncjaaDoor
set_option linter.unusedVariables false
open Go.RowKit

/-- the cells xs lie at A, in a block that X allows -/
def Rdx (X : Nat → Prop) (w : World) (A : Option Addr) (xs : List Value) : Prop :=
  xs = [] ∨ ∃ b off, A = some ⟨b, off, none⟩ ∧ b < w.heap.size ∧ X b ∧ ∀ j, j < xs.length → w.cell? ⟨b, off + j, none⟩ = xs[j]?
theorem Rdx.nil {X : Nat → Prop} {w : World} {A : Option Addr} : Rdx X w A [] := .inl rfl
theorem cell_block {w w' : World} {b : Nat} (h : w'.heap[b]? = w.heap[b]?) (o : Nat) : w'.cell? ⟨b, o, none⟩ = w.cell? ⟨b, o, none⟩ := World.cell?_of_block (w := w) h
theorem Rdx.step {X Y : Nat → Prop} {w w' : World} {A : Option Addr} {xs : List Value} (h : Rdx X w A xs) (hs : w.heap.size ≤ w'.heap.size) (hk : ∀ b, b < w.heap.size → X b → Y b ∧ w'.heap[b]? = w.heap[b]?) : Rdx Y w' A xs := by
  rcases h with h | ⟨b, off, h1, h2, h3, h4⟩
  · exact .inl h
  · obtain ⟨g1, g2⟩ := hk b h2 h3
    exact .inr ⟨b, off, h1, by omega, g1, fun j hj => (cell_block g2 _).trans (h4 j hj)⟩
theorem Rdx.rd {B : Nat} {X : Nat → Prop} {w : World} {A : Option Addr} {xs : List Value} (h : Rdx X w A xs) (hB : w.heap.size ≤ B) : Rd w B A xs := by
  rcases h with h | ⟨b, off, h1, h2, _, h4⟩
  · exact .inl h
  · exact .inr ⟨b, off, h1, by omega, h4⟩
theorem Rdx.rdB {B : Nat} {w : World} {A : Option Addr} {xs : List Value} (h : Rdx (· < B) w A xs) : Rd w B A xs := by
  rcases h with h | ⟨b, off, h1, h2, h3, h4⟩
  · exact .inl h
  · exact .inr ⟨b, off, h1, h3, h4⟩
theorem Rd.rdx {B : Nat} {w : World} {A : Option Addr} {xs : List Value} (h : Rd w B A xs) : Rdx (· < B) w A xs := by
  rcases h with h | ⟨b, off, h1, h2, h3⟩
  · exact .inl h
  · by_cases hx : xs = []
    · exact .inl hx
    have hl : 0 < xs.length := List.length_pos_iff.2 hx
    refine .inr ⟨b, off, h1, ?_, h2, h3⟩
    have := h3 0 hl
    rcases Nat.lt_or_ge b w.heap.size with hh | hg
    · exact hh
    · simp [World.cell?, Array.getElem?_eq_none hg, List.getElem?_eq_getElem hl] at this

/-- a slice of units -/
def Us (X : Nat → Prop) (w : World) (v : Value) (us : List Int) : Prop := ∃ A c, v = .slice A us.length c ∧ us.length ≤ c ∧ c ≤ maxLen ∧ Rdx X w A (us.map (Value.int .i64))
theorem Us.step {X Y : Nat → Prop} {w w' : World} {v : Value} {us : List Int} (h : Us X w v us) (hs : w.heap.size ≤ w'.heap.size) (hk : ∀ b, b < w.heap.size → X b → Y b ∧ w'.heap[b]? = w.heap[b]?) : Us Y w' v us := by
  obtain ⟨A, c, h1, h2, h3, h4⟩ := h
  exact ⟨A, c, h1, h2, h3, h4.step hs hk⟩

/-- a rule: In, Out -/
abbrev Rl := List Int × List Int
/-- these cells are those of the rules -/
def Rls (X : Nat → Prop) (w : World) : List Value → List Rl → Prop
  | [], [] => True
  | a :: b :: xs, r :: rs => Us X w a r.1 ∧ Us X w b r.2 ∧ Rls X w xs rs
  | _, _ => False
theorem Rls.step {X Y : Nat → Prop} {w w' : World} (hs : w.heap.size ≤ w'.heap.size) (hk : ∀ b, b < w.heap.size → X b → Y b ∧ w'.heap[b]? = w.heap[b]?) : ∀ {xs : List Value} {rs : List Rl}, Rls X w xs rs → Rls Y w' xs rs
  | [], [], _ => trivial
  | a :: b :: xs, r :: rs, ⟨h1, h2, h3⟩ => ⟨h1.step hs hk, h2.step hs hk, Rls.step hs hk h3⟩
theorem Rls.length {X : Nat → Prop} {w : World} : ∀ {xs : List Value} {rs : List Rl}, Rls X w xs rs → xs.length = rs.length * 2
  | [], [], _ => rfl
  | a :: b :: xs, r :: rs, ⟨_, _, h⟩ => by simp only [List.length_cons, Rls.length h]; omega
theorem Rls.app {X : Nat → Prop} {w : World} : ∀ {xs ys : List Value} {rs ss : List Rl}, Rls X w xs rs → Rls X w ys ss → Rls X w (xs ++ ys) (rs ++ ss)
  | [], _, [], _, _, h => h
  | a :: b :: xs, _, r :: rs, _, ⟨h1, h2, h3⟩, h => ⟨h1, h2, Rls.app h3 h⟩
theorem Rls.take {X : Nat → Prop} {w : World} : ∀ (k : Nat) {xs : List Value} {rs : List Rl}, Rls X w xs rs → Rls X w (xs.take (k * 2)) (rs.take k)
  | 0, _, _, _ => by simp [Rls]
  | k + 1, [], [], _ => by simp [Rls]
  | k + 1, a :: b :: xs, r :: rs, ⟨h1, h2, h3⟩ => by
    rw [show (k + 1) * 2 = k * 2 + 1 + 1 from by omega]
    exact ⟨h1, h2, Rls.take k h3⟩
theorem Rls.one {X : Nat → Prop} {w : World} {a b : Value} {r : Rl} (h1 : Us X w a r.1) (h2 : Us X w b r.2) : Rls X w [a, b] [r] := ⟨h1, h2, trivial⟩
theorem Us.one {X : Nat → Prop} {w : World} {v : Value} {us : List Int} (h : Us X w v us) : v.oneCell' = true := by
  obtain ⟨A, c, rfl, _⟩ := h; rfl
theorem Rls.ones {X : Nat → Prop} {w : World} : ∀ {xs : List Value} {rs : List Rl}, Rls X w xs rs → ∀ u ∈ xs, u.oneCell' = true
  | [], [], _, u, hu => by cases hu
  | a :: b :: xs, r :: rs, ⟨h1, h2, h3⟩, u, hu => by
    simp only [List.mem_cons] at hu
    rcases hu with rfl | rfl | hu
    · exact h1.one
    · exact h2.one
    · exact Rls.ones h3 u hu
theorem Rls.at {X : Nat → Prop} {w : World} : ∀ {xs : List Value} {rs : List Rl} (h : Rls X w xs rs) (k : Nat) (hk : k < rs.length),
    ∃ a b, xs[k * 2]? = some a ∧ xs[k * 2 + 1]? = some b ∧ Us X w a rs[k].1 ∧ Us X w b rs[k].2
  | a :: b :: xs, r :: rs, ⟨h1, h2, h3⟩, 0, _ => ⟨a, b, rfl, rfl, h1, h2⟩
  | a :: b :: xs, r :: rs, ⟨h1, h2, h3⟩, k + 1, hk => by
    obtain ⟨a', b', g1, g2, g3, g4⟩ := Rls.at h3 k (by simpa using hk)
    refine ⟨a', b', ?_, ?_, by simpa using g3, by simpa using g4⟩
    · rw [show (k + 1) * 2 = k * 2 + 1 + 1 from by omega]; exact g1
    · rw [show (k + 1) * 2 + 1 = k * 2 + 1 + 1 + 1 from by omega]; exact g2
  | [], [], _, k, hk => by cases hk

/-- a slice of rules, all below block B -/
structure RsAt (w : World) (B : Nat) (A : Option Addr) (n c : Nat) (rs : List Rl) : Prop where
  len : n = rs.length
  fits : n ≤ c
  small : c ≤ maxLen
  lies : ∃ xs, Rd w B A xs ∧ Rls (· < B) w xs rs
theorem RsAt.below {w w' : World} {B B' : Nat} {A : Option Addr} {n c : Nat} {rs : List Rl} (h : RsAt w B A n c rs) (hb : Below B w w') (hB : B ≤ B') : RsAt w' B' A n c rs := by
  obtain ⟨h1, h2, h3, xs, h4, h5⟩ := h
  exact ⟨h1, h2, h3, xs, h4.below hb hB, h5.step hb.size fun b _ hl => ⟨by omega, hb.block b hl⟩⟩
theorem RsAt.belowS {w w' : World} {B B' C : Nat} {A : Option Addr} {n c : Nat} {rs : List Rl} (h : RsAt w B A n c rs) (hb : Below C w w') (hC : B ≤ C) (hB : B ≤ B') : RsAt w' B' A n c rs := h.below (hb.mono hC) hB
theorem RsAt.drewN {w : World} {B : Nat} {A : Option Addr} {n c : Nat} {rs : List Rl} (h : RsAt w B A n c rs) (m : Nat) : RsAt (w.drewN m) B A n c rs := by
  obtain ⟨h1, h2, h3, xs, h4, h5⟩ := h
  exact ⟨h1, h2, h3, xs, h4, h5.step (w := w) (w' := w.drewN m) (Nat.le_refl _) fun b _ hl => ⟨hl, rfl⟩⟩
theorem RsAt.cut {w : World} {B : Nat} {A : Option Addr} {n c : Nat} {rs : List Rl} (h : RsAt w B A n c rs) (k : Nat) (hk : k ≤ n) : RsAt w B A k c (rs.take k) := by
  obtain ⟨h1, h2, h3, xs, h4, h5⟩ := h
  exact ⟨by simp; omega, by omega, h3, xs.take (k * 2), h4.take _, Rls.take k h5⟩
/-- the cells of rule k -/
theorem RsAt.at {w : World} {B : Nat} {A : Option Addr} {n c : Nat} {rs : List Rl} (h : RsAt w B A n c rs) {k : Nat} (hk : k < rs.length) :
    ∃ b off, A = some ⟨b, off, none⟩ ∧ b < B ∧ ∃ A1 n1 c1 A2 n2 c2, w.cell? ⟨b, off + k * 2, none⟩ = some (.slice A1 n1 c1) ∧ w.cell? ⟨b, off + k * 2 + 1, none⟩ = some (.slice A2 n2 c2) ∧
      n1 = rs[k].1.length ∧ n1 ≤ c1 ∧ c1 ≤ maxLen ∧ Rd w B A1 (rs[k].1.map (Value.int .i64)) ∧ n2 = rs[k].2.length ∧ n2 ≤ c2 ∧ c2 ≤ maxLen ∧ Rd w B A2 (rs[k].2.map (Value.int .i64)) := by
  obtain ⟨h1, h2, h3, xs, h4, h5⟩ := h
  have hlen := Rls.length h5
  obtain ⟨a, b', g1, g2, ⟨A1, c1, rfl, e2, e3, e4⟩, ⟨A2, c2, rfl, f2, f3, f4⟩⟩ := Rls.at h5 k hk
  rcases h4 with h | ⟨b, off, k1, k2, k3⟩
  · rw [h] at hlen; simp only [List.length_nil] at hlen; omega
  · exact ⟨b, off, k1, k2, A1, _, c1, A2, _, c2, (k3 _ (by omega)).trans g1, by rw [Nat.add_assoc]; exact (k3 _ (by omega)).trans g2, rfl, e2, e3, e4.rdB, rfl, f2, f3, f4.rdB⟩

/-- a row of rules of the call's own, from block base on: its rules' units lie elsewhere -/
def OwnRs (base : Nat) (w : World) (v : Value) (rs : List Rl) : Prop := ∃ xs, w.ownsRow base 75 2 v rs.length xs ∧ Rls (fun b => v.ownBlock ≠ some b) w xs rs
theorem OwnRs.nil (base : Nat) (w : World) : OwnRs base w (.slice none 0 0) [] := ⟨[], World.ownsRow_nil _ _ _ _, trivial⟩
theorem OwnRs.form {base : Nat} {w : World} {v : Value} {rs : List Rl} (h : OwnRs base w v rs) : ∃ A c, v = .slice A rs.length c ∧ RsAt w w.heap.size A rs.length c rs := by
  obtain ⟨xs, ho, hr⟩ := h
  obtain ⟨A, c, rfl, h1, h2⟩ := own_form ho
  exact ⟨A, c, rfl, rfl, h1, h2, xs, Rd.own ho, hr.step (Nat.le_refl _) fun b hl _ => ⟨hl, rfl⟩⟩
theorem OwnRs.at {base : Nat} {w : World} {A : Option Addr} {n c : Nat} {rs : List Rl} (h : OwnRs base w (.slice A n c) rs) : RsAt w w.heap.size A n c rs := by
  obtain ⟨A', c', e, h'⟩ := h.form
  injection e with e1 e2 e3
  subst e1 e2 e3
  exact h'
theorem own_lt {w : World} {base size n : Nat} {e : TypeId} {v : Value} {xs : List Value} (h : w.ownsRow base e size v n xs) {g : Nat} (hg : v.ownBlock = some g) : g < w.heap.size := by
  rcases h.2 with ⟨rfl, _⟩ | ⟨g', cap, cur, rfl, _, hh, _⟩
  · simp [Value.ownBlock] at hg
  · have : g' = g := by simpa [Value.ownBlock] using hg
    subst this
    rcases Nat.lt_or_ge g' w.heap.size with hl | hg
    · exact hl
    · rw [Array.getElem?_eq_none hg] at hh; cases hh
theorem OwnRs.below {base B : Nat} {w w' : World} {v : Value} {rs : List Rl} (h : OwnRs base w v rs) (hb : Below B w w') (hB : w.heap.size ≤ B) : OwnRs base w' v rs := by
  obtain ⟨xs, ho, hr⟩ := h
  exact ⟨xs, own_below ho hb hB, hr.step hb.size fun b hl hx => ⟨hx, hb.block b (by omega)⟩⟩
theorem OwnRs.low {base base' : Nat} {w : World} {v : Value} {rs : List Rl} (h : OwnRs base w v rs) (hb : base' ≤ base) : OwnRs base' w v rs := by
  obtain ⟨xs, ho, hr⟩ := h
  exact ⟨xs, own_low ho hb, hr⟩

section
variable {P : Program} (w : World)
/-- as run_app: and where the new row lies -/
theorem run_appB (base : Nat) (t ty e : TypeId) (i : TypeInfo) (z : Value) (size bytes : Nat) (ht : P.underlying t = some (.slice e)) (hi : P.info? e = some i) (hz : i.zero = some z)
    (hsize : i.size = size) (hby : i.bytes = bytes) (hzs : z.cells.size = size) (hsz : 0 < size)
    (v : Value) (n : Nat) (xs : List Value) (hown : w.ownsRow base e size v n xs)
    (B : Nat) (A : Option Addr) (m c : Nat) (news : List Value) (hl : news.length = m * size) (hr : Rd w B A news) (h1 : ∀ u ∈ news, u.oneCell' = true)
    (h63 : n + m ≤ maxLen) (hbytes : (n + m) * bytes ≤ 140737488355328) (hbase : base ≤ w.heap.size) :
    ∃ v' w', (Builtin.append_ #[t, t] ty #[v, .slice A m c]).run P w = .ok v' w' ∧ w'.ownsRow base e size v' (n + m) (xs ++ news) ∧ w.grownBy w' v.ownBlock ∧ (v'.ownBlock = v.ownBlock ∨ v'.ownBlock = some w.heap.size) := by
  cases A with
  | none =>
    have hn : news = [] := by
      rcases hr with h | ⟨_, _, h, _⟩
      · exact h
      · cases h
    subst hn
    have hm : m = 0 := by
      rcases Nat.eq_zero_or_pos m with h | h
      · exact h
      · have := Nat.mul_pos h hsz; simp at hl; omega
    subst hm
    refine ⟨v, w, ?_, by simpa using hown, World.grownBy.refl w _, .inl rfl⟩
    rcases hown.2 with ⟨hv, hn0⟩ | ⟨g, cap, cur, hv, _, _, hnc, _⟩
    · subst hv; simp [Builtin.append_, run_underlying ht, sizeOf, typeInfo, hi, Builtin.lenOf, Builtin.firstCells]
    · subst hv; simp [Builtin.append_, run_underlying ht, sizeOf, typeInfo, hi, Builtin.lenOf, Builtin.firstCells, hnc, storeCells]
  | some ad =>
    have hc : ∀ j u, news[j]? = some u → w.cell? (ad.add j) = some u := by
      intro j u hu
      rcases hr with h | ⟨b, off, h, _, hcell⟩
      · subst h; simp at hu
      · injection h with h; subst h
        have hj : j < news.length := by
          rcases Nat.lt_or_ge j news.length with hj | hj
          · exact hj
          · rw [List.getElem?_eq_none hj] at hu; cases hu
        rw [← hu, ← hcell j hj]
        simp [Addr.add]
        split <;> simp_all
    obtain ⟨v', w', hrun, h2, h3, _, h5⟩ := run_append_own_at (P := P) w base t ty e i z size bytes ht hi hz hsize hby hzs hsz v n xs hown ad m c news hl hc h1 h63 hbytes hbase
    exact ⟨v', w', hrun, h2, h3, h5⟩
theorem wpList_appB {ops : Array Oper} {rest : List Oper} {o : Oper} {a : Act} {Q : Exit → Act → World → Prop} (hgd : o.guard = none) (s x : Operand) (t : TypeId)
    (ho : o.op = .call { callee := .builtin .append, args := #[s, x], argTypes := #[t, t] })
    (base : Nat) (e : TypeId) (i : TypeInfo) (z : Value) (size bytes : Nat) (ht : P.underlying t = some (.slice e)) (hi : P.info? e = some i) (hz : i.zero = some z)
    (hsize : i.size = size) (hby : i.bytes = bytes) (hzs : z.cells.size = size) (hsz : 0 < size)
    (v : Value) (n : Nat) (xs : List Value) (hs : a.eval s = v) (hown : w.ownsRow base e size v n xs)
    (B : Nat) (A : Option Addr) (m c : Nat) (news : List Value) (hx : a.eval x = .slice A m c) (hl : news.length = m * size) (hr : Rd w B A news) (h1 : ∀ u ∈ news, u.oneCell' = true)
    (h63 : n + m ≤ maxLen) (hbytes : (n + m) * bytes ≤ 140737488355328) (hbase : base ≤ w.heap.size)
    (h : ∀ v' w', w'.ownsRow base e size v' (n + m) (xs ++ news) → w.grownBy w' v.ownBlock → (v'.ownBlock = v.ownBlock ∨ v'.ownBlock = some w.heap.size) → wpList P ops Q rest (a.put o.dst v') w') : wpList P ops Q (o :: rest) a w :=
  wpList_plain hgd fun K hK => by
    obtain ⟨v', w', hrun, h2, h3, h4⟩ := run_appB (P := P) w base t o.type e i z size bytes ht hi hz hsize hby hzs hsz v n xs hown B A m c news hl hr h1 h63 hbytes hbase
    unfold Oper.wp execOp
    simp only [ho, resolve, invoke, builtin, Sem.run_bind, Sem.run_pure, Result.andThen_ok, List.map_toArray, List.map_cons, List.map_nil, hs, hx, hrun]
    exact hK _ _ (h v' w' h2 h3 h4)
end
/-- what is told of rules elsewhere stays, where only the row itself is written -/
theorem Rls.grown {w w' : World} {v v' : Value} {xs : List Value} {rs : List Rl} (h : Rls (fun b => v.ownBlock ≠ some b) w xs rs) (hg : w.grownBy w' v.ownBlock) (hv : v'.ownBlock = v.ownBlock ∨ v'.ownBlock = some w.heap.size) : Rls (fun b => v'.ownBlock ≠ some b) w' xs rs :=
  h.step hg.size fun b hl hx => ⟨by
    rcases hv with e | e
    · rw [e]; exact hx
    · rw [e]; intro e'; injection e' with e'; omega, hg.block b hl (fun e => hx e.symm)⟩
theorem inforl : (Tryd.prog.info? 75).map (fun i => (i.zero, i.size, i.bytes)) = some (some (.agg #[.slice none 0 0, .slice none 0 0]), 2, 48) := by kernel_rfl
theorem own_push {base : Nat} {w1 w2 : World} {v v' : Value} {rs : List Rl} {xs : List Value} {a b : Value} {r : Rl} (ho : w2.ownsRow base 75 2 v' (rs.length + 1) (xs ++ [a, b])) (hx : Rls (fun b => v.ownBlock ≠ some b) w1 xs rs)
    (ha : Us (fun b => v.ownBlock ≠ some b) w1 a r.1) (hb : Us (fun b => v.ownBlock ≠ some b) w1 b r.2) (hg : w1.grownBy w2 v.ownBlock) (hv : v'.ownBlock = v.ownBlock ∨ v'.ownBlock = some w1.heap.size) : OwnRs base w2 v' (rs ++ [r]) :=
  ⟨xs ++ [a, b], by simpa using ho, Rls.grown (hx.app (Rls.one ha hb)) hg hv⟩
theorem us_new (w : World) (m : Nat) (hm : w.heap.size = m) (z : Int) : Us (fun b => b = m) (w.alloc (.cells #[.int .i64 z] 3)) (.slice (some ⟨m, 0, none⟩) 1 1) [z] := by
  subst hm
  refine ⟨_, 1, rfl, by simp, by simp [maxLen], .inr ⟨w.heap.size, 0, rfl, by simp, rfl, fun j hj => ?_⟩⟩
  obtain rfl : j = 0 := by simpa using hj
  exact World.cell?_alloc_new (w := w) _ _ 0
end Go.Proofs.YtdkcadckbjncjaaDoor
namespace Go.Proofs.YtdkcadckbjncjaaDoor
set_option linter.unusedVariables false
open Go.RowKit

def eqB (a b : List Int) : Bool := decide (a = b)
theorem eqB_t {a b : List Int} (h : a = b) : eqB a b = true := by simp [eqB, h]
theorem eqB_f {a b : List Int} (h : a ≠ b) : eqB a b = false := by simp [eqB, h]
theorem take_next {a b : List Int} {K : Nat} (h : a.take K = b.take K) (ha : K < a.length) (hb : K < b.length) (he : a.getD K 0 = b.getD K 0) : a.take (K + 1) = b.take (K + 1) := by
  have e1 : a.getD K 0 = a[K] := by simp [List.getD_eq_getElem?_getD, ha]
  have e2 : b.getD K 0 = b[K] := by simp [List.getD_eq_getElem?_getD, hb]
  rw [List.take_succ_eq_append_getElem ha, List.take_succ_eq_append_getElem hb, h, ← e1, ← e2, he]
theorem take_all {a b : List Int} {K : Nat} (h : a.take K = b.take K) (ha : K = a.length) (hb : K = b.length) : a = b := by
  rw [List.take_of_length_le (by omega), List.take_of_length_le (by omega)] at h
  exact h
theorem take_not {a b : List Int} {K : Nat} (he : a.getD K 0 ≠ b.getD K 0) : a ≠ b := fun h => he (by rw [h])

set_option maxHeartbeats 800000 in
theorem units_eq (n n' : Nat) (A A' : Option Addr) (c c' : Nat) (zs zs' : List Int) (B B' : Nat) (w : World) (hn : n = zs.length) (hn' : n' = zs'.length) (hr : Rd w B A (zs.map (Value.int .i64))) (hr' : Rd w B' A' (zs'.map (Value.int .i64))) (hl : n ≤ 9223372036854775807) :
    Calls Tryd.prog 25 #[.slice A n c, .slice A' n' c'] w fun e w' => e = .returned (.bool (eqB zs zs')) ∧ ∃ m, w' = w.drewN m := by
  by_cases hnn : n = n'
  · have HR := Lib.hid hr
    have HR' := Lib.hid hr'
    have HN := Lib.hid hn
    have HN' := Lib.hid hn'
    subst hnn
    clear hr hr' hn hn'
    go_enter Tryd.func25, Tryd.ntmps25
    go_wp2
    go_loopw [13] (fun i wr => ∃ K m : Nat, K ≤ n ∧ i = .int .i64 K ∧ wr = w.drewN m ∧ Hid (zs.take K = zs'.take K)) (fun i _ => n - (intOf i).toNat)
    case atStart => exact ⟨0, 0, by omega, rfl, rfl, by simp [Hid]⟩
    case round =>
      obtain ⟨K, m, hK, rfl, rfl, ht⟩ := hrel
      by_cases hKl : K = n
      · have hKl' : ¬ K < n := by omega
        have hall := take_all ht.out (by rw [← HN.out, hKl]) (by rw [← HN'.out, hKl])
        have HA := Lib.hid (eqB_t hall)
        clear hKl hall
        go_wp2
        go_ret
        exact ⟨ret_bool HA.out, m, rfl⟩
      have hKl' : K < n := by omega
      have hK1 : K < zs.length := by rw [← HN.out]; exact hKl'
      have hK2 : K < zs'.length := by rw [← HN'.out]; exact hKl'
      obtain ⟨b, o, rfl, _, hc⟩ := rd_ints HR.out (by omega)
      obtain ⟨b', o', rfl, _, hc'⟩ := rd_ints HR'.out (by omega)
      have k1 := hc K hK1
      have k2 := hc' K hK2
      have k3 : (0 : Int) ≤ K := by omega
      have k4 : (K : Int) < n := by omega
      clear hc hc'
      obtain ⟨p, hp⟩ : ∃ p, zs.getD K 0 = p := ⟨_, rfl⟩
      obtain ⟨q, hq⟩ : ∃ q, zs'.getD K 0 = q := ⟨_, rfl⟩
      rw [hp] at k1
      rw [hq] at k2
      by_cases he : p = q
      · subst he
        have k0 : (p != p) = false := by simp
        have HT := Lib.hid (take_next ht.out hK1 hK2 (hp.trans hq.symm))
        clear hp hq
        go_wp2_with fail
        go_quiet (fail)
        go_wp2
        go_roundw
        case rel => exact ⟨K + 1, _, by omega, by go_num, rfl, HT⟩
        case measure => simp [intOf]; omega
      · have k0 : (p != q) = true := by simpa using he
        have HA := Lib.hid (eqB_f (take_not (a := zs) (b := zs') (K := K) (by rw [hp, hq]; exact he)))
        clear hp hq he
        go_wp2_with fail
        go_quiet (fail)
        go_wp2
        go_ret
        exact ⟨ret_bool HA.out, _, by rw [World.drewN_drewN]⟩
  · have h0 : ((n : Int) != n') = true := by rw [bne_iff_ne]; omega
    have HA := Lib.hid (eqB_f (a := zs) (b := zs') (by intro h; rw [h] at hn; omega))
    clear hr hr' hn hn' hnn
    go_enter Tryd.func25, Tryd.ntmps25
    go_wp2
    go_ret
    exact ⟨ret_bool HA.out, 0, rfl⟩

set_option maxHeartbeats 800000 in
theorem equal_eq (n n' : Nat) (A A' : Option Addr) (c c' : Nat) (zs zs' : List Int) (B B' : Nat) (w : World) (hn : n = zs.length) (hn' : n' = zs'.length) (hr : Rd w B A (zs.map (Value.int .i64))) (hr' : Rd w B' A' (zs'.map (Value.int .i64))) (hl : n ≤ 9223372036854775807) :
    Calls Tryd.prog 78 #[.slice A n c, .slice A' n' c'] w fun e w' => e = .returned (.bool (eqB zs zs')) ∧ ∃ m, w' = w.drewN m := by
  by_cases hnn : n = n'
  · have HR := Lib.hid hr
    have HR' := Lib.hid hr'
    have HN := Lib.hid hn
    have HN' := Lib.hid hn'
    subst hnn
    clear hr hr' hn hn'
    go_enter Tryd.func78, Tryd.ntmps78
    go_wp2
    go_loopw [13] (fun i wr => ∃ K m : Nat, K ≤ n ∧ i = .int .i64 K ∧ wr = w.drewN m ∧ Hid (zs.take K = zs'.take K)) (fun i _ => n - (intOf i).toNat)
    case atStart => exact ⟨0, 0, by omega, rfl, rfl, by simp [Hid]⟩
    case round =>
      obtain ⟨K, m, hK, rfl, rfl, ht⟩ := hrel
      by_cases hKl : K = n
      · have hKl' : ¬ K < n := by omega
        have hall := take_all ht.out (by rw [← HN.out, hKl]) (by rw [← HN'.out, hKl])
        have HA := Lib.hid (eqB_t hall)
        clear hKl hall
        go_wp2
        go_ret
        exact ⟨ret_bool HA.out, m, rfl⟩
      have hKl' : K < n := by omega
      have hK1 : K < zs.length := by rw [← HN.out]; exact hKl'
      have hK2 : K < zs'.length := by rw [← HN'.out]; exact hKl'
      obtain ⟨b, o, rfl, _, hc⟩ := rd_ints HR.out (by omega)
      obtain ⟨b', o', rfl, _, hc'⟩ := rd_ints HR'.out (by omega)
      have k1 := hc K hK1
      have k2 := hc' K hK2
      have k3 : (0 : Int) ≤ K := by omega
      have k4 : (K : Int) < n := by omega
      clear hc hc'
      obtain ⟨p, hp⟩ : ∃ p, zs.getD K 0 = p := ⟨_, rfl⟩
      obtain ⟨q, hq⟩ : ∃ q, zs'.getD K 0 = q := ⟨_, rfl⟩
      rw [hp] at k1
      rw [hq] at k2
      by_cases he : p = q
      · subst he
        have k0 : (p != p) = false := by simp
        have HT := Lib.hid (take_next ht.out hK1 hK2 (hp.trans hq.symm))
        clear hp hq
        go_wp2_with fail
        go_quiet (fail)
        go_wp2
        go_roundw
        case rel => exact ⟨K + 1, _, by omega, by go_num, rfl, HT⟩
        case measure => simp [intOf]; omega
      · have k0 : (p != q) = true := by simpa using he
        have HA := Lib.hid (eqB_f (take_not (a := zs) (b := zs') (K := K) (by rw [hp, hq]; exact he)))
        clear hp hq he
        go_wp2_with fail
        go_quiet (fail)
        go_wp2
        go_ret
        exact ⟨ret_bool HA.out, _, by rw [World.drewN_drewN]⟩
  · have h0 : ((n : Int) != n') = true := by rw [bne_iff_ne]; omega
    have HA := Lib.hid (eqB_f (a := zs) (b := zs') (by intro h; rw [h] at hn; omega))
    clear hr hr' hn hn' hnn
    go_enter Tryd.func78, Tryd.ntmps78
    go_wp2
    go_ret
    exact ⟨ret_bool HA.out, 0, rfl⟩
end Go.Proofs.YtdkcadckbjncjaaDoor
namespace Go.Proofs.YtdkcadckbjncjaaDoor
set_option linter.unusedVariables false
open Go.RowKit

theorem find_next {rs : List Rl} {u : List Int} {K : Nat} {v : Int} (h : findFrom K (rs.drop K) u = v) (hK : K < rs.length) (hn : rs[K].1 ≠ u) : findFrom ((K + 1 : Nat) : Int) (rs.drop (K + 1)) u = v := by
  rw [List.drop_eq_getElem_cons hK] at h
  simp only [findFrom, if_neg hn] at h
  rw [show ((K + 1 : Nat) : Int) = (K : Int) + 1 from by omega]
  exact h
theorem find_here {rs : List Rl} {u : List Int} {K : Nat} {v : Int} (h : findFrom K (rs.drop K) u = v) (hK : K < rs.length) (hn : rs[K].1 = u) : v = K := by
  rw [List.drop_eq_getElem_cons hK] at h
  simp only [findFrom, if_pos hn] at h
  exact h.symm
theorem find_end {rs : List Rl} {u : List Int} {K : Nat} {v : Int} (h : findFrom K (rs.drop K) u = v) (hK : rs.length ≤ K) : v = -1 := by
  rw [List.drop_of_length_le hK] at h
  exact h.symm
theorem below_dr {B : Nat} {w w' : World} (h : Below B w w') (m : Nat) : Below B w (w'.drewN m) := ⟨h.os, h.tape, h.output, h.size, h.block⟩

set_option maxHeartbeats 800000 in
theorem find_any (n n' : Nat) (A A' : Option Addr) (c c' : Nat) (rs : List Rl) (u : List Int) (B B' : Nat) (w : World) (hr : RsAt w B A n c rs) (hn' : n' = u.length) (hr' : Rd w B' A' (u.map (Value.int .i64))) (hl' : n' ≤ c') (hc' : c' ≤ maxLen) (hB : B ≤ w.heap.size) (hB' : B' ≤ w.heap.size) (v : Int) (hv : findR rs u = v) :
    Calls Tryd.prog 67 #[.slice A n c, .slice A' n' c'] w fun e w' => e = .returned (.int .i64 v) ∧ Below w.heap.size w w' := by
  have HR := Lib.hid hr
  have HR' := Lib.hid hr'
  have HN' := Lib.hid hn'
  have HV := Lib.hid hv
  have hn1 := hr.fits
  have hn2 := hr.small
  unfold maxLen at hn2 hc'
  clear hr hr' hn' hv
  go_enter Tryd.func67, Tryd.ntmps67
  go_wp2
  go_loopw [9] (fun i wr => ∃ K : Nat, K ≤ n ∧ i = .int .i64 K ∧ Below w.heap.size w wr ∧ Hid (findFrom K (rs.drop K) u = v)) (fun i _ => n - (intOf i).toNat)
  case atStart => exact ⟨0, by omega, rfl, Below.refl _ _, HV.out⟩
  case round =>
    obtain ⟨K, hK, rfl, hb, hf⟩ := hrel
    by_cases hKn : K = n
    · have hK' : ¬ K < n := by omega
      have HE := Lib.hid (find_end hf.out (by rw [← HR.out.len, hKn]; omega))
      clear hKn
      go_wp2
      go_ret
      exact ⟨ret_int HE.out, hb⟩
    have hK' : K < n := by omega
    have hK1 : K < rs.length := by rw [← HR.out.len]; exact hK'
    obtain ⟨b, o, rfl, hbB, A1, n1, c1, A2, n2, c2, g1, g2, e1, e2, e3, e4, f1, f2, f3, f4⟩ := HR.out.at hK1
    have k1 := (hb.cell (p := ⟨b, o + K * 2, none⟩) (by show b < _; omega)).trans g1
    have k2 := (hb.cell (p := ⟨b, o + K * 2 + 1, none⟩) (by show b < _; omega)).trans g2
    have k3 : (0 : Int) ≤ K := by omega
    have k4 : (K : Int) < n := by omega
    have E1 := Lib.hid e1
    have E4 := Lib.hid (e4.below (hb.mono hB) (Nat.le_refl _))
    have R4 := Lib.hid (HR'.out.below (hb.mono hB') (Nat.le_refl _))
    unfold maxLen at e3 f3
    clear g1 g2 e1 e4 f1 f4
    by_cases he : rs[K].1 = u
    · have HE := Lib.hid (find_here hf.out hK1 he)
      have HQ := Lib.hid (eqB_t he)
      clear he
      go_wp2_with fail
      refine (equal_eq n1 n' A1 A' c1 c' rs[K].1 u B B' _ E1.out HN'.out ?_ ?_ (by omega)).mono ?_
      · exact E4.out.below (((Below.refl _ _).alloc (Nat.le_refl _) _).mono (Nat.le_trans hB hb.size)) (Nat.le_refl _)
      · exact R4.out.below (((Below.refl _ _).alloc (Nat.le_refl _) _).mono (Nat.le_trans hB' hb.size)) (Nat.le_refl _)
      rintro e w1 ⟨rfl, m, rfl⟩
      rw [HQ.out]
      go_wp2
      go_ret
      exact ⟨ret_int HE.out, below_dr (hb.trans (((Below.refl _ _).alloc (Nat.le_refl _) _).mono hb.size)) m⟩
    · have HE := Lib.hid (find_next hf.out hK1 he)
      have HQ := Lib.hid (eqB_f he)
      clear he
      go_wp2_with fail
      refine (equal_eq n1 n' A1 A' c1 c' rs[K].1 u B B' _ E1.out HN'.out ?_ ?_ (by omega)).mono ?_
      · exact E4.out.below (((Below.refl _ _).alloc (Nat.le_refl _) _).mono (Nat.le_trans hB hb.size)) (Nat.le_refl _)
      · exact R4.out.below (((Below.refl _ _).alloc (Nat.le_refl _) _).mono (Nat.le_trans hB' hb.size)) (Nat.le_refl _)
      rintro e w1 ⟨rfl, m, rfl⟩
      rw [HQ.out]
      go_wp2
      go_roundw
      case rel => exact ⟨K + 1, by omega, by go_num, below_dr (hb.trans (((Below.refl _ _).alloc (Nat.le_refl _) _).mono hb.size)) m, HE⟩
      case measure => simp [intOf]; omega
end Go.Proofs.YtdkcadckbjncjaaDoor
namespace Go.Proofs.YtdkcadckbjncjaaDoor
set_option linter.unusedVariables false
open Go.RowKit

theorem all_getD {us : List Int} (h : ∀ j, j < us.length → 0 ≤ us.getD j 0 ∧ us.getD j 0 ≤ 1114111) : ∀ u ∈ us, 0 ≤ u ∧ u ≤ 1114111 := by
  intro u hu
  obtain ⟨j, hj, rfl⟩ := List.getElem_of_mem hu
  have := h j hj
  simpa [List.getD_eq_getElem?_getD, hj] using this
theorem side_t {us : List Int} (h1 : 1 ≤ us.length) (h2 : us.length ≤ 8) (h : ∀ j, j < us.length → 0 ≤ us.getD j 0 ∧ us.getD j 0 ≤ 1114111) : sideB us = true := by
  simp only [sideB, decide_eq_true_eq]; exact ⟨h1, h2, all_getD h⟩
theorem side_f {us : List Int} (h : ¬ (1 ≤ us.length ∧ us.length ≤ 8)) : sideB us = false := by
  simp only [sideB, decide_eq_false_iff_not]; exact fun hh => h ⟨hh.1, hh.2.1⟩
theorem side_u {us : List Int} {j : Nat} (hj : j < us.length) (h : ¬ (0 ≤ us.getD j 0 ∧ us.getD j 0 ≤ 1114111)) : sideB us = false := by
  simp only [sideB, decide_eq_false_iff_not]
  intro hh
  have := hh.2.2 _ (List.getElem_mem hj)
  apply h
  simpa [List.getD_eq_getElem?_getD, hj] using this
theorem all_next {us : List Int} {K : Nat} (h : ∀ j, j < K → 0 ≤ us.getD j 0 ∧ us.getD j 0 ≤ 1114111) (h1 : 0 ≤ us.getD K 0 ∧ us.getD K 0 ≤ 1114111) : ∀ j, j < K + 1 → 0 ≤ us.getD j 0 ∧ us.getD j 0 ≤ 1114111 := by
  intro j hj
  by_cases e : j = K
  · rw [e]; exact h1
  · exact h j (by omega)

set_option maxHeartbeats 800000 in
theorem side_any (n : Nat) (A : Option Addr) (c : Nat) (us : List Int) (B : Nat) (w : World) (hn : n = us.length) (hr : Rd w B A (us.map (Value.int .i64))) (hl : n ≤ 9223372036854775807) (v : Bool) (hv : sideB us = v) :
    Calls Tryd.prog 86 #[.slice A n c] w fun e w' => e = .returned (.bool v) ∧ w = w' := by
  have HN := Lib.hid hn
  have HR := Lib.hid hr
  have HV := Lib.hid hv
  clear hn hr hv
  by_cases h0 : n < 1
  · go_enter Tryd.func86, Tryd.ntmps86
    go_wp2
    go_ret
    exact ⟨ret_bool (HV.out.symm.trans (side_f (by rw [← HN.out]; omega))), rfl⟩
  by_cases h9 : 8 < n
  · go_enter Tryd.func86, Tryd.ntmps86
    go_wp2
    go_ret
    exact ⟨ret_bool (HV.out.symm.trans (side_f (by rw [← HN.out]; omega))), rfl⟩
  go_enter Tryd.func86, Tryd.ntmps86
  go_wp2
  go_loop [15] (fun i => ∃ K : Nat, K ≤ n ∧ i = .int .i64 K ∧ Hid (∀ j, j < K → 0 ≤ us.getD j 0 ∧ us.getD j 0 ≤ 1114111)) (fun i => n - (intOf i).toNat)
  case atStart => exact ⟨0, by omega, rfl, by intro j hj; omega⟩
  case round =>
    obtain ⟨K, hK, rfl, ht⟩ := hrel
    by_cases hKn : K = n
    · have hK' : ¬ K < n := by omega
      have ha : ∀ j, j < us.length → 0 ≤ us.getD j 0 ∧ us.getD j 0 ≤ 1114111 := fun j hj => ht.out j (by rw [hKn, HN.out]; exact hj)
      have HA := Lib.hid ha
      clear hKn ha
      go_wp2
      go_ret
      exact ⟨ret_bool (HV.out.symm.trans (side_t (by rw [← HN.out]; omega) (by rw [← HN.out]; omega) HA.out)), rfl⟩
    have hK' : K < n := by omega
    have hK1 : K < us.length := by rw [← HN.out]; exact hK'
    obtain ⟨b, o, rfl, _, hc⟩ := rd_ints HR.out (by omega)
    have k1 := hc K hK1
    obtain ⟨p, hp⟩ : ∃ p, us.getD K 0 = p := ⟨_, rfl⟩
    rw [hp] at k1
    have HP := Lib.hid hp
    clear hc hp
    by_cases h1 : p < 0
    · go_wp2
      go_ret
      exact ⟨ret_bool (HV.out.symm.trans (side_u hK1 (by rw [HP.out]; omega))), rfl⟩
    by_cases h2 : 1114111 < p
    · go_wp2
      go_ret
      exact ⟨ret_bool (HV.out.symm.trans (side_u hK1 (by rw [HP.out]; omega))), rfl⟩
    have HT := Lib.hid (all_next ht.out (by rw [HP.out]; omega))
    go_wp2
    go_round
    case rel => exact ⟨K + 1, by omega, by go_num, HT⟩
    case measure => simp [intOf]; omega
end Go.Proofs.YtdkcadckbjncjaaDoor
namespace Go.Proofs.YtdkcadckbjncjaaDoor
set_option linter.unusedVariables false
open Go.RowKit
theorem infoint : (Tryd.prog.info? 3).map (fun i => (i.zero, i.size, i.bytes)) = some (some (.int .i64 0), 1, 8) := by kernel_rfl

theorem us_own {base n : Nat} {w : World} {v : Value} {us : List Int} (h : w.ownsRow base 3 1 v n (us.map (Value.int .i64))) (hn : n = us.length) : ∃ A c, v = .slice A n c ∧ Us (fun b => base ≤ b) w (.slice A n c) us := by
  subst hn
  obtain ⟨A, c, rfl, h1, h2⟩ := own_form h
  refine ⟨A, c, rfl, A, c, rfl, h1, h2, ?_⟩
  rcases Rd.own h with h3 | ⟨b, o, rfl, h3, h4⟩
  · exact .inl h3
  · exact .inr ⟨b, o, rfl, h3, (h.lt b rfl).1, h4⟩

set_option maxHeartbeats 800000 in
theorem clone_any (n : Nat) (A : Option Addr) (c : Nat) (us : List Int) (B : Nat) (w : World) (hn : n = us.length) (hr : Rd w B A (us.map (Value.int .i64))) (hB : B ≤ w.heap.size) (hl : n ≤ 17592186044416) :
    Calls Tryd.prog 65 #[.slice A n c] w fun e w' => ∃ A' c', e = .returned (.slice A' n c') ∧ Us (fun b => w.heap.size ≤ b) w' (.slice A' n c') us ∧ Below w.heap.size w w' := by
  obtain ⟨i0, hi, hz0, hz1, hz2⟩ := info_parts infoint
  have HN := Lib.hid hn
  have HR := Lib.hid hr
  clear hn hr
  have hq : ∀ (w : World) (a : Option Addr) (n c n' c' : Nat), (binOp .eql 24 (.slice a n c) (.slice none n' c')).run Tryd.prog w = .ok (.bool a.isNone) w := fun w a n c n' c' => Lib.run_eql_slice_nil w _ _ a n c n' c' Tryd.underlying24
  cases A with
  | none =>
    have hu : us = [] := by
      rcases HR.out with h | ⟨_, _, h, _⟩
      · simpa using h
      · cases h
    subst hu
    obtain rfl : n = 0 := HN.out
    go_enter Tryd.func65, Tryd.ntmps65
    go_wp2
    go_ret
    exact ⟨none, 0, rfl, ⟨none, 0, rfl, by simp, by simp [maxLen], .inl rfl⟩, Below.refl _ _⟩
  | some ad =>
    go_enter Tryd.func65, Tryd.ntmps65
    go_wp2_with (at_builtin; refine wpList_appB _ rfl _ _ 24 rfl w.heap.size 3 i0 (.int .i64 0) 1 8 Tryd.underlying24 hi hz0 hz1 hz2 rfl (by decide) _ _ _ rfl (World.ownsRow_made w #[] 0 (Nat.le_refl _) (Nat.zero_le _) rfl) B (some ad) n c (us.map (Value.int .i64)) rfl ?c1 ?c2 (ints_one _ _) ?c3 ?c4 ?c5 ?_)
    case c1 => rw [List.length_map, HN.out]; omega
    case c2 => exact HR.out.below (((Below.refl _ _).alloc (Nat.le_refl _) _).mono hB) (Nat.le_refl _)
    case c3 => simp only [maxLen]; omega
    case c4 => omega
    case c5 => simp
    intro v' w1 hown hg hv
    obtain ⟨A', c', rfl, hu⟩ := us_own hown HN.out
    have HU := Lib.hid hu
    clear hu
    go_wp2
    go_ret
    exact ⟨A', c', rfl, HU.out, ((Below.refl _ w).alloc (Nat.le_refl _) _).grown hg (by simp) (by intro k hk; simp [Value.ownBlock] at hk; omega)⟩

/-- the world's block R is as it was -/
def SameB (R : Nat) (a b : World) : Prop := b.heap[R]? = a.heap[R]? ∧ a.heap.size ≤ b.heap.size
theorem SameB.refl (R : Nat) (w : World) : SameB R w w := ⟨rfl, Nat.le_refl _⟩
theorem SameB.trans (R : Nat) (a b c : World) (h : SameB R a b) (k : SameB R b c) : SameB R a c := ⟨k.1.trans h.1, Nat.le_trans h.2 k.2⟩
theorem SameB.cell {R o : Nat} {a b : World} (h : SameB R a b) : b.cell? ⟨R, o, none⟩ = a.cell? ⟨R, o, none⟩ := cell_block h.1 o
theorem SameB.of {R B : Nat} {a b : World} (h : Below B a b) (hR : R < B) : SameB R a b := ⟨h.block R hR, h.size⟩
theorem SameB.grown {R : Nat} {a b : World} {row : Option Nat} (h : a.grownBy b row) (hR : R < a.heap.size) (hr : row ≠ some R) : SameB R a b := ⟨h.block R hR (fun e => hr e.symm), h.size⟩

theorem Rd.drew {w : World} {B : Nat} {A : Option Addr} {xs : List Value} (h : Rd w B A xs) : Rd w.drew B A xs := h.below ((Below.refl B w).drew) (Nat.le_refl _)
theorem own_heap {w : World} {base size n : Nat} {e : TypeId} {v : Value} {xs : List Value} (h : w.ownsRow base e size v n xs) {g : Nat} (hg : v.ownBlock = some g) : ∃ cur, w.heap[g]? = some (.cells cur e (0, 0)) := by
  rcases h.2 with ⟨rfl, _⟩ | ⟨g', cap, cur, rfl, _, hh, _⟩
  · simp [Value.ownBlock] at hg
  · have : g' = g := by simpa [Value.ownBlock] using hg
    subst this
    exact ⟨cur, hh⟩
theorem own_apart {w : World} {base size n base' size' n' : Nat} {e e' : TypeId} {v v' : Value} {xs xs' : List Value} (h : w.ownsRow base e size v n xs) (h' : w.ownsRow base' e' size' v' n' xs') (he : e ≠ e') {g : Nat} (hg : v.ownBlock = some g) : v'.ownBlock ≠ some g := by
  intro hg'
  obtain ⟨c1, e1⟩ := own_heap h hg
  obtain ⟨c2, e2⟩ := own_heap h' hg'
  rw [e1] at e2
  injection e2 with e2
  injection e2 with _ e2
  exact he e2
theorem own_other {w w' : World} {base size n : Nat} {e : TypeId} {v : Value} {xs : List Value} {row : Option Nat} (h : w.ownsRow base e size v n xs) (hg : w.grownBy w' row) (hne : ∀ g, v.ownBlock = some g → row ≠ some g) : w'.ownsRow base e size v n xs := by
  refine ⟨h.1, ?_⟩
  rcases h.2 with h2 | ⟨g, cap, cur, hv, h3, h4, h5⟩
  · exact .inl h2
  · have hlt : g < w.heap.size := own_lt h (by rw [hv]; rfl)
    exact .inr ⟨g, cap, cur, hv, h3, (hg.block g hlt (fun e => hne g (by rw [hv]; rfl) e.symm)).trans h4, h5⟩
end Go.Proofs.YtdkcadckbjncjaaDoor
namespace Go.Proofs.YtdkcadckbjncjaaDoor
set_option linter.unusedVariables false
open Go.RowKit
theorem Rd_newR (w : World) (cs : Array Value) (t : TypeId) (m : Nat) (hm : w.heap.size = m) : Rd (w.alloc (.cells cs t)) (m + 1) (some ⟨m, 0, none⟩) cs.toList := by subst hm; exact Rd_new w cs t
def flatP : List (Int × Int) → List Int
  | [] => []
  | p :: ps => p.1 :: p.2 :: flatP ps
theorem flatP_len : ∀ ps, (flatP ps).length = ps.length * 2
  | [] => rfl
  | p :: ps => by simp only [flatP, List.length_cons, flatP_len ps]; omega
theorem flatP_app : ∀ (ps qs : List (Int × Int)), flatP (ps ++ qs) = flatP ps ++ flatP qs
  | [], qs => rfl
  | p :: ps, qs => by simp only [List.cons_append, flatP, flatP_app ps qs]
theorem flatP_at : ∀ (ps : List (Int × Int)) (k : Nat) (hk : k < ps.length), (flatP ps)[k * 2]? = some ps[k].1 ∧ (flatP ps)[k * 2 + 1]? = some ps[k].2
  | p :: ps, 0, _ => ⟨rfl, rfl⟩
  | p :: ps, k + 1, hk => by
    have := flatP_at ps k (by simpa using hk)
    rw [show (k + 1) * 2 = k * 2 + 1 + 1 from by omega]
    exact this
  | [], _, hk => by cases hk
def singR (ps : List (Int × Int)) : List Rl := ps.map fun p => ([p.1], [p.2])
theorem pair_at {w : World} {B : Nat} {A : Option Addr} {ps : List (Int × Int)} (h : Rd w B A ((flatP ps).map (Value.int .i64))) {k : Nat} (hk : k < ps.length) :
    ∃ b off, A = some ⟨b, off, none⟩ ∧ b < B ∧ w.cell? ⟨b, off + k * 2, none⟩ = some (.int .i64 ps[k].1) ∧ w.cell? ⟨b, off + k * 2 + 1, none⟩ = some (.int .i64 ps[k].2) := by
  have hlen := flatP_len ps
  obtain ⟨e1, e2⟩ := flatP_at ps k hk
  rcases h with h | ⟨b, off, h1, h2, h3⟩
  · have : flatP ps = [] := by simpa using h
    rw [this] at hlen; simp at hlen; omega
  · refine ⟨b, off, h1, h2, ?_, ?_⟩
    · rw [h3 _ (by rw [List.length_map]; omega), List.getElem?_map, e1]; rfl
    · rw [Nat.add_assoc, h3 _ (by rw [List.length_map]; omega), List.getElem?_map, e2]; rfl
end Go.Proofs.YtdkcadckbjncjaaDoor

namespace Go.Proofs.YtdkcadckbjncjaaDoor
set_option linter.unusedVariables false
open Go.RowKit
theorem check_lim {rs : List Rl} {K : Nat} {k e : Int} (h : checkFrom K (rs.take K) (rs.drop K) = (k, e)) (hK : K < rs.length) (hf : 512 ≤ K) : k = K ∧ e = 7 := by
  rw [List.drop_eq_getElem_cons hK] at h
  simp only [checkFrom, if_pos (show (512 : Int) ≤ K by omega), Prod.mk.injEq] at h
  exact ⟨h.1.symm, h.2.symm⟩
theorem check_arg {rs : List Rl} {K : Nat} {k e : Int} (h : checkFrom K (rs.take K) (rs.drop K) = (k, e)) (hK : K < rs.length) (hf : K < 512) (hs : (sideB rs[K].1 && sideB rs[K].2) = false) : k = K ∧ e = 9 := by
  rw [List.drop_eq_getElem_cons hK] at h
  simp only [checkFrom, if_neg (show ¬ (512 : Int) ≤ K by omega), if_pos hs, Prod.mk.injEq] at h
  exact ⟨h.1.symm, h.2.symm⟩
theorem check_two {rs : List Rl} {K : Nat} {k e : Int} (h : checkFrom K (rs.take K) (rs.drop K) = (k, e)) (hK : K < rs.length) (hf : K < 512) (hs : (sideB rs[K].1 && sideB rs[K].2) = true) (h2 : 0 ≤ findR (rs.take K) rs[K].1) : k = K ∧ e = 8 := by
  rw [List.drop_eq_getElem_cons hK] at h
  simp only [checkFrom, if_neg (show ¬ (512 : Int) ≤ K by omega), if_neg (show ¬ (sideB rs[K].1 && sideB rs[K].2) = false by rw [hs]; simp), if_pos h2, Prod.mk.injEq] at h
  exact ⟨h.1.symm, h.2.symm⟩
theorem check_next {rs : List Rl} {K : Nat} {k e : Int} (h : checkFrom K (rs.take K) (rs.drop K) = (k, e)) (hK : K < rs.length) (hf : K < 512) (hs : (sideB rs[K].1 && sideB rs[K].2) = true) (h2 : ¬ 0 ≤ findR (rs.take K) rs[K].1) : checkFrom ((K + 1 : Nat) : Int) (rs.take (K + 1)) (rs.drop (K + 1)) = (k, e) := by
  rw [List.drop_eq_getElem_cons hK] at h
  simp only [checkFrom, if_neg (show ¬ (512 : Int) ≤ K by omega), if_neg (show ¬ (sideB rs[K].1 && sideB rs[K].2) = false by rw [hs]; simp), if_neg h2] at h
  rw [List.take_succ_eq_append_getElem hK]
  exact h
theorem check_end {rs : List Rl} {K : Nat} {k e : Int} (h : checkFrom K (rs.take K) (rs.drop K) = (k, e)) (hK : rs.length ≤ K) : k = -1 ∧ e = 0 := by
  rw [List.drop_of_length_le hK] at h
  simp only [checkFrom, Prod.mk.injEq] at h
  exact ⟨h.1.symm, h.2.symm⟩
theorem ret_pair {a b c d : Int} {k l : IntKind} (h : a = c ∧ b = d) : Ending.returned (.tuple #[.int k c, .int l d]) = .returned (.tuple #[.int k a, .int l b]) := by rw [h.1, h.2]

set_option maxRecDepth 100000 in
set_option maxHeartbeats 3200000 in
theorem check_any (n : Nat) (A : Option Addr) (c : Nat) (rs : List Rl) (B : Nat) (w : World) (hr : RsAt w B A n c rs) (hB : B ≤ w.heap.size) (k e : Int) (hv : checkR rs = (k, e)) :
    Calls Tryd.prog 79 #[.slice A n c] w fun en w' => en = .returned (.tuple #[.int .i64 k, .int .i64 e]) ∧ Below w.heap.size w w' := by
  have HR := Lib.hid hr
  have HV := Lib.hid hv
  have hn1 := hr.fits
  have hn2 := hr.small
  unfold maxLen at hn2
  clear hr hv
  go_enter Tryd.func79, Tryd.ntmps79
  go_wp2
  go_loopw [8] (fun i wr => ∃ K : Nat, K ≤ n ∧ i = .int .i64 K ∧ Below w.heap.size w wr ∧ Hid (checkFrom K (rs.take K) (rs.drop K) = (k, e))) (fun i _ => n - (intOf i).toNat)
  case atStart => exact ⟨0, by omega, rfl, Below.refl _ _, HV.out⟩
  case round =>
    obtain ⟨K, hK, rfl, hb, hf⟩ := hrel
    by_cases hKn : K = n
    · have hK' : ¬ K < n := by omega
      have HE := Lib.hid (check_end hf.out (by rw [← HR.out.len, hKn]; omega))
      clear hKn
      go_wp2
      go_ret2
      exact ⟨ret_pair HE.out, hb⟩
    have hK' : K < n := by omega
    have hK1 : K < rs.length := by rw [← HR.out.len]; exact hK'
    obtain ⟨b, o, rfl, hbB, A1, n1, c1, A2, n2, c2, g1, g2, e1, e2, e3, e4, f1, f2, f3, f4⟩ := HR.out.at hK1
    have k1 := (hb.cell (p := ⟨b, o + K * 2, none⟩) (by show b < _; omega)).trans g1
    have k2 := (hb.cell (p := ⟨b, o + K * 2 + 1, none⟩) (by show b < _; omega)).trans g2
    have k3 : (0 : Int) ≤ K := by omega
    have k4 : (K : Int) < n := by omega
    have k5 : K ≤ c := by omega
    have E1 := Lib.hid e1
    have F1 := Lib.hid f1
    have E4 := Lib.hid (e4.below (hb.mono hB) (Nat.le_refl _))
    have F4 := Lib.hid (f4.below (hb.mono hB) (Nat.le_refl _))
    have hs1 := hb.size
    have E3 := Lib.hid e3
    have HM3 : Hid (n1 ≤ 9223372036854775807) := by unfold maxLen at e3; exact (show n1 ≤ 9223372036854775807 by omega)
    have HM4 : Hid (n2 ≤ 9223372036854775807) := by unfold maxLen at f3; exact (show n2 ≤ 9223372036854775807 by omega)
    have M3 := Lib.hid e3
    have M4 := Lib.hid f3
    clear g1 g2 e1 e4 f1 f4 e3 f3 E3
    by_cases hlim : 512 ≤ K
    · have HE := Lib.hid (check_lim hf.out hK1 hlim)
      go_wp2
      go_ret2
      exact ⟨ret_pair HE.out, hb.trans (((Below.refl _ _).alloc (Nat.le_refl _) _).mono hb.size)⟩
    have hl2 : K < 512 := by omega
    have hbA : ∀ o, Below B wr (wr.alloc o) := fun o => ((Below.refl _ _).alloc (Nat.le_refl _) _).mono (by omega)
    have HBA := Lib.hid hbA
    obtain ⟨s1, hs1'⟩ : ∃ s, sideB rs[K].1 = s := ⟨_, rfl⟩
    obtain ⟨s2, hs2'⟩ : ∃ s, sideB rs[K].2 = s := ⟨_, rfl⟩
    have S1 := Lib.hid hs1'
    have S2 := Lib.hid hs2'
    clear hs1' hs2' hbA
    cases s1 with
    | false =>
      have HE := Lib.hid (check_arg hf.out hK1 hl2 (by rw [S1.out]; rfl))
      go_wp2_with fail
      refine (side_any n1 A1 c1 rs[K].1 B _ E1.out (E4.out.below (HBA.out _) (Nat.le_refl _)) HM3.out _ S1.out).mono ?_
      rintro en w1 ⟨rfl, rfl⟩
      go_wp2
      go_ret2
      exact ⟨ret_pair HE.out, hb.trans (((Below.refl _ _).alloc (Nat.le_refl _) _).mono hb.size)⟩
    | true =>
      cases s2 with
      | false =>
        have HE := Lib.hid (check_arg hf.out hK1 hl2 (by rw [S1.out, S2.out]; rfl))
        go_wp2_with fail
        refine (side_any n1 A1 c1 rs[K].1 B _ E1.out (E4.out.below (HBA.out _) (Nat.le_refl _)) HM3.out _ S1.out).mono ?_
        rintro en w1 ⟨rfl, rfl⟩
        go_wp2_with fail
        refine (side_any n2 A2 c2 rs[K].2 B _ F1.out (F4.out.below (HBA.out _) (Nat.le_refl _)) HM4.out _ S2.out).mono ?_
        rintro en w1 ⟨rfl, rfl⟩
        go_wp2
        go_ret2
        exact ⟨ret_pair HE.out, hb.trans (((Below.refl _ _).alloc (Nat.le_refl _) _).mono hb.size)⟩
      | true =>
        have hss : (sideB rs[K].1 && sideB rs[K].2) = true := by rw [S1.out, S2.out]; rfl
        have HSS := Lib.hid hss
        clear hss
        obtain ⟨fd, hfd⟩ : ∃ fd, findR (rs.take K) rs[K].1 = fd := ⟨_, rfl⟩
        have HFD := Lib.hid hfd
        have hcut := Lib.hid (HR.out.cut K (by omega))
        clear hfd
        go_wp2_with fail
        refine (side_any n1 A1 c1 rs[K].1 B _ E1.out (E4.out.below (HBA.out _) (Nat.le_refl _)) HM3.out _ S1.out).mono ?_
        rintro en w1 ⟨rfl, rfl⟩
        go_wp2_with fail
        refine (side_any n2 A2 c2 rs[K].2 B _ F1.out (F4.out.below (HBA.out _) (Nat.le_refl _)) HM4.out _ S2.out).mono ?_
        rintro en w1 ⟨rfl, rfl⟩
        go_wp2_with fail
        obtain ⟨W, hW⟩ : ∃ W, W = wr.alloc (.cells #[.slice A1 n1 c1, .slice A2 n2 c2] 75) := ⟨_, rfl⟩
        have q0 : W.cell? ⟨wr.heap.size, 0, none⟩ = some (.slice A1 n1 c1) := by rw [hW]; exact World.cell?_alloc_new (w := wr) _ _ 0
        have hbW : Below wr.heap.size wr W := by rw [hW]; exact (Below.refl _ _).alloc (Nat.le_refl _) _
        have hsW : wr.heap.size < W.heap.size := by rw [hW]; simp
        rw [← hW]
        have HW := Lib.hid hW
        clear hW
        refine wp_region_mixe (G := SameB wr.heap.size) [(0, false), (1, false), (2, false), (3, false), (4, false), (5, true), (6, false), (7, false)]
          (SameB.refl _) (SameB.trans _) (by kernel_rfl) rfl (by kernel_rfl) (by kernel_rfl) ?_
        iterate 4 (refine mixe_one rfl rfl ?_; go_big_quiet_step ((intro _; rfl)); refine wpQuiet_nil ?_)
        refine mixe_one rfl rfl ?_
        go_big_quiet_step ((intro hh; rw [hh.cell, World.cell?_drew, q0]; exact ⟨rfl, rfl⟩))
        refine wpQuiet_nil ?_
        refine mixe_call rfl ?_
        go_wp2_with fail
        have hbD : Below wr.heap.size wr W.drew := hbW.drew
        refine (find_any _ _ (some ⟨b, o, none⟩) A1 c c1 (rs.take K) rs[K].1 B B _ (hcut.out.below ((hb.trans (hbD.mono hs1)).mono hB) (Nat.le_refl _)) E1.out (E4.out.below (hbD.mono (by omega)) (Nat.le_refl _)) e2 M3.out (by show B ≤ W.heap.size; omega) (by show B ≤ W.heap.size; omega) fd HFD.out).mono ?_
        rintro en w2 ⟨rfl, hb2⟩
        have hbE := hb.trans ((hbD.trans (hb2.mono (by show wr.heap.size ≤ W.heap.size; omega))).mono hs1)
        go_wp2_with fail
        refine ⟨SameB.of hb2 (by show wr.heap.size < W.heap.size; omega), ?_⟩
        iterate 2 (refine mixe_one rfl rfl ?_; go_big_quiet_step ((intro _; rfl)); refine wpQuiet_nil ?_)
        refine NoPanic.normal ?_
        by_cases hfd0 : 0 ≤ fd
        · have HE := Lib.hid (check_two hf.out hK1 hl2 HSS.out (by rw [HFD.out]; exact hfd0))
          go_wp2
          go_ret2
          exact ⟨ret_pair HE.out, hbE⟩
        · have HE := Lib.hid (check_next hf.out hK1 hl2 HSS.out (by rw [HFD.out]; exact hfd0))
          go_wp2
          go_roundw
          case rel => exact ⟨K + 1, by omega, by go_num, hbE, HE⟩
          case measure => simp [intOf]; omega
end Go.Proofs.YtdkcadckbjncjaaDoor
namespace Go.Proofs.YtdkcadckbjncjaaDoor
set_option linter.unusedVariables false
set_option linter.unusedSimpArgs false
set_option linter.unnecessarySimpa false
open Go.RowKit

/-- block B is just these cells -/
def Held (W : World) (B : Nat) (cs : Array Value) (t : TypeId) : Prop := W.heap[B]? = some (.cells cs t (0, 0))
theorem Held.lt {W : World} {B : Nat} {cs : Array Value} {t : TypeId} (h : Held W B cs t) : B < W.heap.size := (Array.getElem?_eq_some_iff.1 h).1
theorem Held.new (W : World) (cs : Array Value) (t : TypeId) : Held (W.alloc (.cells cs t)) W.heap.size cs t := heap_alloc_new W _
theorem Held.kept {W W' : World} {row : Option Nat} {B : Nat} {cs : Array Value} {t : TypeId} (h : Held W B cs t) (hg : W.grownBy W' row) (hne : some B ≠ row) : Held W' B cs t := (hg.block B h.lt hne).trans h
theorem Held.below {W W' : World} {B n : Nat} {cs : Array Value} {t : TypeId} (h : Held W B cs t) (hb : Below n W W') (hn : B < n) : Held W' B cs t := (hb.block B hn).trans h
theorem Held.alloc {W : World} {B : Nat} {cs : Array Value} {t : TypeId} (h : Held W B cs t) (o : Obj) : Held (W.alloc o) B cs t := h.kept (World.grownBy_alloc W o none) (by simp)
theorem Held.cell {W : World} {B : Nat} {cs : Array Value} {t : TypeId} (h : Held W B cs t) (j : Nat) : W.cell? ⟨B, j, none⟩ = cs[j]? := cell_of_row W B j cs t _ h
theorem Held.other {W : World} {B B' : Nat} {cs : Array Value} {t : TypeId} (h : Held W B cs t) (hne : B ≠ B') (u : Value) : Held (W.setCell ⟨B', 0, none⟩ u) B cs t := (Below.heap_setCell W ⟨B', 0, none⟩ u B hne).trans h
theorem Held.set2 {W : World} {B : Nat} {x y : Value} {t : TypeId} (h : Held W B #[x, y] t) (a b : Value) : Held ((W.setCell ⟨B, 0, none⟩ a).setCell ⟨B, 1, none⟩ b) B #[a, b] t := by
  obtain ⟨hlt, hk⟩ := Array.getElem?_eq_some_iff.1 h
  unfold Held World.setCell
  simp only [Array.getElem?_modify, if_true]
  rw [Array.getElem?_eq_getElem hlt, hk]
  rfl
theorem Held.otherK {W : World} {B : Nat} {cs : Array Value} {t : TypeId} (h : Held W B cs t) {p : Addr} (hne : B ≠ p.block) (u : Value) : Held (W.setCell p u) B cs t :=
  (Below.heap_setCell W p u B hne).trans h
theorem grownBy_setCellK (W : World) (p : Addr) (v : Value) : W.grownBy (W.setCell p v) (some p.block) :=
  ⟨rfl, rfl, rfl, by simp [World.setCell], fun k _ hk => Below.heap_setCell _ _ _ k (fun e => hk (by rw [e]))⟩
theorem Held.frozen {W : World} {B : Nat} {cs : Array Value} {t : TypeId} (h : Held W B cs t) (j : Nat) : W.frozen? ⟨B, j, none⟩ = false := by simp [World.frozen?, show W.heap[B]? = _ from h]

theorem run_store_float (P : Program) (w : World) (a : Addr) (m : Mode) (k : FloatKind) (b : Nat) : (store a (.float k b) m).run P w = stored P w a (.float k b) m := run_store P w a _ m rfl
theorem run_store_complex (P : Program) (w : World) (a : Addr) (m : Mode) (k : FloatKind) (x y : Nat) : (store a (.complex k x y) m).run P w = stored P w a (.complex k x y) m := run_store P w a _ m rfl
theorem below_dN (w : World) (m : Nat) : Below w.heap.size w (w.drewN m) := ⟨rfl, rfl, rfl, Nat.le_refl _, fun _ _ => rfl⟩
theorem below_setRow {B g : Nat} {w0 w : World} (hb : Below B w0 w) (hBg : B ≤ g) (cs : Array Value) : Below B w0 (w.setRow g cs) :=
  ⟨hb.os, hb.tape, hb.output, by rw [setRow_size]; exact hb.size, fun k hk => (setRow_other w g k cs (by omega)).trans (hb.block k hk)⟩
end Go.Proofs.YtdkcadckbjncjaaDoor
namespace Go.Proofs.YtdkcadckbjncjaaDoor
set_option linter.unusedVariables false
set_option linter.unusedSimpArgs false
set_option linter.unnecessarySimpa false
open Go.RowKit
theorem units_v (n n' : Nat) (A A' : Option Addr) (c c' : Nat) (zs zs' : List Int) (B B' : Nat) (w : World) (v : Bool) (hv : eqB zs zs' = v) (hn : n = zs.length) (hn' : n' = zs'.length) (hr : Rd w B A (zs.map (Value.int .i64))) (hr' : Rd w B' A' (zs'.map (Value.int .i64))) (hl : n ≤ 9223372036854775807) :
    Calls Tryd.prog 25 #[.slice A n c, .slice A' n' c'] w fun e w' => e = .returned (.bool v) ∧ ∃ m, w' = w.drewN m := by
  subst hv; exact units_eq n n' A A' c c' zs zs' B B' w hn hn' hr hr' hl
theorem rd_tk {w : World} {B : Nat} {A : Option Addr} {zs : List Int} (k : Nat) (h : Rd w B A (zs.map (Value.int .i64))) : Rd w B A ((zs.take k).map (Value.int .i64)) := by
  have := h.take k; rw [← List.map_take] at this; exact this
end Go.Proofs.YtdkcadckbjncjaaDoor
namespace Go.Proofs.YtdkcadckbjncjaaDoor
set_option linter.unusedVariables false
open Go.RowKit
theorem long_next {rs : List Rl} {K : Nat} {v N M : Int} (h : longFrom N (rs.drop K) = v) (hK : K < rs.length) (hm : (if N < rs[K].1.length then (rs[K].1.length : Int) else N) = M) : longFrom M (rs.drop (K + 1)) = v := by
  rw [List.drop_eq_getElem_cons hK] at h
  simp only [longFrom] at h
  rw [hm] at h
  exact h
theorem long_end {rs : List Rl} {K : Nat} {v N : Int} (h : longFrom N (rs.drop K) = v) (hK : rs.length ≤ K) : v = N := by
  rw [List.drop_of_length_le hK] at h
  exact h.symm

set_option maxHeartbeats 800000 in
theorem longest_any (n : Nat) (A : Option Addr) (c : Nat) (rs : List Rl) (B : Nat) (w : World) (hr : RsAt w B A n c rs) (hB : B ≤ w.heap.size) (v : Int) (hv : longR rs = v) :
    Calls Tryd.prog 70 #[.slice A n c] w fun e w' => e = .returned (.int .i64 v) ∧ Below w.heap.size w w' := by
  have HR := Lib.hid hr
  have HV := Lib.hid hv
  have hn1 := hr.fits
  have hn2 := hr.small
  unfold maxLen at hn2
  clear hr hv
  go_enter Tryd.func70, Tryd.ntmps70
  go_wp2
  go_loopw [3, 8] (fun m i wr => ∃ (K : Nat) (N : Int), K ≤ n ∧ i = .int .i64 K ∧ m = .int .i64 N ∧ Below w.heap.size w wr ∧ Hid (longFrom N (rs.drop K) = v)) (fun _ i _ => n - (intOf i).toNat)
  case atStart => exact ⟨0, 0, by omega, rfl, rfl, Below.refl _ _, HV.out⟩
  case round =>
    obtain ⟨K, N, hK, rfl, rfl, hb, hf⟩ := hrel
    by_cases hKn : K = n
    · have hK' : ¬ K < n := by omega
      have HE := Lib.hid (long_end hf.out (by rw [← HR.out.len, hKn]; omega))
      clear hKn
      go_wp2
      go_ret
      exact ⟨ret_int HE.out, hb⟩
    have hK' : K < n := by omega
    have hK1 : K < rs.length := by rw [← HR.out.len]; exact hK'
    obtain ⟨b, o, rfl, hbB, A1, n1, c1, A2, n2, c2, g1, g2, e1, e2, e3, e4, f1, f2, f3, f4⟩ := HR.out.at hK1
    have k1 := (hb.cell (p := ⟨b, o + K * 2, none⟩) (by show b < _; omega)).trans g1
    have k2 := (hb.cell (p := ⟨b, o + K * 2 + 1, none⟩) (by show b < _; omega)).trans g2
    have k3 : (0 : Int) ≤ K := by omega
    have k4 : (K : Int) < n := by omega
    have HL := Lib.hid (long_next (M := if N < n1 then (n1 : Int) else N) hf.out hK1 (by rw [e1]))
    unfold maxLen at e3 f3
    clear g1 g2 e1 e4 f1 f4 hf
    by_cases hlt : N < n1
    · rw [if_pos hlt] at HL
      go_wp2
      go_roundw
      case rel => exact ⟨K + 1, _, by omega, by go_num, rfl, hb.trans (((Below.refl _ _).alloc (Nat.le_refl _) _).mono hb.size), HL⟩
      case measure => simp [intOf]; omega
    · rw [if_neg hlt] at HL
      go_wp2
      go_roundw
      case rel => exact ⟨K + 1, _, by omega, by go_num, rfl, hb.trans (((Below.refl _ _).alloc (Nat.le_refl _) _).mono hb.size), HL⟩
      case measure => simp [intOf]; omega
end Go.Proofs.YtdkcadckbjncjaaDoor
namespace Go.Proofs.YtdkcadckbjncjaaDoor
set_option linter.unusedVariables false
open Go.RowKit
theorem turn_skip {rs acc ts : List Rl} {K : Nat} (h : turnFrom acc (rs.drop K) = ts) (hK : K < rs.length) (hf : 0 ≤ findR acc rs[K].2) : turnFrom acc (rs.drop (K + 1)) = ts := by
  rw [List.drop_eq_getElem_cons hK] at h
  simp only [turnFrom, if_pos hf] at h
  exact h
theorem turn_take {rs acc ts : List Rl} {K : Nat} (h : turnFrom acc (rs.drop K) = ts) (hK : K < rs.length) (hf : ¬ 0 ≤ findR acc rs[K].2) : turnFrom (acc ++ [(rs[K].2, rs[K].1)]) (rs.drop (K + 1)) = ts := by
  rw [List.drop_eq_getElem_cons hK] at h
  simp only [turnFrom, if_neg hf] at h
  exact h
theorem turn_end {rs acc ts : List Rl} {K : Nat} (h : turnFrom acc (rs.drop K) = ts) (hK : rs.length ≤ K) : ts = acc := by
  rw [List.drop_of_length_le hK] at h
  exact h.symm

set_option maxHeartbeats 1600000 in
set_option maxRecDepth 100000 in
theorem turn_any (n : Nat) (A : Option Addr) (c : Nat) (rs : List Rl) (B : Nat) (w : World) (hr : RsAt w B A n c rs) (hB : B ≤ w.heap.size) (hn : n ≤ 1048576) (hl : ∀ r ∈ rs, r.1.length ≤ 17592186044416 ∧ r.2.length ≤ 17592186044416) (ts : List Rl) (ht : turnR rs = ts) :
    Calls Tryd.prog 55 #[.slice A n c] w fun e w' => ∃ v, e = .returned v ∧ OwnRs w.heap.size w' v ts ∧ Below w.heap.size w w' := by
  obtain ⟨i0, hi, hz0, hz1, hz2⟩ := info_parts inforl
  have HR := Lib.hid hr
  have HT := Lib.hid ht
  have HL := Lib.hid hl
  have hn1 := hr.fits
  have hn2 := hr.small
  unfold maxLen at hn2
  clear hr ht hl
  go_enter Tryd.func55, Tryd.ntmps55
  go_wp2
  go_loopw [3, 8] (fun v i wr => ∃ (K : Nat) (acc : List Rl), K ≤ n ∧ i = .int .i64 K ∧ Hid (OwnRs w.heap.size wr v acc) ∧ acc.length ≤ K ∧ Below w.heap.size w wr ∧ Hid (turnFrom acc (rs.drop K) = ts)) (fun _ i _ => n - (intOf i).toNat)
  case atStart => exact ⟨0, [], by omega, rfl, OwnRs.nil _ _, by simp, Below.refl _ _, HT.out⟩
  case round =>
    obtain ⟨K, acc, hK, rfl, ho, hacc, hb, hf⟩ := hrel
    by_cases hKn : K = n
    · have hK' : ¬ K < n := by omega
      have HE := Lib.hid (turn_end hf.out (by rw [← HR.out.len, hKn]; omega))
      clear hKn
      go_wp2
      go_ret
      exact ⟨_, rfl, by rw [HE.out]; exact ho.out, hb⟩
    have hK' : K < n := by omega
    have hK1 : K < rs.length := by rw [← HR.out.len]; exact hK'
    have hlK := HL.out _ (List.getElem_mem hK1)
    obtain ⟨b, o, rfl, hbB, A1, n1, c1, A2, n2, c2, g1, g2, e1, e2, e3, e4, f1, f2, f3, f4⟩ := HR.out.at hK1
    have k1 := (hb.cell (p := ⟨b, o + K * 2, none⟩) (by show b < _; omega)).trans g1
    have k2 := (hb.cell (p := ⟨b, o + K * 2 + 1, none⟩) (by show b < _; omega)).trans g2
    have k3 : (0 : Int) ≤ K := by omega
    have k4 : (K : Int) < n := by omega
    have hl1 : n1 ≤ 17592186044416 := by rw [e1]; exact hlK.1
    have hl2 : n2 ≤ 17592186044416 := by rw [f1]; exact hlK.2
    have E1 := Lib.hid e1
    have F1 := Lib.hid f1
    have E4 := Lib.hid (e4.below (hb.mono hB) (Nat.le_refl _))
    have F4 := Lib.hid (f4.below (hb.mono hB) (Nat.le_refl _))
    obtain ⟨A3, c3, rfl, hat⟩ := ho.out.form
    have HAT := Lib.hid hat
    have hat2 := hat.fits
    have hat3 := hat.small
    unfold maxLen at hat3
    clear g1 g2 e1 e4 f1 f4 hat hlK
    have hfe := findR_lo acc rs[K].2
    obtain ⟨fd, hfd⟩ : ∃ fd, findR acc rs[K].2 = fd := ⟨_, rfl⟩
    rw [hfd] at hfe
    have HFD := Lib.hid hfd
    clear hfd
    go_wp2_with fail
    refine (find_any _ _ A3 A2 c3 c2 acc rs[K].2 wr.heap.size B _ (HAT.out.below ((Below.refl _ _).alloc (Nat.le_refl _) _) (Nat.le_refl _)) F1.out (F4.out.below (((Below.refl _ _).alloc (Nat.le_refl _) _).mono (Nat.le_trans hB hb.size)) (Nat.le_refl _)) f2 f3 (by simp) (by have := hb.size; simp; omega) fd HFD.out).mono ?_
    rintro e w1 ⟨rfl, hb1⟩
    have hbl : Below wr.heap.size wr w1 := ((Below.refl _ _).alloc (Nat.le_refl _) _).trans (hb1.mono (by simp))
    have hzg : wr.heap.size < w1.heap.size := by have := hb1.size; simp at this; omega
    have q0 : w1.cell? ⟨wr.heap.size, 0, none⟩ = some (.slice A1 n1 c1) := by rw [hb1.cell (p := ⟨wr.heap.size, 0, none⟩) (by simp)]; exact World.cell?_alloc_new (w := wr) _ _ 0
    have q1 : w1.cell? ⟨wr.heap.size, 1, none⟩ = some (.slice A2 n2 c2) := by rw [hb1.cell (p := ⟨wr.heap.size, 1, none⟩) (by simp)]; exact World.cell?_alloc_new (w := wr) _ _ 1
    by_cases hfd0 : 0 ≤ fd
    · have HE := Lib.hid (turn_skip hf.out hK1 (by rw [HFD.out]; exact hfd0))
      go_wp2
      go_roundw
      case rel => exact ⟨K + 1, acc, by omega, by go_num, ho.out.below hbl (Nat.le_refl _), by omega, hb.trans (hbl.mono hb.size), HE⟩
      case measure => simp [intOf]; omega
    · have HE := Lib.hid (turn_take hf.out hK1 (by rw [HFD.out]; exact hfd0))
      go_wp2_with fail
      have hs1 := hb.size
      have hs2 := hbl.size
      have E5 := Lib.hid (E4.out.below (hbl.mono (Nat.le_trans hB hb.size)) (Nat.le_refl _))
      have F5 := Lib.hid (F4.out.below (hbl.mono (Nat.le_trans hB hb.size)) (Nat.le_refl _))
      have O1 := Lib.hid (ho.out.below hbl (Nat.le_refl _))
      obtain ⟨g, hg⟩ : ∃ g, g = wr.heap.size := ⟨_, rfl⟩
      have ho3 : (Value.slice A3 acc.length c3).ownBlock ≠ some g := by
        obtain ⟨xs, ho1, _⟩ := ho.out
        intro hx; have := own_lt ho1 hx; omega
      have HO3 := Lib.hid ho3
      have HG := Lib.hid hg
      rw [← hg] at q0 q1 hzg ⊢
      clear hg ho3
      refine wp_region_mixe (G := SameB g) [(0, false), (1, false), (2, false), (4, false), (5, false), (3, true), (6, true), (7, false), (8, true), (9, true), (10, false)]
        (SameB.refl _) (SameB.trans _) (by kernel_rfl) rfl (by kernel_rfl) (by kernel_rfl) ?_
      iterate 2 (refine mixe_one rfl rfl ?_; go_big_quiet_step ((intro _; rfl)); refine wpQuiet_nil ?_)
      refine mixe_one rfl rfl ?_
      go_big_quiet_step ((intro hh; rw [hh.cell, World.cell?_drew, q1]; exact ⟨rfl, rfl⟩))
      refine wpQuiet_nil ?_
      refine mixe_one rfl rfl ?_
      go_big_quiet_step ((intro _; rfl))
      refine wpQuiet_nil ?_
      refine mixe_one rfl rfl ?_
      go_big_quiet_step ((intro hh; rw [hh.cell, World.cell?_drew, q0]; exact ⟨rfl, rfl⟩))
      refine wpQuiet_nil ?_
      refine mixe_call rfl ?_
      go_wp2_with fail
      refine (clone_any n2 A2 c2 rs[K].2 B _ F1.out (Rd.drew F5.out) (by show B ≤ w1.heap.size; omega) hl2).mono ?_
      rintro e w2 ⟨A4, c4, rfl, hu4, hb2⟩
      have HU4 := Lib.hid hu4
      have hb2' : Below w1.heap.size w1 w2 := (Below.refl _ _).drew.trans hb2
      have hz2' : w1.heap.size ≤ w2.heap.size := hb2'.size
      clear hu4
      go_wp2_with fail
      refine ⟨SameB.of hb2 (by show g < w1.heap.size; omega), ?_⟩
      refine mixe_call rfl ?_
      go_wp2_with fail
      refine (clone_any n1 A1 c1 rs[K].1 B _ E1.out (E5.out.below (hb2'.mono (by omega)) (Nat.le_refl _)) (by omega) hl1).mono ?_
      rintro e w3 ⟨A5, c5, rfl, hu5, hb3⟩
      have HU5 := Lib.hid hu5
      have hz3 : w2.heap.size ≤ w3.heap.size := hb3.size
      clear hu5
      go_wp2_with fail
      refine ⟨SameB.of hb3 (by omega), ?_⟩
      refine mixe_one rfl rfl ?_
      go_big_quiet_step ((intro _; rfl))
      refine wpQuiet_nil ?_
      refine mixe_call rfl ?_
      go_wp2_with fail
      refine ⟨SameB.of ((Below.refl w3.heap.size w3).alloc (Nat.le_refl _) _) (by omega), ?_⟩
      refine mixe_call rfl ?_
      obtain ⟨W, hW⟩ : ∃ W, W = w3.alloc (.cells #[.slice A4 n2 c4, .slice A5 n1 c5] 75) := ⟨_, rfl⟩
      have hbW : Below w3.heap.size w3 W := by rw [hW]; exact (Below.refl _ _).alloc (Nat.le_refl _) _
      have hsW : W.heap.size = w3.heap.size + 1 := by rw [hW]; simp
      have hrW : Rd W (w3.heap.size + 1) (some ⟨w3.heap.size, 0, none⟩) [.slice A4 n2 c4, .slice A5 n1 c5] := by rw [hW]; exact Rd_new w3 _ _
      have hbWr : Below wr.heap.size wr W := hbl.trans (((hb2'.trans (hb3.mono hz2')).trans (hbW.mono (by omega))).mono hs2)
      obtain ⟨xs, hown, hx⟩ := ho.out.below hbWr (Nat.le_refl _)
      have HX := Lib.hid hx
      have hlow := own_low hown (Nat.le_refl _)
      have hoB : ∀ x, (Value.slice A3 acc.length c3).ownBlock = some x → x < w1.heap.size := by
        intro x hx
        obtain ⟨ys, h1, _⟩ := ho.out
        have := own_lt h1 hx; omega
      have HOB := Lib.hid hoB
      have HRW := Lib.hid hrW
      have HSW := Lib.hid hsW
      rw [← hW]
      have HW := Lib.hid hW
      clear hx hoB hW hrW hsW
      go_wp2_with (at_builtin; refine wpList_appB _ rfl _ _ 57 rfl w.heap.size 75 i0 _ 2 48 Tryd.underlying57 hi hz0 hz1 hz2 rfl (by decide) _ _ _ rfl hlow (w3.heap.size + 1) _ 1 1 [.slice A4 n2 c4, .slice A5 n1 c5] rfl rfl HRW.out ?c2 ?c3 ?c4 ?c5 ?_)
      case c2 => intro u hu; simp at hu; rcases hu with rfl | rfl <;> rfl
      case c3 => simp only [maxLen]; omega
      case c4 => omega
      case c5 => rw [HSW.out]; omega
      intro v' w4 hown4 hg4 hv4
      have hz4 := hg4.size
      have hsame : SameB g W w4 := SameB.grown hg4 (by rw [HSW.out]; omega) HO3.out
      have hpush : OwnRs w.heap.size w4 v' (acc ++ [(rs[K].2, rs[K].1)]) := by
        refine own_push (r := (rs[K].2, rs[K].1)) hown4 HX.out ?_ ?_ hg4 hv4
        · refine HU4.out.step (by rw [HSW.out]; omega) fun b hb hle => ⟨?_, ?_⟩
          · intro e; have := HOB.out _ e; have : w1.heap.size ≤ b := hle; omega
          · exact (hb3.trans (hbW.mono hz3)).block b hb
        · refine HU5.out.step (by rw [HSW.out]; omega) fun b hb hle => ⟨?_, ?_⟩
          · intro e; have := HOB.out _ e; have : w2.heap.size ≤ b := hle; omega
          · exact hbW.block b hb
      have HP := Lib.hid hpush
      have hbE : Below w.heap.size w w4 := below_own (hb.trans (hbWr.mono hs1)) hg4 hlow (Nat.le_refl _) (by rw [HSW.out]; omega)
      clear hown4 hpush
      go_wp2_with fail
      refine ⟨hsame, ?_⟩
      refine mixe_one rfl rfl ?_
      go_big_quiet_step ((intro _; rfl))
      refine wpQuiet_nil ?_
      refine NoPanic.normal ?_
      go_wp2
      exact ⟨⟨K + 1, _, by omega, by go_num, HP, by simp; omega, hbE, HE⟩, by simp [intOf]; omega⟩
end Go.Proofs.YtdkcadckbjncjaaDoor
namespace Go.Proofs.YtdkcadckbjncjaaDoor
set_option linter.unusedVariables false
open Go.RowKit
/-- a slice built of many parts: run by the kernel -/
theorem wpList_bs {w : World} {ops : Array Oper} {rest : List Oper} {o : Oper} {a : Act} {Q : Exit → Act → World → Prop} (hgd : o.guard = none) (t : TypeId) (n : Nat) (ps : Array (Nat × Operand))
    (ho : o.op = .buildSlice t n ps) (v : Value) (w' : World) (h : (execOp a.eval o).run Tryd.prog w = .ok (.value v) w') (k : wpList Tryd.prog ops Q rest (a.put o.dst v) w') : wpList Tryd.prog ops Q (o :: rest) a w :=
  wpList_plain hgd fun K hK => by
    unfold Oper.wp
    rw [h]
    exact hK _ _ k
end Go.Proofs.YtdkcadckbjncjaaDoor
namespace Go.Proofs.YtdkcadckbjncjaaDoor
set_option linter.unusedVariables false
open Go.RowKit
theorem us_newL (w : World) (m : Nat) (hm : w.heap.size = m) (zs : List Int) (cs : Array Value) (hc : cs.toList = zs.map (Value.int .i64)) (n : Nat) (hn : n = zs.length) (hl : n ≤ maxLen) : Us (fun b => b = m) (w.alloc (.cells cs 3)) (.slice (some ⟨m, 0, none⟩) n n) zs := by
  subst hm hn
  refine ⟨_, _, rfl, Nat.le_refl _, hl, .inr ⟨w.heap.size, 0, rfl, by simp, rfl, fun j hj => ?_⟩⟩
  rw [Nat.zero_add, cell_of_row _ _ _ _ _ _ (heap_alloc_new w _), ← hc]
  simp
theorem Us.up {X : Nat → Prop} {w : World} {v : Value} {us : List Int} (h : Us X w v us) (o : Obj) {Y : Nat → Prop} (hY : ∀ b, b < w.heap.size → X b → Y b) : Us Y (w.alloc o) v us :=
  h.step (by simp) fun b hb hx => ⟨hY b hb hx, Below.heap_alloc w o b hb⟩
end Go.Proofs.YtdkcadckbjncjaaDoor
namespace Go.Proofs.YtdkcadckbjncjaaDoor
set_option linter.unusedVariables false
set_option linter.unusedSimpArgs false
set_option linter.unnecessarySimpa false
open Go.RowKit
/-- the world behind rules' sides, laid one behind the other, each in a block of its own -/
def ruW (w : World) : List Rl → World
  | [] => w
  | r :: rs => ruW ((w.alloc (.cells (r.1.map (Value.int .i64)).toArray 3)).alloc (.cells (r.2.map (Value.int .i64)).toArray 3)) rs
/-- the rules' cells -/
def ruC (n : Nat) : List Rl → List Value
  | [] => []
  | r :: rs => .slice (some ⟨n, 0, none⟩) r.1.length r.1.length :: .slice (some ⟨n + 1, 0, none⟩) r.2.length r.2.length :: ruC (n + 1 + 1) rs
theorem ruW_size : ∀ (rs : List Rl) (w : World), (ruW w rs).heap.size = w.heap.size + rs.length * 2
  | [], w => rfl
  | r :: rs, w => by
    unfold ruW
    rw [ruW_size rs]
    simp; omega
theorem ruW_below : ∀ (rs : List Rl) (w : World), Below w.heap.size w (ruW w rs)
  | [], w => Below.refl _ _
  | r :: rs, w => by
    unfold ruW
    have h := ruW_below rs ((w.alloc (.cells (r.1.map (Value.int .i64)).toArray 3)).alloc (.cells (r.2.map (Value.int .i64)).toArray 3))
    exact (((Below.refl _ w).alloc (Nat.le_refl _) _).alloc (by simp) _).trans (h.mono (by simp; omega))
theorem ruW_rls : ∀ (rs : List Rl) (w : World), (∀ r ∈ rs, r.1.length ≤ maxLen ∧ r.2.length ≤ maxLen) → Rls (fun b => w.heap.size ≤ b) (ruW w rs) (ruC w.heap.size rs) rs
  | [], w, _ => trivial
  | r :: rs, w, hl => by
    obtain ⟨l1, l2⟩ := hl r (by simp)
    have h := ruW_rls rs ((w.alloc (.cells (r.1.map (Value.int .i64)).toArray 3)).alloc (.cells (r.2.map (Value.int .i64)).toArray 3)) (fun x hx => hl x (by simp [hx]))
    have hb := ruW_below rs ((w.alloc (.cells (r.1.map (Value.int .i64)).toArray 3)).alloc (.cells (r.2.map (Value.int .i64)).toArray 3))
    have hz : ((w.alloc (.cells (r.1.map (Value.int .i64)).toArray 3)).alloc (.cells (r.2.map (Value.int .i64)).toArray 3)).heap.size = w.heap.size + 1 + 1 := by simp
    rw [hz] at h hb
    unfold ruW ruC
    refine ⟨?_, ?_, h.step (Nat.le_refl _) fun b _ hx => ⟨by omega, rfl⟩⟩
    · refine ((us_newL w _ rfl r.1 _ rfl _ rfl l1).up (.cells (r.2.map (Value.int .i64)).toArray 3) (Y := fun b => b = w.heap.size) fun b _ hx => hx).step (by rw [hz]; have := hb.size; rwa [hz] at this) fun b hb2 hx => ⟨by omega, ?_⟩
      exact hb.block b (by omega)
    · refine (us_newL (w.alloc (.cells (r.1.map (Value.int .i64)).toArray 3)) (w.heap.size + 1) (by simp) r.2 _ rfl _ rfl l2).step (by rw [hz]; have := hb.size; rwa [hz] at this) fun b hb2 hx => ⟨by omega, ?_⟩
      exact hb.block b (by omega)
/-- a row of rules just built -/
theorem ru_at (w : World) (rs : List Rl) (n : Nat) (hn : n = rs.length) (N : Nat) (hN : N = w.heap.size + rs.length * 2) (hl : ∀ r ∈ rs, r.1.length ≤ maxLen ∧ r.2.length ≤ maxLen) (hm : n ≤ maxLen) :
    RsAt ((ruW w rs).alloc (.cells (ruC w.heap.size rs).toArray 75)) ((ruW w rs).alloc (.cells (ruC w.heap.size rs).toArray 75)).heap.size (some ⟨N, 0, none⟩) n n rs ∧ Below w.heap.size w ((ruW w rs).alloc (.cells (ruC w.heap.size rs).toArray 75)) := by
  have hz := ruW_size rs w
  have hr := Rd_new (ruW w rs) (ruC w.heap.size rs).toArray 75
  have hb := ruW_below rs w
  have hls := ruW_rls rs w hl
  rw [hz, ← hN] at hr
  have hs : ((ruW w rs).alloc (.cells (ruC w.heap.size rs).toArray 75)).heap.size = N + 1 := by simp [hz, hN]
  refine ⟨⟨hn, Nat.le_refl _, hm, ruC w.heap.size rs, by rw [hs]; exact hr, ?_⟩, hb.alloc hb.size _⟩
  exact hls.step (by simp) fun b hb2 hx => ⟨by rw [hs]; omega, Below.heap_alloc _ _ b hb2⟩
end Go.Proofs.YtdkcadckbjncjaaDoor
namespace Go.Proofs.YtdkcadckbjncjaaDoor
set_option linter.unusedVariables false
set_option linter.unusedSimpArgs false
set_option linter.unnecessarySimpa false
open Go.RowKit

/-- .. where the numbers of the new blocks are spelled otherwise; blocks of other element types stay -/
theorem wpList_appRlN {w : World} {ops : Array Oper} {rest : List Oper} {o : Oper} {a : Act} {Q : Exit → Act → World → Prop} (hgd : o.guard = none) (s x : Operand)
    (ho : o.op = .call { callee := .builtin .append, args := #[s, x], argTypes := #[57, 57] })
    (base : Nat) (v : Value) (acc : List Rl) (p q : Int) (hs : a.eval s = v) (hown : OwnRs base w v acc)
    (N : Nat) (hN : w.heap.size = N) (hx : a.eval x = .slice (some ⟨N + 1 + 1, 0, none⟩) 1 1) (hsz : acc.length ≤ 1048576) (hbase : base ≤ w.heap.size)
    (h : ∀ v' w', Hid (OwnRs base w' v' (acc ++ [([p], [q])])) → Hid (∀ B w0, B ≤ base → Below B w0 w → Below B w0 w') → Hid (∀ (b : Nat) (cs : Array Value) (t : TypeId), t ≠ 75 → w.heap[b]? = some (.cells cs t (0, 0)) → w'.heap[b]? = some (.cells cs t (0, 0))) → wpList Tryd.prog ops Q rest (a.put o.dst v') w') :
    wpList Tryd.prog ops Q (o :: rest) a (((w.alloc (.cells #[.int .i64 p] 3)).alloc (.cells #[.int .i64 q] 3)).alloc (.cells #[.slice (some ⟨N, 0, none⟩) 1 1, .slice (some ⟨N + 1, 0, none⟩) 1 1] 75)) := by
  subst hN
  obtain ⟨i0, hi, hz0, hz1, hz2⟩ := info_parts inforl
  obtain ⟨xs, ho1, hx1⟩ := hown
  have hA := ((ho1.alloc (.cells #[.int .i64 p] 3)).alloc (.cells #[.int .i64 q] 3)).alloc (.cells #[.slice (some ⟨w.heap.size, 0, none⟩) 1 1, .slice (some ⟨w.heap.size + 1, 0, none⟩) 1 1] 75)
  have hrd := Rd_new ((w.alloc (.cells #[.int .i64 p] 3)).alloc (.cells #[.int .i64 q] 3)) #[.slice (some ⟨w.heap.size, 0, none⟩) 1 1, .slice (some ⟨w.heap.size + 1, 0, none⟩) 1 1] 75
  have hz : ((w.alloc (.cells #[.int .i64 p] 3)).alloc (.cells #[.int .i64 q] 3)).heap.size = w.heap.size + 1 + 1 := by simp
  rw [hz] at hrd
  refine wpList_appB _ hgd s x 57 ho base 75 i0 _ 2 48 Tryd.underlying57 hi hz0 hz1 hz2 rfl (by decide) v acc.length xs hs hA _ _ 1 1 [.slice (some ⟨w.heap.size, 0, none⟩) 1 1, .slice (some ⟨w.heap.size + 1, 0, none⟩) 1 1] hx rfl hrd ?_ (by simp only [maxLen]; omega) (by omega) (by simp; omega) ?_
  · intro u hu; simp at hu; rcases hu with rfl | rfl <;> rfl
  intro v' w4 hown4 hg4 hv4
  have hb3 : Below w.heap.size w (((w.alloc (.cells #[.int .i64 p] 3)).alloc (.cells #[.int .i64 q] 3)).alloc (.cells #[.slice (some ⟨w.heap.size, 0, none⟩) 1 1, .slice (some ⟨w.heap.size + 1, 0, none⟩) 1 1] 75)) :=
    (((Below.refl _ _).alloc (Nat.le_refl _) _).alloc (by simp) _).alloc (by simp; omega) _
  have hne : ∀ x, v.ownBlock = some x → x < w.heap.size := fun x hx => own_lt ho1 hx
  refine h v' w4 (Lib.hid ?_) (Lib.hid ?_) (Lib.hid ?_)
  · refine own_push (r := ([p], [q])) (v := v) (xs := xs) (by simpa using hown4) ?_ ?_ ?_ hg4 hv4
    · exact hx1.step hb3.size fun b hb hx => ⟨hx, hb3.block b hb⟩
    · refine (us_new w w.heap.size rfl p).step (by simp) fun b hb he => ⟨?_, ?_⟩
      · intro e; have := hne _ e; have : b = w.heap.size := he; omega
      · rw [Below.heap_alloc _ _ _ (by simp at hb ⊢; omega), Below.heap_alloc _ _ _ (by simpa using hb)]
    · refine (us_new (w.alloc (.cells #[.int .i64 p] 3)) (w.heap.size + 1) (by simp) q).step (by simp) fun b hb he => ⟨?_, ?_⟩
      · intro e; have := hne _ e; have : b = w.heap.size + 1 := he; omega
      · rw [Below.heap_alloc _ _ _ (by simpa using hb)]
  · intro B w0 hB hw0
    rcases Nat.lt_or_ge w.heap.size B with hl | hl
    · omega
    · exact below_own (hw0.trans (hb3.mono hl)) hg4 hA hB (by simp; omega)
  · intro b cs t ht hq
    have hbl : b < w.heap.size := (Array.getElem?_eq_some_iff.1 hq).1
    refine (hg4.block b (by simp; omega) ?_).trans ((hb3.block b hbl).trans hq)
    intro e
    rcases ho1.2 with ⟨h1, _⟩ | ⟨g, cap, cur, h1, _, h3, _⟩
    · subst h1; cases e
    · subst h1
      injection e with e
      subst e
      rw [hq] at h3
      injection h3 with h3
      injection h3 with _ h3
      exact ht h3
theorem wpList_appRl {w : World} {ops : Array Oper} {rest : List Oper} {o : Oper} {a : Act} {Q : Exit → Act → World → Prop} (hgd : o.guard = none) (s x : Operand)
    (ho : o.op = .call { callee := .builtin .append, args := #[s, x], argTypes := #[57, 57] })
    (base : Nat) (v : Value) (acc : List Rl) (p q : Int) (hs : a.eval s = v) (hown : OwnRs base w v acc)
    (hx : a.eval x = .slice (some ⟨w.heap.size + 1 + 1, 0, none⟩) 1 1) (hsz : acc.length ≤ 1048576) (hbase : base ≤ w.heap.size)
    (h : ∀ v' w', Hid (OwnRs base w' v' (acc ++ [([p], [q])])) → Hid (∀ B w0, B ≤ base → Below B w0 w → Below B w0 w') → wpList Tryd.prog ops Q rest (a.put o.dst v') w') :
    wpList Tryd.prog ops Q (o :: rest) a (((w.alloc (.cells #[.int .i64 p] 3)).alloc (.cells #[.int .i64 q] 3)).alloc (.cells #[.slice (some ⟨w.heap.size, 0, none⟩) 1 1, .slice (some ⟨w.heap.size + 1, 0, none⟩) 1 1] 75)) :=
  wpList_appRlN hgd s x ho base v acc p q hs hown _ rfl hx hsz hbase fun v' w' h1 h2 _ => h v' w' h1 h2
end Go.Proofs.YtdkcadckbjncjaaDoor
namespace Go.Proofs.YtdkcadckbjncjaaDoor
set_option linter.unusedVariables false
set_option linter.unusedSimpArgs false
set_option linter.unnecessarySimpa false
open Go.RowKit
/-- a row of rules of the call's own; its rules' units, too, lie from block base on -/
def OwnRsF (base : Nat) (w : World) (v : Value) (rs : List Rl) : Prop := ∃ xs, w.ownsRow base 75 2 v rs.length xs ∧ Rls (fun b => v.ownBlock ≠ some b ∧ base ≤ b) w xs rs
theorem OwnRsF.nil (base : Nat) (w : World) : OwnRsF base w (.slice none 0 0) [] := ⟨[], World.ownsRow_nil _ _ _ _, trivial⟩
theorem OwnRsF.below {base B : Nat} {w w' : World} {v : Value} {rs : List Rl} (h : OwnRsF base w v rs) (hb : Below B w w') (hB : w.heap.size ≤ B) : OwnRsF base w' v rs := by
  obtain ⟨xs, ho, hr⟩ := h
  exact ⟨xs, own_below ho hb hB, hr.step hb.size fun b hl hx => ⟨hx, hb.block b (by omega)⟩⟩
theorem OwnRsF.form {base : Nat} {w : World} {v : Value} {rs : List Rl} (h : OwnRsF base w v rs) : ∃ A c xs, v = .slice A rs.length c ∧ Rd w w.heap.size A xs ∧ Rls (fun b => base ≤ b) w xs rs := by
  obtain ⟨xs, ho, hr⟩ := h
  obtain ⟨A, c, rfl, h1, h2⟩ := own_form ho
  exact ⟨A, c, xs, rfl, Rd.own ho, hr.step (Nat.le_refl _) fun b hl hx => ⟨hx.2, rfl⟩⟩
theorem Rls.grownF {base : Nat} {w w' : World} {v v' : Value} {xs : List Value} {rs : List Rl} (h : Rls (fun b => v.ownBlock ≠ some b ∧ base ≤ b) w xs rs) (hg : w.grownBy w' v.ownBlock) (hv : v'.ownBlock = v.ownBlock ∨ v'.ownBlock = some w.heap.size) : Rls (fun b => v'.ownBlock ≠ some b ∧ base ≤ b) w' xs rs :=
  h.step hg.size fun b hl hx => ⟨⟨by
    rcases hv with e | e
    · rw [e]; exact hx.1
    · rw [e]; intro e'; injection e' with e'; omega, hx.2⟩, hg.block b hl (fun e => hx.1 e.symm)⟩
theorem own_pushF {base : Nat} {w1 w2 : World} {v v' : Value} {rs : List Rl} {xs : List Value} {a b : Value} {r : Rl} (ho : w2.ownsRow base 75 2 v' (rs.length + 1) (xs ++ [a, b])) (hx : Rls (fun b => v.ownBlock ≠ some b ∧ base ≤ b) w1 xs rs)
    (ha : Us (fun b => v.ownBlock ≠ some b ∧ base ≤ b) w1 a r.1) (hb : Us (fun b => v.ownBlock ≠ some b ∧ base ≤ b) w1 b r.2) (hg : w1.grownBy w2 v.ownBlock) (hv : v'.ownBlock = v.ownBlock ∨ v'.ownBlock = some w1.heap.size) : OwnRsF base w2 v' (rs ++ [r]) :=
  ⟨xs ++ [a, b], by simpa using ho, Rls.grownF (hx.app (Rls.one ha hb)) hg hv⟩
theorem OwnRsF.rs {base : Nat} {w : World} {v : Value} {rs : List Rl} (h : OwnRsF base w v rs) : OwnRs base w v rs := by
  obtain ⟨xs, ho, hr⟩ := h
  exact ⟨xs, ho, hr.step (Nat.le_refl _) fun b _ hx => ⟨hx.1, rfl⟩⟩
/-- where the units of rule k lie -/
theorem OwnRsF.unit {base : Nat} {w : World} {A : Option Addr} {n c : Nat} {rs : List Rl} (h : OwnRsF base w (.slice A n c) rs) {k : Nat} (hk : k < rs.length) {b of n2 c2 : Nat} {A2 : Option Addr} (hA : A = some ⟨b, of, none⟩) (hc : w.cell? ⟨b, of + k * 2 + 1, none⟩ = some (.slice A2 n2 c2)) :
    Us (fun b => base ≤ b) w (.slice A2 n2 c2) rs[k].2 := by
  obtain ⟨xs, ho, hr⟩ := h
  have hl := Rls.length hr
  obtain ⟨a, b', g1, g2, _, h2⟩ := Rls.at hr k hk
  rcases ho.2 with ⟨h3, h4⟩ | ⟨g, cap, cur, h3, _, h5, h6, _, h8, h9⟩
  · omega
  · injection h3 with e1 e2 e3
    rw [hA] at e1
    injection e1 with e1
    injection e1 with e1 e4
    subst e1 e4
    have h10 : w.cell? ⟨b, 0 + k * 2 + 1, none⟩ = xs[k * 2 + 1]? := by
      rw [cell_of_row w b (0 + k * 2 + 1) cur _ _ h5, ← h9, Nat.zero_add, List.getElem?_take_of_lt (by omega)]; simp
    rw [h10, g2] at hc
    injection hc with hc
    rw [hc] at h2
    exact h2.step (Nat.le_refl _) fun b _ hx => ⟨hx.2, rfl⟩
end Go.Proofs.YtdkcadckbjncjaaDoor
