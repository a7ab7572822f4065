/- How units and rules lie in memory. -/
import Derived.Test.YthgomhmalmmhlaaDoorProg
import Derived.Test.YthgomhmalmmhlaaDoorMixe
namespace Go.Proofs.YthgomhmalmmhlaaDoor
set_option linter.unusedVariables false
open Go.RowKit

/-- the cells xs lie at A, in a block that X allows -/
def Rdx (X : Nat → Prop) (w : World) (A : Option Addr) (xs : List Value) : Prop :=
  xs = [] ∨ ∃ b off, A = some ⟨b, off, none⟩ ∧ b < w.heap.size ∧ X b ∧ ∀ j, j < xs.length → w.cell? ⟨b, off + j, none⟩ = xs[j]?
theorem Rdx.nil {X : Nat → Prop} {w : World} {A : Option Addr} : Rdx X w A [] := .inl rfl
theorem cell_block {w w' : World} {b : Nat} (h : w'.heap[b]? = w.heap[b]?) (o : Nat) : w'.cell? ⟨b, o, none⟩ = w.cell? ⟨b, o, none⟩ := World.cell?_of_block (w := w) h
theorem Rdx.step {X Y : Nat → Prop} {w w' : World} {A : Option Addr} {xs : List Value} (h : Rdx X w A xs) (hs : w.heap.size ≤ w'.heap.size) (hk : ∀ b, b < w.heap.size → X b → Y b ∧ w'.heap[b]? = w.heap[b]?) : Rdx Y w' A xs := by
  rcases h with h | ⟨b, off, h1, h2, h3, h4⟩
  · exact .inl h
  · obtain ⟨g1, g2⟩ := hk b h2 h3
    exact .inr ⟨b, off, h1, by omega, g1, fun j hj => (cell_block g2 _).trans (h4 j hj)⟩
theorem Rdx.rd {B : Nat} {X : Nat → Prop} {w : World} {A : Option Addr} {xs : List Value} (h : Rdx X w A xs) (hB : w.heap.size ≤ B) : Rd w B A xs := by
  rcases h with h | ⟨b, off, h1, h2, _, h4⟩
  · exact .inl h
  · exact .inr ⟨b, off, h1, by omega, h4⟩
theorem Rdx.rdB {B : Nat} {w : World} {A : Option Addr} {xs : List Value} (h : Rdx (· < B) w A xs) : Rd w B A xs := by
  rcases h with h | ⟨b, off, h1, h2, h3, h4⟩
  · exact .inl h
  · exact .inr ⟨b, off, h1, h3, h4⟩
theorem Rd.rdx {B : Nat} {w : World} {A : Option Addr} {xs : List Value} (h : Rd w B A xs) : Rdx (· < B) w A xs := by
  rcases h with h | ⟨b, off, h1, h2, h3⟩
  · exact .inl h
  · by_cases hx : xs = []
    · exact .inl hx
    have hl : 0 < xs.length := List.length_pos_iff.2 hx
    refine .inr ⟨b, off, h1, ?_, h2, h3⟩
    have := h3 0 hl
    rcases Nat.lt_or_ge b w.heap.size with hh | hg
    · exact hh
    · simp [World.cell?, Array.getElem?_eq_none hg, List.getElem?_eq_getElem hl] at this

/-- a slice of units -/
def Us (X : Nat → Prop) (w : World) (v : Value) (us : List Int) : Prop := ∃ A c, v = .slice A us.length c ∧ us.length ≤ c ∧ c ≤ maxLen ∧ Rdx X w A (us.map (Value.int .i64))
theorem Us.step {X Y : Nat → Prop} {w w' : World} {v : Value} {us : List Int} (h : Us X w v us) (hs : w.heap.size ≤ w'.heap.size) (hk : ∀ b, b < w.heap.size → X b → Y b ∧ w'.heap[b]? = w.heap[b]?) : Us Y w' v us := by
  obtain ⟨A, c, h1, h2, h3, h4⟩ := h
  exact ⟨A, c, h1, h2, h3, h4.step hs hk⟩

/-- a rule: In, Out -/
abbrev Rl := List Int × List Int
/-- these cells are those of the rules -/
def Rls (X : Nat → Prop) (w : World) : List Value → List Rl → Prop
  | [], [] => True
  | a :: b :: xs, r :: rs => Us X w a r.1 ∧ Us X w b r.2 ∧ Rls X w xs rs
  | _, _ => False
theorem Rls.step {X Y : Nat → Prop} {w w' : World} (hs : w.heap.size ≤ w'.heap.size) (hk : ∀ b, b < w.heap.size → X b → Y b ∧ w'.heap[b]? = w.heap[b]?) : ∀ {xs : List Value} {rs : List Rl}, Rls X w xs rs → Rls Y w' xs rs
  | [], [], _ => trivial
  | a :: b :: xs, r :: rs, ⟨h1, h2, h3⟩ => ⟨h1.step hs hk, h2.step hs hk, Rls.step hs hk h3⟩
theorem Rls.length {X : Nat → Prop} {w : World} : ∀ {xs : List Value} {rs : List Rl}, Rls X w xs rs → xs.length = rs.length * 2
  | [], [], _ => rfl
  | a :: b :: xs, r :: rs, ⟨_, _, h⟩ => by simp only [List.length_cons, Rls.length h]; omega
theorem Rls.app {X : Nat → Prop} {w : World} : ∀ {xs ys : List Value} {rs ss : List Rl}, Rls X w xs rs → Rls X w ys ss → Rls X w (xs ++ ys) (rs ++ ss)
  | [], _, [], _, _, h => h
  | a :: b :: xs, _, r :: rs, _, ⟨h1, h2, h3⟩, h => ⟨h1, h2, Rls.app h3 h⟩
theorem Rls.take {X : Nat → Prop} {w : World} : ∀ (k : Nat) {xs : List Value} {rs : List Rl}, Rls X w xs rs → Rls X w (xs.take (k * 2)) (rs.take k)
  | 0, _, _, _ => by simp [Rls]
  | k + 1, [], [], _ => by simp [Rls]
  | k + 1, a :: b :: xs, r :: rs, ⟨h1, h2, h3⟩ => by
    rw [show (k + 1) * 2 = k * 2 + 1 + 1 from by omega]
    exact ⟨h1, h2, Rls.take k h3⟩
theorem Rls.one {X : Nat → Prop} {w : World} {a b : Value} {r : Rl} (h1 : Us X w a r.1) (h2 : Us X w b r.2) : Rls X w [a, b] [r] := ⟨h1, h2, trivial⟩
theorem Us.one {X : Nat → Prop} {w : World} {v : Value} {us : List Int} (h : Us X w v us) : v.oneCell' = true := by
  obtain ⟨A, c, rfl, _⟩ := h; rfl
theorem Rls.ones {X : Nat → Prop} {w : World} : ∀ {xs : List Value} {rs : List Rl}, Rls X w xs rs → ∀ u ∈ xs, u.oneCell' = true
  | [], [], _, u, hu => by cases hu
  | a :: b :: xs, r :: rs, ⟨h1, h2, h3⟩, u, hu => by
    simp only [List.mem_cons] at hu
    rcases hu with rfl | rfl | hu
    · exact h1.one
    · exact h2.one
    · exact Rls.ones h3 u hu
theorem Rls.at {X : Nat → Prop} {w : World} : ∀ {xs : List Value} {rs : List Rl} (h : Rls X w xs rs) (k : Nat) (hk : k < rs.length),
    ∃ a b, xs[k * 2]? = some a ∧ xs[k * 2 + 1]? = some b ∧ Us X w a rs[k].1 ∧ Us X w b rs[k].2
  | a :: b :: xs, r :: rs, ⟨h1, h2, h3⟩, 0, _ => ⟨a, b, rfl, rfl, h1, h2⟩
  | a :: b :: xs, r :: rs, ⟨h1, h2, h3⟩, k + 1, hk => by
    obtain ⟨a', b', g1, g2, g3, g4⟩ := Rls.at h3 k (by simpa using hk)
    refine ⟨a', b', ?_, ?_, by simpa using g3, by simpa using g4⟩
    · rw [show (k + 1) * 2 = k * 2 + 1 + 1 from by omega]; exact g1
    · rw [show (k + 1) * 2 + 1 = k * 2 + 1 + 1 + 1 from by omega]; exact g2
  | [], [], _, k, hk => by cases hk

/-- a slice of rules, all below block B -/
structure RsAt (w : World) (B : Nat) (A : Option Addr) (n c : Nat) (rs : List Rl) : Prop where
  len : n = rs.length
  fits : n ≤ c
  small : c ≤ maxLen
  lies : ∃ xs, Rd w B A xs ∧ Rls (· < B) w xs rs
theorem RsAt.below {w w' : World} {B B' : Nat} {A : Option Addr} {n c : Nat} {rs : List Rl} (h : RsAt w B A n c rs) (hb : Below B w w') (hB : B ≤ B') : RsAt w' B' A n c rs := by
  obtain ⟨h1, h2, h3, xs, h4, h5⟩ := h
  exact ⟨h1, h2, h3, xs, h4.below hb hB, h5.step hb.size fun b _ hl => ⟨by omega, hb.block b hl⟩⟩
theorem RsAt.belowS {w w' : World} {B B' C : Nat} {A : Option Addr} {n c : Nat} {rs : List Rl} (h : RsAt w B A n c rs) (hb : Below C w w') (hC : B ≤ C) (hB : B ≤ B') : RsAt w' B' A n c rs := h.below (hb.mono hC) hB
theorem RsAt.drewN {w : World} {B : Nat} {A : Option Addr} {n c : Nat} {rs : List Rl} (h : RsAt w B A n c rs) (m : Nat) : RsAt (w.drewN m) B A n c rs := by
  obtain ⟨h1, h2, h3, xs, h4, h5⟩ := h
  exact ⟨h1, h2, h3, xs, h4, h5.step (w := w) (w' := w.drewN m) (Nat.le_refl _) fun b _ hl => ⟨hl, rfl⟩⟩
theorem RsAt.cut {w : World} {B : Nat} {A : Option Addr} {n c : Nat} {rs : List Rl} (h : RsAt w B A n c rs) (k : Nat) (hk : k ≤ n) : RsAt w B A k c (rs.take k) := by
  obtain ⟨h1, h2, h3, xs, h4, h5⟩ := h
  exact ⟨by simp; omega, by omega, h3, xs.take (k * 2), h4.take _, Rls.take k h5⟩
/-- the cells of rule k -/
theorem RsAt.at {w : World} {B : Nat} {A : Option Addr} {n c : Nat} {rs : List Rl} (h : RsAt w B A n c rs) {k : Nat} (hk : k < rs.length) :
    ∃ b off, A = some ⟨b, off, none⟩ ∧ b < B ∧ ∃ A1 n1 c1 A2 n2 c2, w.cell? ⟨b, off + k * 2, none⟩ = some (.slice A1 n1 c1) ∧ w.cell? ⟨b, off + k * 2 + 1, none⟩ = some (.slice A2 n2 c2) ∧
      n1 = rs[k].1.length ∧ n1 ≤ c1 ∧ c1 ≤ maxLen ∧ Rd w B A1 (rs[k].1.map (Value.int .i64)) ∧ n2 = rs[k].2.length ∧ n2 ≤ c2 ∧ c2 ≤ maxLen ∧ Rd w B A2 (rs[k].2.map (Value.int .i64)) := by
  obtain ⟨h1, h2, h3, xs, h4, h5⟩ := h
  have hlen := Rls.length h5
  obtain ⟨a, b', g1, g2, ⟨A1, c1, rfl, e2, e3, e4⟩, ⟨A2, c2, rfl, f2, f3, f4⟩⟩ := Rls.at h5 k hk
  rcases h4 with h | ⟨b, off, k1, k2, k3⟩
  · rw [h] at hlen; simp only [List.length_nil] at hlen; omega
  · exact ⟨b, off, k1, k2, A1, _, c1, A2, _, c2, (k3 _ (by omega)).trans g1, by rw [Nat.add_assoc]; exact (k3 _ (by omega)).trans g2, rfl, e2, e3, e4.rdB, rfl, f2, f3, f4.rdB⟩

/-- a row of rules of the call's own, from block base on: its rules' units lie elsewhere -/
def OwnRs (base : Nat) (w : World) (v : Value) (rs : List Rl) : Prop := ∃ xs, w.ownsRow base 49 2 v rs.length xs ∧ Rls (fun b => v.ownBlock ≠ some b) w xs rs
theorem OwnRs.nil (base : Nat) (w : World) : OwnRs base w (.slice none 0 0) [] := ⟨[], World.ownsRow_nil _ _ _ _, trivial⟩
theorem OwnRs.form {base : Nat} {w : World} {v : Value} {rs : List Rl} (h : OwnRs base w v rs) : ∃ A c, v = .slice A rs.length c ∧ RsAt w w.heap.size A rs.length c rs := by
  obtain ⟨xs, ho, hr⟩ := h
  obtain ⟨A, c, rfl, h1, h2⟩ := own_form ho
  exact ⟨A, c, rfl, rfl, h1, h2, xs, Rd.own ho, hr.step (Nat.le_refl _) fun b hl _ => ⟨hl, rfl⟩⟩
theorem OwnRs.at {base : Nat} {w : World} {A : Option Addr} {n c : Nat} {rs : List Rl} (h : OwnRs base w (.slice A n c) rs) : RsAt w w.heap.size A n c rs := by
  obtain ⟨A', c', e, h'⟩ := h.form
  injection e with e1 e2 e3
  subst e1 e2 e3
  exact h'
theorem own_lt {w : World} {base size n : Nat} {e : TypeId} {v : Value} {xs : List Value} (h : w.ownsRow base e size v n xs) {g : Nat} (hg : v.ownBlock = some g) : g < w.heap.size := by
  rcases h.2 with ⟨rfl, _⟩ | ⟨g', cap, cur, rfl, _, hh, _⟩
  · simp [Value.ownBlock] at hg
  · have : g' = g := by simpa [Value.ownBlock] using hg
    subst this
    rcases Nat.lt_or_ge g' w.heap.size with hl | hg
    · exact hl
    · rw [Array.getElem?_eq_none hg] at hh; cases hh
theorem OwnRs.below {base B : Nat} {w w' : World} {v : Value} {rs : List Rl} (h : OwnRs base w v rs) (hb : Below B w w') (hB : w.heap.size ≤ B) : OwnRs base w' v rs := by
  obtain ⟨xs, ho, hr⟩ := h
  exact ⟨xs, own_below ho hb hB, hr.step hb.size fun b hl hx => ⟨hx, hb.block b (by omega)⟩⟩
theorem OwnRs.low {base base' : Nat} {w : World} {v : Value} {rs : List Rl} (h : OwnRs base w v rs) (hb : base' ≤ base) : OwnRs base' w v rs := by
  obtain ⟨xs, ho, hr⟩ := h
  exact ⟨xs, own_low ho hb, hr⟩

section
variable {P : Program} (w : World)
/-- as run_app: and where the new row lies -/
theorem run_appB (base : Nat) (t ty e : TypeId) (i : TypeInfo) (z : Value) (size bytes : Nat) (ht : P.underlying t = some (.slice e)) (hi : P.info? e = some i) (hz : i.zero = some z)
    (hsize : i.size = size) (hby : i.bytes = bytes) (hzs : z.cells.size = size) (hsz : 0 < size)
    (v : Value) (n : Nat) (xs : List Value) (hown : w.ownsRow base e size v n xs)
    (B : Nat) (A : Option Addr) (m c : Nat) (news : List Value) (hl : news.length = m * size) (hr : Rd w B A news) (h1 : ∀ u ∈ news, u.oneCell' = true)
    (h63 : n + m ≤ maxLen) (hbytes : (n + m) * bytes ≤ 140737488355328) (hbase : base ≤ w.heap.size) :
    ∃ v' w', (Builtin.append_ #[t, t] ty #[v, .slice A m c]).run P w = .ok v' w' ∧ w'.ownsRow base e size v' (n + m) (xs ++ news) ∧ w.grownBy w' v.ownBlock ∧ (v'.ownBlock = v.ownBlock ∨ v'.ownBlock = some w.heap.size) := by
  cases A with
  | none =>
    have hn : news = [] := by
      rcases hr with h | ⟨_, _, h, _⟩
      · exact h
      · cases h
    subst hn
    have hm : m = 0 := by
      rcases Nat.eq_zero_or_pos m with h | h
      · exact h
      · have := Nat.mul_pos h hsz; simp at hl; omega
    subst hm
    refine ⟨v, w, ?_, by simpa using hown, World.grownBy.refl w _, .inl rfl⟩
    rcases hown.2 with ⟨hv, hn0⟩ | ⟨g, cap, cur, hv, _, _, hnc, _⟩
    · subst hv; simp [Builtin.append_, run_underlying ht, sizeOf, typeInfo, hi, Builtin.lenOf, Builtin.firstCells]
    · subst hv; simp [Builtin.append_, run_underlying ht, sizeOf, typeInfo, hi, Builtin.lenOf, Builtin.firstCells, hnc, storeCells]
  | some ad =>
    have hc : ∀ j u, news[j]? = some u → w.cell? (ad.add j) = some u := by
      intro j u hu
      rcases hr with h | ⟨b, off, h, _, hcell⟩
      · subst h; simp at hu
      · injection h with h; subst h
        have hj : j < news.length := by
          rcases Nat.lt_or_ge j news.length with hj | hj
          · exact hj
          · rw [List.getElem?_eq_none hj] at hu; cases hu
        rw [← hu, ← hcell j hj]
        simp [Addr.add]
        split <;> simp_all
    obtain ⟨v', w', hrun, h2, h3, _, h5⟩ := run_append_own_at (P := P) w base t ty e i z size bytes ht hi hz hsize hby hzs hsz v n xs hown ad m c news hl hc h1 h63 hbytes hbase
    exact ⟨v', w', hrun, h2, h3, h5⟩
theorem wpList_appB {ops : Array Oper} {rest : List Oper} {o : Oper} {a : Act} {Q : Exit → Act → World → Prop} (hgd : o.guard = none) (s x : Operand) (t : TypeId)
    (ho : o.op = .call { callee := .builtin .append, args := #[s, x], argTypes := #[t, t] })
    (base : Nat) (e : TypeId) (i : TypeInfo) (z : Value) (size bytes : Nat) (ht : P.underlying t = some (.slice e)) (hi : P.info? e = some i) (hz : i.zero = some z)
    (hsize : i.size = size) (hby : i.bytes = bytes) (hzs : z.cells.size = size) (hsz : 0 < size)
    (v : Value) (n : Nat) (xs : List Value) (hs : a.eval s = v) (hown : w.ownsRow base e size v n xs)
    (B : Nat) (A : Option Addr) (m c : Nat) (news : List Value) (hx : a.eval x = .slice A m c) (hl : news.length = m * size) (hr : Rd w B A news) (h1 : ∀ u ∈ news, u.oneCell' = true)
    (h63 : n + m ≤ maxLen) (hbytes : (n + m) * bytes ≤ 140737488355328) (hbase : base ≤ w.heap.size)
    (h : ∀ v' w', w'.ownsRow base e size v' (n + m) (xs ++ news) → w.grownBy w' v.ownBlock → (v'.ownBlock = v.ownBlock ∨ v'.ownBlock = some w.heap.size) → wpList P ops Q rest (a.put o.dst v') w') : wpList P ops Q (o :: rest) a w :=
  wpList_plain hgd fun K hK => by
    obtain ⟨v', w', hrun, h2, h3, h4⟩ := run_appB (P := P) w base t o.type e i z size bytes ht hi hz hsize hby hzs hsz v n xs hown B A m c news hl hr h1 h63 hbytes hbase
    unfold Oper.wp execOp
    simp only [ho, resolve, invoke, builtin, Sem.run_bind, Sem.run_pure, Result.andThen_ok, List.map_toArray, List.map_cons, List.map_nil, hs, hx, hrun]
    exact hK _ _ (h v' w' h2 h3 h4)
end
/-- what is told of rules elsewhere stays, where only the row itself is written -/
theorem Rls.grown {w w' : World} {v v' : Value} {xs : List Value} {rs : List Rl} (h : Rls (fun b => v.ownBlock ≠ some b) w xs rs) (hg : w.grownBy w' v.ownBlock) (hv : v'.ownBlock = v.ownBlock ∨ v'.ownBlock = some w.heap.size) : Rls (fun b => v'.ownBlock ≠ some b) w' xs rs :=
  h.step hg.size fun b hl hx => ⟨by
    rcases hv with e | e
    · rw [e]; exact hx
    · rw [e]; intro e'; injection e' with e'; omega, hg.block b hl (fun e => hx e.symm)⟩
theorem inforl : (Tryd.prog.info? 49).map (fun i => (i.zero, i.size, i.bytes)) = some (some (.agg #[.slice none 0 0, .slice none 0 0]), 2, 48) := by kernel_rfl
theorem own_push {base : Nat} {w1 w2 : World} {v v' : Value} {rs : List Rl} {xs : List Value} {a b : Value} {r : Rl} (ho : w2.ownsRow base 49 2 v' (rs.length + 1) (xs ++ [a, b])) (hx : Rls (fun b => v.ownBlock ≠ some b) w1 xs rs)
    (ha : Us (fun b => v.ownBlock ≠ some b) w1 a r.1) (hb : Us (fun b => v.ownBlock ≠ some b) w1 b r.2) (hg : w1.grownBy w2 v.ownBlock) (hv : v'.ownBlock = v.ownBlock ∨ v'.ownBlock = some w1.heap.size) : OwnRs base w2 v' (rs ++ [r]) :=
  ⟨xs ++ [a, b], by simpa using ho, Rls.grown (hx.app (Rls.one ha hb)) hg hv⟩
theorem us_new (w : World) (m : Nat) (hm : w.heap.size = m) (z : Int) : Us (fun b => b = m) (w.alloc (.cells #[.int .i64 z] 3)) (.slice (some ⟨m, 0, none⟩) 1 1) [z] := by
  subst hm
  refine ⟨_, 1, rfl, by simp, by simp [maxLen], .inr ⟨w.heap.size, 0, rfl, by simp, rfl, fun j hj => ?_⟩⟩
  obtain rfl : j = 0 := by simpa using hj
  exact World.cell?_alloc_new (w := w) _ _ 0
end Go.Proofs.YthgomhmalmmhlaaDoor
