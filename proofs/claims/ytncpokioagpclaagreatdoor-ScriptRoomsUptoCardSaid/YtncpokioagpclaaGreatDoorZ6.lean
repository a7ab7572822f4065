/- Texts of this seat, one behind the other: Rep, ScO, ScI, Hold, Eq, RuleB, RuleC, RuleD, FlatP, RuleE, RuleF, TcM, VietN, VnM, CodN, RowPush, PairR, RuleS, VietF, UsNew, TmP, OwnF, Bs, UtfOwnl, PartsM, CarryM, CarrySoonM, BegM, OneM, CodU, RdT, RuleP, RuleO, SameB. -/
import Derived.Test.YtncpokioagpclaaGreatDoorProg
import Derived.Test.YtncpokioagpclaaGreatDoorZ1
import Derived.Test.YtncpokioagpclaaGreatDoorZ5
import Derived.Test.YtncpokioagpclaaGreatDoorZ4
import Derived.Test.YtncpokioagpclaaGreatDoorZ3
namespace Go.Proofs.YtncpokioagpclaaGreatDoor
set_option linter.unusedVariables false
open Go.RowKit

/-- the cells xs lie at A, in a block that X allows -/
def Rdx (X : Nat → Prop) (w : World) (A : Option Addr) (xs : List Value) : Prop :=
  xs = [] ∨ ∃ b off, A = some ⟨b, off, none⟩ ∧ b < w.heap.size ∧ X b ∧ ∀ j, j < xs.length → w.cell? ⟨b, off + j, none⟩ = xs[j]?
theorem cell_block {w w' : World} {b : Nat} (h : w'.heap[b]? = w.heap[b]?) (o : Nat) : w'.cell? ⟨b, o, none⟩ = w.cell? ⟨b, o, none⟩ := World.cell?_of_block (w := w) h
theorem Rdx.step {X Y : Nat → Prop} {w w' : World} {A : Option Addr} {xs : List Value} (h : Rdx X w A xs) (hs : w.heap.size ≤ w'.heap.size) (hk : ∀ b, b < w.heap.size → X b → Y b ∧ w'.heap[b]? = w.heap[b]?) : Rdx Y w' A xs := by
  rcases h with h | ⟨b, off, h1, h2, h3, h4⟩
  · exact .inl h
  · obtain ⟨g1, g2⟩ := hk b h2 h3
    exact .inr ⟨b, off, h1, by omega, g1, fun j hj => (cell_block g2 _).trans (h4 j hj)⟩
theorem Rdx.rd {B : Nat} {X : Nat → Prop} {w : World} {A : Option Addr} {xs : List Value} (h : Rdx X w A xs) (hB : w.heap.size ≤ B) : Rd w B A xs := by
  rcases h with h | ⟨b, off, h1, h2, _, h4⟩
  · exact .inl h
  · exact .inr ⟨b, off, h1, by omega, h4⟩
theorem Rdx.rdB {B : Nat} {w : World} {A : Option Addr} {xs : List Value} (h : Rdx (· < B) w A xs) : Rd w B A xs := by
  rcases h with h | ⟨b, off, h1, h2, h3, h4⟩
  · exact .inl h
  · exact .inr ⟨b, off, h1, h3, h4⟩
theorem Rd.rdx {B : Nat} {w : World} {A : Option Addr} {xs : List Value} (h : Rd w B A xs) : Rdx (· < B) w A xs := by
  rcases h with h | ⟨b, off, h1, h2, h3⟩
  · exact .inl h
  · by_cases hx : xs = []
    · exact .inl hx
    have hl : 0 < xs.length := List.length_pos_iff.2 hx
    refine .inr ⟨b, off, h1, ?_, h2, h3⟩
    have := h3 0 hl
    rcases Nat.lt_or_ge b w.heap.size with hh | hg
    · exact hh
    · simp [World.cell?, Array.getElem?_eq_none hg, List.getElem?_eq_getElem hl] at this

/-- a slice of units -/
def Us (X : Nat → Prop) (w : World) (v : Value) (us : List Int) : Prop := ∃ A c, v = .slice A us.length c ∧ us.length ≤ c ∧ c ≤ maxLen ∧ Rdx X w A (us.map (Value.int .i64))
theorem Us.step {X Y : Nat → Prop} {w w' : World} {v : Value} {us : List Int} (h : Us X w v us) (hs : w.heap.size ≤ w'.heap.size) (hk : ∀ b, b < w.heap.size → X b → Y b ∧ w'.heap[b]? = w.heap[b]?) : Us Y w' v us := by
  obtain ⟨A, c, h1, h2, h3, h4⟩ := h
  exact ⟨A, c, h1, h2, h3, h4.step hs hk⟩

/-- a rule: In, Out -/
abbrev Rl := List Int × List Int
/-- these cells are those of the rules -/
def Rls (X : Nat → Prop) (w : World) : List Value → List Rl → Prop
  | [], [] => True
  | a :: b :: xs, r :: rs => Us X w a r.1 ∧ Us X w b r.2 ∧ Rls X w xs rs
  | _, _ => False
theorem Rls.step {X Y : Nat → Prop} {w w' : World} (hs : w.heap.size ≤ w'.heap.size) (hk : ∀ b, b < w.heap.size → X b → Y b ∧ w'.heap[b]? = w.heap[b]?) : ∀ {xs : List Value} {rs : List Rl}, Rls X w xs rs → Rls Y w' xs rs
  | [], [], _ => trivial
  | a :: b :: xs, r :: rs, ⟨h1, h2, h3⟩ => ⟨h1.step hs hk, h2.step hs hk, Rls.step hs hk h3⟩
theorem Rls.length {X : Nat → Prop} {w : World} : ∀ {xs : List Value} {rs : List Rl}, Rls X w xs rs → xs.length = rs.length * 2
  | [], [], _ => rfl
  | a :: b :: xs, r :: rs, ⟨_, _, h⟩ => by simp only [List.length_cons, Rls.length h]; omega
theorem Rls.app {X : Nat → Prop} {w : World} : ∀ {xs ys : List Value} {rs ss : List Rl}, Rls X w xs rs → Rls X w ys ss → Rls X w (xs ++ ys) (rs ++ ss)
  | [], _, [], _, _, h => h
  | a :: b :: xs, _, r :: rs, _, ⟨h1, h2, h3⟩, h => ⟨h1, h2, Rls.app h3 h⟩
theorem Rls.take {X : Nat → Prop} {w : World} : ∀ (k : Nat) {xs : List Value} {rs : List Rl}, Rls X w xs rs → Rls X w (xs.take (k * 2)) (rs.take k)
  | 0, _, _, _ => by simp [Rls]
  | k + 1, [], [], _ => by simp [Rls]
  | k + 1, a :: b :: xs, r :: rs, ⟨h1, h2, h3⟩ => by
    rw [show (k + 1) * 2 = k * 2 + 1 + 1 from by omega]
    exact ⟨h1, h2, Rls.take k h3⟩
theorem Rls.one {X : Nat → Prop} {w : World} {a b : Value} {r : Rl} (h1 : Us X w a r.1) (h2 : Us X w b r.2) : Rls X w [a, b] [r] := ⟨h1, h2, trivial⟩
theorem Us.one {X : Nat → Prop} {w : World} {v : Value} {us : List Int} (h : Us X w v us) : v.oneCell' = true := by
  obtain ⟨A, c, rfl, _⟩ := h; rfl
theorem Rls.ones {X : Nat → Prop} {w : World} : ∀ {xs : List Value} {rs : List Rl}, Rls X w xs rs → ∀ u ∈ xs, u.oneCell' = true
  | [], [], _, u, hu => by cases hu
  | a :: b :: xs, r :: rs, ⟨h1, h2, h3⟩, u, hu => by
    simp only [List.mem_cons] at hu
    rcases hu with rfl | rfl | hu
    · exact h1.one
    · exact h2.one
    · exact Rls.ones h3 u hu
theorem Rls.at {X : Nat → Prop} {w : World} : ∀ {xs : List Value} {rs : List Rl} (h : Rls X w xs rs) (k : Nat) (hk : k < rs.length),
    ∃ a b, xs[k * 2]? = some a ∧ xs[k * 2 + 1]? = some b ∧ Us X w a rs[k].1 ∧ Us X w b rs[k].2
  | a :: b :: xs, r :: rs, ⟨h1, h2, h3⟩, 0, _ => ⟨a, b, rfl, rfl, h1, h2⟩
  | a :: b :: xs, r :: rs, ⟨h1, h2, h3⟩, k + 1, hk => by
    obtain ⟨a', b', g1, g2, g3, g4⟩ := Rls.at h3 k (by simpa using hk)
    refine ⟨a', b', ?_, ?_, by simpa using g3, by simpa using g4⟩
    · rw [show (k + 1) * 2 = k * 2 + 1 + 1 from by omega]; exact g1
    · rw [show (k + 1) * 2 + 1 = k * 2 + 1 + 1 + 1 from by omega]; exact g2
  | [], [], _, k, hk => by cases hk

/-- a slice of rules, all below block B -/
structure RsAt (w : World) (B : Nat) (A : Option Addr) (n c : Nat) (rs : List Rl) : Prop where
  len : n = rs.length
  fits : n ≤ c
  small : c ≤ maxLen
  lies : ∃ xs, Rd w B A xs ∧ Rls (· < B) w xs rs
theorem RsAt.below {w w' : World} {B B' : Nat} {A : Option Addr} {n c : Nat} {rs : List Rl} (h : RsAt w B A n c rs) (hb : Below B w w') (hB : B ≤ B') : RsAt w' B' A n c rs := by
  obtain ⟨h1, h2, h3, xs, h4, h5⟩ := h
  exact ⟨h1, h2, h3, xs, h4.below hb hB, h5.step hb.size fun b _ hl => ⟨by omega, hb.block b hl⟩⟩
theorem RsAt.cut {w : World} {B : Nat} {A : Option Addr} {n c : Nat} {rs : List Rl} (h : RsAt w B A n c rs) (k : Nat) (hk : k ≤ n) : RsAt w B A k c (rs.take k) := by
  obtain ⟨h1, h2, h3, xs, h4, h5⟩ := h
  exact ⟨by simp; omega, by omega, h3, xs.take (k * 2), h4.take _, Rls.take k h5⟩
/-- the cells of rule k -/
theorem RsAt.at {w : World} {B : Nat} {A : Option Addr} {n c : Nat} {rs : List Rl} (h : RsAt w B A n c rs) {k : Nat} (hk : k < rs.length) :
    ∃ b off, A = some ⟨b, off, none⟩ ∧ b < B ∧ ∃ A1 n1 c1 A2 n2 c2, w.cell? ⟨b, off + k * 2, none⟩ = some (.slice A1 n1 c1) ∧ w.cell? ⟨b, off + k * 2 + 1, none⟩ = some (.slice A2 n2 c2) ∧
      n1 = rs[k].1.length ∧ n1 ≤ c1 ∧ c1 ≤ maxLen ∧ Rd w B A1 (rs[k].1.map (Value.int .i64)) ∧ n2 = rs[k].2.length ∧ n2 ≤ c2 ∧ c2 ≤ maxLen ∧ Rd w B A2 (rs[k].2.map (Value.int .i64)) := by
  obtain ⟨h1, h2, h3, xs, h4, h5⟩ := h
  have hlen := Rls.length h5
  obtain ⟨a, b', g1, g2, ⟨A1, c1, rfl, e2, e3, e4⟩, ⟨A2, c2, rfl, f2, f3, f4⟩⟩ := Rls.at h5 k hk
  rcases h4 with h | ⟨b, off, k1, k2, k3⟩
  · rw [h] at hlen; simp only [List.length_nil] at hlen; omega
  · exact ⟨b, off, k1, k2, A1, _, c1, A2, _, c2, (k3 _ (by omega)).trans g1, by rw [Nat.add_assoc]; exact (k3 _ (by omega)).trans g2, rfl, e2, e3, e4.rdB, rfl, f2, f3, f4.rdB⟩

/-- a row of rules of the call's own, from block base on: its rules' units lie elsewhere -/
def OwnRs (base : Nat) (w : World) (v : Value) (rs : List Rl) : Prop := ∃ xs, w.ownsRow base 104 2 v rs.length xs ∧ Rls (fun b => v.ownBlock ≠ some b) w xs rs
theorem OwnRs.nil (base : Nat) (w : World) : OwnRs base w (.slice none 0 0) [] := ⟨[], World.ownsRow_nil _ _ _ _, trivial⟩
theorem OwnRs.form {base : Nat} {w : World} {v : Value} {rs : List Rl} (h : OwnRs base w v rs) : ∃ A c, v = .slice A rs.length c ∧ RsAt w w.heap.size A rs.length c rs := by
  obtain ⟨xs, ho, hr⟩ := h
  obtain ⟨A, c, rfl, h1, h2⟩ := own_form ho
  exact ⟨A, c, rfl, rfl, h1, h2, xs, Rd.own ho, hr.step (Nat.le_refl _) fun b hl _ => ⟨hl, rfl⟩⟩
theorem OwnRs.at {base : Nat} {w : World} {A : Option Addr} {n c : Nat} {rs : List Rl} (h : OwnRs base w (.slice A n c) rs) : RsAt w w.heap.size A n c rs := by
  obtain ⟨A', c', e, h'⟩ := h.form
  injection e with e1 e2 e3
  subst e1 e2 e3
  exact h'
theorem own_lt {w : World} {base size n : Nat} {e : TypeId} {v : Value} {xs : List Value} (h : w.ownsRow base e size v n xs) {g : Nat} (hg : v.ownBlock = some g) : g < w.heap.size := by
  rcases h.2 with ⟨rfl, _⟩ | ⟨g', cap, cur, rfl, _, hh, _⟩
  · simp [Value.ownBlock] at hg
  · have : g' = g := by simpa [Value.ownBlock] using hg
    subst this
    rcases Nat.lt_or_ge g' w.heap.size with hl | hg
    · exact hl
    · rw [Array.getElem?_eq_none hg] at hh; cases hh
theorem OwnRs.below {base B : Nat} {w w' : World} {v : Value} {rs : List Rl} (h : OwnRs base w v rs) (hb : Below B w w') (hB : w.heap.size ≤ B) : OwnRs base w' v rs := by
  obtain ⟨xs, ho, hr⟩ := h
  exact ⟨xs, own_below ho hb hB, hr.step hb.size fun b hl hx => ⟨hx, hb.block b (by omega)⟩⟩
theorem OwnRs.low {base base' : Nat} {w : World} {v : Value} {rs : List Rl} (h : OwnRs base w v rs) (hb : base' ≤ base) : OwnRs base' w v rs := by
  obtain ⟨xs, ho, hr⟩ := h
  exact ⟨xs, own_low ho hb, hr⟩

section
variable {P : Program} (w : World)
/-- as run_app: and where the new row lies -/
theorem run_appB (base : Nat) (t ty e : TypeId) (i : TypeInfo) (z : Value) (size bytes : Nat) (ht : P.underlying t = some (.slice e)) (hi : P.info? e = some i) (hz : i.zero = some z)
    (hsize : i.size = size) (hby : i.bytes = bytes) (hzs : z.cells.size = size) (hsz : 0 < size)
    (v : Value) (n : Nat) (xs : List Value) (hown : w.ownsRow base e size v n xs)
    (B : Nat) (A : Option Addr) (m c : Nat) (news : List Value) (hl : news.length = m * size) (hr : Rd w B A news) (h1 : ∀ u ∈ news, u.oneCell' = true)
    (h63 : n + m ≤ maxLen) (hbytes : (n + m) * bytes ≤ 140737488355328) (hbase : base ≤ w.heap.size) :
    ∃ v' w', (Builtin.append_ #[t, t] ty #[v, .slice A m c]).run P w = .ok v' w' ∧ w'.ownsRow base e size v' (n + m) (xs ++ news) ∧ w.grownBy w' v.ownBlock ∧ (v'.ownBlock = v.ownBlock ∨ v'.ownBlock = some w.heap.size) := by
  cases A with
  | none =>
    have hn : news = [] := by
      rcases hr with h | ⟨_, _, h, _⟩
      · exact h
      · cases h
    subst hn
    have hm : m = 0 := by
      rcases Nat.eq_zero_or_pos m with h | h
      · exact h
      · have := Nat.mul_pos h hsz; simp at hl; omega
    subst hm
    refine ⟨v, w, ?_, by simpa using hown, World.grownBy.refl w _, .inl rfl⟩
    rcases hown.2 with ⟨hv, hn0⟩ | ⟨g, cap, cur, hv, _, _, hnc, _⟩
    · subst hv; simp [Builtin.append_, run_underlying ht, sizeOf, typeInfo, hi, Builtin.lenOf, Builtin.firstCells]
    · subst hv; simp [Builtin.append_, run_underlying ht, sizeOf, typeInfo, hi, Builtin.lenOf, Builtin.firstCells, hnc, storeCells]
  | some ad =>
    have hc : ∀ j u, news[j]? = some u → w.cell? (ad.add j) = some u := by
      intro j u hu
      rcases hr with h | ⟨b, off, h, _, hcell⟩
      · subst h; simp at hu
      · injection h with h; subst h
        have hj : j < news.length := by
          rcases Nat.lt_or_ge j news.length with hj | hj
          · exact hj
          · rw [List.getElem?_eq_none hj] at hu; cases hu
        rw [← hu, ← hcell j hj]
        simp [Addr.add]
        split <;> simp_all
    obtain ⟨v', w', hrun, h2, h3, _, h5⟩ := run_append_own_at (P := P) w base t ty e i z size bytes ht hi hz hsize hby hzs hsz v n xs hown ad m c news hl hc h1 h63 hbytes hbase
    exact ⟨v', w', hrun, h2, h3, h5⟩
theorem wpList_appB {ops : Array Oper} {rest : List Oper} {o : Oper} {a : Act} {Q : Exit → Act → World → Prop} (hgd : o.guard = none) (s x : Operand) (t : TypeId)
    (ho : o.op = .call { callee := .builtin .append, args := #[s, x], argTypes := #[t, t] })
    (base : Nat) (e : TypeId) (i : TypeInfo) (z : Value) (size bytes : Nat) (ht : P.underlying t = some (.slice e)) (hi : P.info? e = some i) (hz : i.zero = some z)
    (hsize : i.size = size) (hby : i.bytes = bytes) (hzs : z.cells.size = size) (hsz : 0 < size)
    (v : Value) (n : Nat) (xs : List Value) (hs : a.eval s = v) (hown : w.ownsRow base e size v n xs)
    (B : Nat) (A : Option Addr) (m c : Nat) (news : List Value) (hx : a.eval x = .slice A m c) (hl : news.length = m * size) (hr : Rd w B A news) (h1 : ∀ u ∈ news, u.oneCell' = true)
    (h63 : n + m ≤ maxLen) (hbytes : (n + m) * bytes ≤ 140737488355328) (hbase : base ≤ w.heap.size)
    (h : ∀ v' w', w'.ownsRow base e size v' (n + m) (xs ++ news) → w.grownBy w' v.ownBlock → (v'.ownBlock = v.ownBlock ∨ v'.ownBlock = some w.heap.size) → wpList P ops Q rest (a.put o.dst v') w') : wpList P ops Q (o :: rest) a w :=
  wpList_plain hgd fun K hK => by
    obtain ⟨v', w', hrun, h2, h3, h4⟩ := run_appB (P := P) w base t o.type e i z size bytes ht hi hz hsize hby hzs hsz v n xs hown B A m c news hl hr h1 h63 hbytes hbase
    unfold Oper.wp execOp
    simp only [ho, resolve, invoke, builtin, Sem.run_bind, Sem.run_pure, Result.andThen_ok, List.map_toArray, List.map_cons, List.map_nil, hs, hx, hrun]
    exact hK _ _ (h v' w' h2 h3 h4)
end
/-- what is told of rules elsewhere stays, where only the row itself is written -/
theorem Rls.grown {w w' : World} {v v' : Value} {xs : List Value} {rs : List Rl} (h : Rls (fun b => v.ownBlock ≠ some b) w xs rs) (hg : w.grownBy w' v.ownBlock) (hv : v'.ownBlock = v.ownBlock ∨ v'.ownBlock = some w.heap.size) : Rls (fun b => v'.ownBlock ≠ some b) w' xs rs :=
  h.step hg.size fun b hl hx => ⟨by
    rcases hv with e | e
    · rw [e]; exact hx
    · rw [e]; intro e'; injection e' with e'; omega, hg.block b hl (fun e => hx e.symm)⟩
theorem inforl : (Tryz.prog.info? 104).map (fun i => (i.zero, i.size, i.bytes)) = some (some (.agg #[.slice none 0 0, .slice none 0 0]), 2, 48) := by kernel_rfl
theorem own_push {base : Nat} {w1 w2 : World} {v v' : Value} {rs : List Rl} {xs : List Value} {a b : Value} {r : Rl} (ho : w2.ownsRow base 104 2 v' (rs.length + 1) (xs ++ [a, b])) (hx : Rls (fun b => v.ownBlock ≠ some b) w1 xs rs)
    (ha : Us (fun b => v.ownBlock ≠ some b) w1 a r.1) (hb : Us (fun b => v.ownBlock ≠ some b) w1 b r.2) (hg : w1.grownBy w2 v.ownBlock) (hv : v'.ownBlock = v.ownBlock ∨ v'.ownBlock = some w1.heap.size) : OwnRs base w2 v' (rs ++ [r]) :=
  ⟨xs ++ [a, b], by simpa using ho, Rls.grown (hx.app (Rls.one ha hb)) hg hv⟩
theorem us_new (w : World) (m : Nat) (hm : w.heap.size = m) (z : Int) : Us (fun b => b = m) (w.alloc (.cells #[.int .i64 z] 3)) (.slice (some ⟨m, 0, none⟩) 1 1) [z] := by
  subst hm
  refine ⟨_, 1, rfl, by simp, by simp [maxLen], .inr ⟨w.heap.size, 0, rfl, by simp, rfl, fun j hj => ?_⟩⟩
  obtain rfl : j = 0 := by simpa using hj
  exact World.cell?_alloc_new (w := w) _ _ 0
end Go.Proofs.YtncpokioagpclaaGreatDoor
namespace Go.Proofs.YtncpokioagpclaaGreatDoor
set_option linter.unusedVariables false
set_option linter.unusedSimpArgs false
set_option linter.unnecessarySimpa false
open Go.RowKit
theorem below_allocT (w : World) (o : Obj) : Below w.heap.size w (w.alloc o) := (Below.refl _ w).alloc (Nat.le_refl _) o
theorem below_rowT {B : Nat} {w0 w w' : World} {row : Option Nat} (h : Below B w0 w) (hg : w.grownBy w' row) (hr : ∀ b, row = some b → B ≤ b) (hB : B ≤ w.heap.size) : Below B w0 w' :=
  h.trans ⟨hg.os, hg.tape, hg.output, hg.size, fun k hk => hg.block k (by omega) (fun e => by have := hr k e.symm; omega)⟩
/-- a slice of bytes that lies in X -/
def U8 (X : Nat → Prop) (w : World) (v : Value) (us : List Int) : Prop := ∃ A c, v = .slice A us.length c ∧ us.length ≤ c ∧ c ≤ maxLen ∧ Rdx X w A (us.map (Value.int .u8))
theorem U8.step {X Y : Nat → Prop} {w w' : World} {v : Value} {us : List Int} (h : U8 X w v us) (hs : w.heap.size ≤ w'.heap.size) (hk : ∀ b, b < w.heap.size → X b → Y b ∧ w'.heap[b]? = w.heap[b]?) : U8 Y w' v us := by
  obtain ⟨A, c, h1, h2, h3, h4⟩ := h
  exact ⟨A, c, h1, h2, h3, h4.step hs hk⟩
theorem U8.one {X : Nat → Prop} {w : World} {v : Value} {us : List Int} (h : U8 X w v us) : v.oneCell' = true := by
  obtain ⟨A, c, rfl, _⟩ := h; rfl
/-- the cells of acts, whose texts lie in X -/
def Acs (X : Nat → Prop) (w : World) : List Value → List Ac → Prop
  | [], [] => True
  | k :: r :: t :: xs, a :: az => k = .int .i64 a.kind ∧ r = .int .i64 a.room ∧ U8 X w t a.text ∧ Acs X w xs az
  | _, _ => False
theorem Acs.step {X Y : Nat → Prop} {w w' : World} (hs : w.heap.size ≤ w'.heap.size) (hk : ∀ b, b < w.heap.size → X b → Y b ∧ w'.heap[b]? = w.heap[b]?) : ∀ {xs : List Value} {az : List Ac}, Acs X w xs az → Acs Y w' xs az
  | [], [], _ => trivial
  | _ :: _ :: _ :: _, _ :: _, ⟨h1, h2, h3, h4⟩ => ⟨h1, h2, h3.step hs hk, Acs.step hs hk h4⟩
theorem Acs.length {X : Nat → Prop} {w : World} : ∀ {xs : List Value} {az : List Ac}, Acs X w xs az → xs.length = az.length * 3
  | [], [], _ => rfl
  | _ :: _ :: _ :: xs, _ :: az, ⟨_, _, _, h4⟩ => by have := Acs.length h4; simp only [List.length_cons]; omega
theorem Acs.app {X : Nat → Prop} {w : World} : ∀ {xs ys : List Value} {az bs : List Ac}, Acs X w xs az → Acs X w ys bs → Acs X w (xs ++ ys) (az ++ bs)
  | [], ys, [], bs, _, h => h
  | _ :: _ :: _ :: _, ys, _ :: _, bs, ⟨h1, h2, h3, h4⟩, h => ⟨h1, h2, h3, h4.app h⟩
theorem Acs.at {X : Nat → Prop} {w : World} : ∀ {xs : List Value} {az : List Ac}, Acs X w xs az → ∀ (k : Nat) (hk : k < az.length), ∃ t, xs[k * 3]? = some (.int .i64 az[k].kind) ∧ xs[k * 3 + 1]? = some (.int .i64 az[k].room) ∧ xs[k * 3 + 2]? = some t ∧ U8 X w t az[k].text
  | [], [], _, k, hk => (by cases hk)
  | a :: r :: t :: xs, x :: az, ⟨h1, h2, h3, h4⟩, 0, hk => ⟨t, by simp [h1], by simp [h2], by simp, h3⟩
  | a :: r :: t :: xs, x :: az, ⟨h1, h2, h3, h4⟩, k + 1, hk => by
    obtain ⟨t', g1, g2, g3, g4⟩ := h4.at k (by simpa using hk)
    have e0 : (k + 1) * 3 = k * 3 + 1 + 1 + 1 := by omega
    refine ⟨t', ?_, ?_, ?_, by simpa using g4⟩
    · rw [e0]; simpa using g1
    · rw [e0, show k * 3 + 1 + 1 + 1 + 1 = (k * 3 + 1) + 1 + 1 + 1 by omega]; simpa using g2
    · rw [e0, show k * 3 + 1 + 1 + 1 + 2 = (k * 3 + 2) + 1 + 1 + 1 by omega]; simpa using g3
/-- a row of acts of one's own, from base on; their texts lie elsewhere -/
def OwnAc (base : Nat) (w : World) (v : Value) (az : List Ac) : Prop := ∃ xs, w.ownsRow base 81 3 v az.length xs ∧ Acs (fun b => v.ownBlock ≠ some b) w xs az
theorem OwnAc.form {base : Nat} {w : World} {v : Value} {az : List Ac} (h : OwnAc base w v az) : ∃ A c, v = .slice A az.length c ∧ az.length ≤ c ∧ c ≤ maxLen := by
  obtain ⟨xs, ho, _⟩ := h; exact own_form ho
theorem OwnAc.nil (w : World) (base : Nat) : OwnAc base w (.slice none 0 0) [] := ⟨[], World.ownsRow_nil w base _ 3, trivial⟩
theorem OwnAc.below {base : Nat} {w w' : World} {v : Value} {az : List Ac} (h : OwnAc base w v az) (hb : Below w.heap.size w w') : OwnAc base w' v az := by
  obtain ⟨xs, ho, ha⟩ := h
  exact ⟨xs, own_below ho hb (Nat.le_refl _), ha.step hb.size fun b hl hx => ⟨hx, hb.block b hl⟩⟩
theorem OwnAc.cells {base : Nat} {w : World} {A : Option Addr} {n c : Nat} {az : List Ac} (h : OwnAc base w (.slice A n c) az) (hn : az.length = n) {K : Nat} (hK : K < n) :
    ∃ g t, A = some ⟨g, 0, none⟩ ∧ w.cell? ⟨g, K * 3, none⟩ = some (.int .i64 (az[K]'(by omega)).kind) ∧ w.cell? ⟨g, K * 3 + 1, none⟩ = some (.int .i64 (az[K]'(by omega)).room) ∧ w.cell? ⟨g, K * 3 + 2, none⟩ = some t ∧ U8 (fun b => b ≠ g) w t (az[K]'(by omega)).text := by
  obtain ⟨xs, ho, ha⟩ := h
  have hlen := ha.length
  rcases ho.2 with ⟨_, h2⟩ | ⟨g, cap, cur, h1, h2, h3, h4⟩
  · omega
  · have h0 := ho
    rw [h1] at h0
    obtain ⟨t, g1, g2, g3, hu⟩ := ha.at K (by omega)
    refine ⟨g, t, by injection h1, ?_, ?_, ?_, hu.step (Nat.le_refl _) fun b _ hx => ⟨fun e => hx (by rw [h1, e]; rfl), rfl⟩⟩
    · exact (World.ownsRow.cellAt h0 _ (by omega)).trans g1
    · exact (World.ownsRow.cellAt h0 _ (by omega)).trans g2
    · exact (World.ownsRow.cellAt h0 _ (by omega)).trans g3
end Go.Proofs.YtncpokioagpclaaGreatDoor
namespace Go.Proofs.YtncpokioagpclaaGreatDoor
set_option linter.unusedVariables false
set_option linter.unusedSimpArgs false
set_option linter.unnecessarySimpa false
open Go.RowKit
structure ScrApi where
  OK : World → Prop
  nm : Nat → ByteArray
  nm0 : nm 0 = ⟨#[117, 116, 102, 45, 56]⟩
  nm1 : nm 1 = ⟨#[97, 115, 99, 105, 105]⟩
  names : ∀ w : World, OK w → Calls Tryz.prog 43 #[] w fun e w' => ∃ p c, e = .returned (.slice (some ⟨p, 0, none⟩) 8 c) ∧ (∀ j, j < 8 → w'.cell? ⟨p, j, none⟩ = some (.string (nm j))) ∧ Below w.heap.size w w'
  keep : ∀ {w w' : World}, OK w → Below w.heap.size w w' → OK w'
  pair : ∀ (w : World) (z : Int) (k1 k2 : Nat) (pol : Int), 0 ≤ z → z ≤ 255 → z % 8 = (k1 : Int) → z / 8 % 8 = (k2 : Int) → z / 64 % 3 = pol → OK w → Calls Tryz.prog 42 #[.int .u8 z] w fun e w' => e = .returned (.tuple #[.string (nm k1), .string (nm k2), .int .i64 pol]) ∧ Below w.heap.size w w'
  acts : ∀ (w : World) (n : Nat) (A : Option Addr) (c : Nat) (us : List Int) (B : Nat) (az : List Ac), OK w → us.length = n → Rd w B A (us.map (Value.int .u8)) → B ≤ w.heap.size → n ≤ c → c ≤ maxLen → n ≤ 1048576 → (∀ u ∈ us, 0 ≤ u ∧ u ≤ 255) → actsL us = az → Calls Tryz.prog 40 #[.slice A n c] w fun e w' => ∃ v, e = .returned v ∧ OwnAc w.heap.size w' v az ∧ Below w.heap.size w w'
  awk : ∀ (w : World) (A : Option Addr) (c : Nat) (B : Nat), OK w → Rd w B A ([1, 32, 2, 97, 98, 6].map (Value.int .u8)) → B ≤ w.heap.size → 6 ≤ c → c ≤ maxLen → Calls Tryz.prog 73 #[.slice A 6 c] w fun e w' => ∃ Ao no co At ct f0 f1 f2, e = .returned (.tuple #[.agg #[.slice Ao no co, .int .i64 2, .slice At 2 ct, .int .i64 f0, .int .i64 f1, .int .i64 f2], .bool true]) ∧ Below w.heap.size w w'
end Go.Proofs.YtncpokioagpclaaGreatDoor
namespace Go.Proofs.YtncpokioagpclaaGreatDoor
set_option linter.unusedVariables false
set_option linter.unusedSimpArgs false
set_option linter.unnecessarySimpa false
open Go.RowKit

/-- block B is just these cells -/
def Held (W : World) (B : Nat) (cs : Array Value) (t : TypeId) : Prop := W.heap[B]? = some (.cells cs t (0, 0))
theorem Held.lt {W : World} {B : Nat} {cs : Array Value} {t : TypeId} (h : Held W B cs t) : B < W.heap.size := (Array.getElem?_eq_some_iff.1 h).1
theorem Held.new (W : World) (cs : Array Value) (t : TypeId) : Held (W.alloc (.cells cs t)) W.heap.size cs t := heap_alloc_new W _
theorem Held.kept {W W' : World} {row : Option Nat} {B : Nat} {cs : Array Value} {t : TypeId} (h : Held W B cs t) (hg : W.grownBy W' row) (hne : some B ≠ row) : Held W' B cs t := (hg.block B h.lt hne).trans h
theorem Held.below {W W' : World} {B n : Nat} {cs : Array Value} {t : TypeId} (h : Held W B cs t) (hb : Below n W W') (hn : B < n) : Held W' B cs t := (hb.block B hn).trans h
theorem Held.alloc {W : World} {B : Nat} {cs : Array Value} {t : TypeId} (h : Held W B cs t) (o : Obj) : Held (W.alloc o) B cs t := h.kept (World.grownBy_alloc W o none) (by simp)
theorem Held.cell {W : World} {B : Nat} {cs : Array Value} {t : TypeId} (h : Held W B cs t) (j : Nat) : W.cell? ⟨B, j, none⟩ = cs[j]? := cell_of_row W B j cs t _ h
theorem Held.set2 {W : World} {B : Nat} {x y : Value} {t : TypeId} (h : Held W B #[x, y] t) (a b : Value) : Held ((W.setCell ⟨B, 0, none⟩ a).setCell ⟨B, 1, none⟩ b) B #[a, b] t := by
  obtain ⟨hlt, hk⟩ := Array.getElem?_eq_some_iff.1 h
  unfold Held World.setCell
  simp only [Array.getElem?_modify, if_true]
  rw [Array.getElem?_eq_getElem hlt, hk]
  rfl
theorem Held.otherK {W : World} {B : Nat} {cs : Array Value} {t : TypeId} (h : Held W B cs t) {p : Addr} (hne : B ≠ p.block) (u : Value) : Held (W.setCell p u) B cs t :=
  (Below.heap_setCell W p u B hne).trans h
theorem grownBy_setCellK (W : World) (p : Addr) (v : Value) : W.grownBy (W.setCell p v) (some p.block) :=
  ⟨rfl, rfl, rfl, by simp [World.setCell], fun k _ hk => Below.heap_setCell _ _ _ k (fun e => hk (by rw [e]))⟩
theorem Held.frozen {W : World} {B : Nat} {cs : Array Value} {t : TypeId} (h : Held W B cs t) (j : Nat) : W.frozen? ⟨B, j, none⟩ = false := by simp [World.frozen?, show W.heap[B]? = _ from h]

theorem run_store_complex (P : Program) (w : World) (a : Addr) (m : Mode) (k : FloatKind) (x y : Nat) : (store a (.complex k x y) m).run P w = stored P w a (.complex k x y) m := run_store P w a _ m rfl
theorem below_dN (w : World) (m : Nat) : Below w.heap.size w (w.drewN m) := ⟨rfl, rfl, rfl, Nat.le_refl _, fun _ _ => rfl⟩
theorem below_setRow {B g : Nat} {w0 w : World} (hb : Below B w0 w) (hBg : B ≤ g) (cs : Array Value) : Below B w0 (w.setRow g cs) :=
  ⟨hb.os, hb.tape, hb.output, by rw [setRow_size]; exact hb.size, fun k hk => (setRow_other w g k cs (by omega)).trans (hb.block k hk)⟩
end Go.Proofs.YtncpokioagpclaaGreatDoor
namespace Go.Proofs.YtncpokioagpclaaGreatDoor
set_option linter.unusedVariables false
open Go.RowKit

def eqB (a b : List Int) : Bool := decide (a = b)
theorem eqB_t {a b : List Int} (h : a = b) : eqB a b = true := by simp [eqB, h]
theorem eqB_f {a b : List Int} (h : a ≠ b) : eqB a b = false := by simp [eqB, h]
theorem take_next {a b : List Int} {K : Nat} (h : a.take K = b.take K) (ha : K < a.length) (hb : K < b.length) (he : a.getD K 0 = b.getD K 0) : a.take (K + 1) = b.take (K + 1) := by
  have e1 : a.getD K 0 = a[K] := by simp [List.getD_eq_getElem?_getD, ha]
  have e2 : b.getD K 0 = b[K] := by simp [List.getD_eq_getElem?_getD, hb]
  rw [List.take_succ_eq_append_getElem ha, List.take_succ_eq_append_getElem hb, h, ← e1, ← e2, he]
theorem take_all {a b : List Int} {K : Nat} (h : a.take K = b.take K) (ha : K = a.length) (hb : K = b.length) : a = b := by
  rw [List.take_of_length_le (by omega), List.take_of_length_le (by omega)] at h
  exact h
theorem take_not {a b : List Int} {K : Nat} (he : a.getD K 0 ≠ b.getD K 0) : a ≠ b := fun h => he (by rw [h])

set_option maxHeartbeats 800000 in
theorem units_eq (n n' : Nat) (A A' : Option Addr) (c c' : Nat) (zs zs' : List Int) (B B' : Nat) (w : World) (hn : n = zs.length) (hn' : n' = zs'.length) (hr : Rd w B A (zs.map (Value.int .i64))) (hr' : Rd w B' A' (zs'.map (Value.int .i64))) (hl : n ≤ 9223372036854775807) :
    Calls Tryz.prog 27 #[.slice A n c, .slice A' n' c'] w fun e w' => e = .returned (.bool (eqB zs zs')) ∧ ∃ m, w' = w.drewN m := by
  by_cases hnn : n = n'
  · have HR := Lib.hid hr
    have HR' := Lib.hid hr'
    have HN := Lib.hid hn
    have HN' := Lib.hid hn'
    subst hnn
    clear hr hr' hn hn'
    go_enter Tryz.func27, Tryz.ntmps27
    go_wp2
    go_loopw [13] (fun i wr => ∃ K m : Nat, K ≤ n ∧ i = .int .i64 K ∧ wr = w.drewN m ∧ Hid (zs.take K = zs'.take K)) (fun i _ => n - (intOf i).toNat)
    case atStart => exact ⟨0, 0, by omega, rfl, rfl, by simp [Hid]⟩
    case round =>
      obtain ⟨K, m, hK, rfl, rfl, ht⟩ := hrel
      by_cases hKl : K = n
      · have hKl' : ¬ K < n := by omega
        have hall := take_all ht.out (by rw [← HN.out, hKl]) (by rw [← HN'.out, hKl])
        have HA := Lib.hid (eqB_t hall)
        clear hKl hall
        go_wp2
        go_ret
        exact ⟨ret_bool HA.out, m, rfl⟩
      have hKl' : K < n := by omega
      have hK1 : K < zs.length := by rw [← HN.out]; exact hKl'
      have hK2 : K < zs'.length := by rw [← HN'.out]; exact hKl'
      obtain ⟨b, o, rfl, _, hc⟩ := rd_ints HR.out (by omega)
      obtain ⟨b', o', rfl, _, hc'⟩ := rd_ints HR'.out (by omega)
      have k1 := hc K hK1
      have k2 := hc' K hK2
      have k3 : (0 : Int) ≤ K := by omega
      have k4 : (K : Int) < n := by omega
      clear hc hc'
      obtain ⟨p, hp⟩ : ∃ p, zs.getD K 0 = p := ⟨_, rfl⟩
      obtain ⟨q, hq⟩ : ∃ q, zs'.getD K 0 = q := ⟨_, rfl⟩
      rw [hp] at k1
      rw [hq] at k2
      by_cases he : p = q
      · subst he
        have k0 : (p != p) = false := by simp
        have HT := Lib.hid (take_next ht.out hK1 hK2 (hp.trans hq.symm))
        clear hp hq
        go_wp2_with fail
        go_quiet (fail)
        go_wp2
        go_roundw
        case rel => exact ⟨K + 1, _, by omega, by go_num, rfl, HT⟩
        case measure => simp [intOf]; omega
      · have k0 : (p != q) = true := by simpa using he
        have HA := Lib.hid (eqB_f (take_not (a := zs) (b := zs') (K := K) (by rw [hp, hq]; exact he)))
        clear hp hq he
        go_wp2_with fail
        go_quiet (fail)
        go_wp2
        go_ret
        exact ⟨ret_bool HA.out, _, by rw [World.drewN_drewN]⟩
  · have h0 : ((n : Int) != n') = true := by rw [bne_iff_ne]; omega
    have HA := Lib.hid (eqB_f (a := zs) (b := zs') (by intro h; rw [h] at hn; omega))
    clear hr hr' hn hn' hnn
    go_enter Tryz.func27, Tryz.ntmps27
    go_wp2
    go_ret
    exact ⟨ret_bool HA.out, 0, rfl⟩

set_option maxHeartbeats 800000 in
theorem equal_eq (n n' : Nat) (A A' : Option Addr) (c c' : Nat) (zs zs' : List Int) (B B' : Nat) (w : World) (hn : n = zs.length) (hn' : n' = zs'.length) (hr : Rd w B A (zs.map (Value.int .i64))) (hr' : Rd w B' A' (zs'.map (Value.int .i64))) (hl : n ≤ 9223372036854775807) :
    Calls Tryz.prog 92 #[.slice A n c, .slice A' n' c'] w fun e w' => e = .returned (.bool (eqB zs zs')) ∧ ∃ m, w' = w.drewN m := by
  by_cases hnn : n = n'
  · have HR := Lib.hid hr
    have HR' := Lib.hid hr'
    have HN := Lib.hid hn
    have HN' := Lib.hid hn'
    subst hnn
    clear hr hr' hn hn'
    go_enter Tryz.func92, Tryz.ntmps92
    go_wp2
    go_loopw [13] (fun i wr => ∃ K m : Nat, K ≤ n ∧ i = .int .i64 K ∧ wr = w.drewN m ∧ Hid (zs.take K = zs'.take K)) (fun i _ => n - (intOf i).toNat)
    case atStart => exact ⟨0, 0, by omega, rfl, rfl, by simp [Hid]⟩
    case round =>
      obtain ⟨K, m, hK, rfl, rfl, ht⟩ := hrel
      by_cases hKl : K = n
      · have hKl' : ¬ K < n := by omega
        have hall := take_all ht.out (by rw [← HN.out, hKl]) (by rw [← HN'.out, hKl])
        have HA := Lib.hid (eqB_t hall)
        clear hKl hall
        go_wp2
        go_ret
        exact ⟨ret_bool HA.out, m, rfl⟩
      have hKl' : K < n := by omega
      have hK1 : K < zs.length := by rw [← HN.out]; exact hKl'
      have hK2 : K < zs'.length := by rw [← HN'.out]; exact hKl'
      obtain ⟨b, o, rfl, _, hc⟩ := rd_ints HR.out (by omega)
      obtain ⟨b', o', rfl, _, hc'⟩ := rd_ints HR'.out (by omega)
      have k1 := hc K hK1
      have k2 := hc' K hK2
      have k3 : (0 : Int) ≤ K := by omega
      have k4 : (K : Int) < n := by omega
      clear hc hc'
      obtain ⟨p, hp⟩ : ∃ p, zs.getD K 0 = p := ⟨_, rfl⟩
      obtain ⟨q, hq⟩ : ∃ q, zs'.getD K 0 = q := ⟨_, rfl⟩
      rw [hp] at k1
      rw [hq] at k2
      by_cases he : p = q
      · subst he
        have k0 : (p != p) = false := by simp
        have HT := Lib.hid (take_next ht.out hK1 hK2 (hp.trans hq.symm))
        clear hp hq
        go_wp2_with fail
        go_quiet (fail)
        go_wp2
        go_roundw
        case rel => exact ⟨K + 1, _, by omega, by go_num, rfl, HT⟩
        case measure => simp [intOf]; omega
      · have k0 : (p != q) = true := by simpa using he
        have HA := Lib.hid (eqB_f (take_not (a := zs) (b := zs') (K := K) (by rw [hp, hq]; exact he)))
        clear hp hq he
        go_wp2_with fail
        go_quiet (fail)
        go_wp2
        go_ret
        exact ⟨ret_bool HA.out, _, by rw [World.drewN_drewN]⟩
  · have h0 : ((n : Int) != n') = true := by rw [bne_iff_ne]; omega
    have HA := Lib.hid (eqB_f (a := zs) (b := zs') (by intro h; rw [h] at hn; omega))
    clear hr hr' hn hn' hnn
    go_enter Tryz.func92, Tryz.ntmps92
    go_wp2
    go_ret
    exact ⟨ret_bool HA.out, 0, rfl⟩
end Go.Proofs.YtncpokioagpclaaGreatDoor
namespace Go.Proofs.YtncpokioagpclaaGreatDoor
set_option linter.unusedVariables false
open Go.RowKit

theorem find_next {rs : List Rl} {u : List Int} {K : Nat} {v : Int} (h : findFrom K (rs.drop K) u = v) (hK : K < rs.length) (hn : rs[K].1 ≠ u) : findFrom ((K + 1 : Nat) : Int) (rs.drop (K + 1)) u = v := by
  rw [List.drop_eq_getElem_cons hK] at h
  simp only [findFrom, if_neg hn] at h
  rw [show ((K + 1 : Nat) : Int) = (K : Int) + 1 from by omega]
  exact h
theorem find_here {rs : List Rl} {u : List Int} {K : Nat} {v : Int} (h : findFrom K (rs.drop K) u = v) (hK : K < rs.length) (hn : rs[K].1 = u) : v = K := by
  rw [List.drop_eq_getElem_cons hK] at h
  simp only [findFrom, if_pos hn] at h
  exact h.symm
theorem find_end {rs : List Rl} {u : List Int} {K : Nat} {v : Int} (h : findFrom K (rs.drop K) u = v) (hK : rs.length ≤ K) : v = -1 := by
  rw [List.drop_of_length_le hK] at h
  exact h.symm
theorem below_dr {B : Nat} {w w' : World} (h : Below B w w') (m : Nat) : Below B w (w'.drewN m) := ⟨h.os, h.tape, h.output, h.size, h.block⟩

set_option maxHeartbeats 800000 in
theorem find_any (n n' : Nat) (A A' : Option Addr) (c c' : Nat) (rs : List Rl) (u : List Int) (B B' : Nat) (w : World) (hr : RsAt w B A n c rs) (hn' : n' = u.length) (hr' : Rd w B' A' (u.map (Value.int .i64))) (hl' : n' ≤ c') (hc' : c' ≤ maxLen) (hB : B ≤ w.heap.size) (hB' : B' ≤ w.heap.size) (v : Int) (hv : findR rs u = v) :
    Calls Tryz.prog 57 #[.slice A n c, .slice A' n' c'] w fun e w' => e = .returned (.int .i64 v) ∧ Below w.heap.size w w' := by
  have HR := Lib.hid hr
  have HR' := Lib.hid hr'
  have HN' := Lib.hid hn'
  have HV := Lib.hid hv
  have hn1 := hr.fits
  have hn2 := hr.small
  unfold maxLen at hn2 hc'
  clear hr hr' hn' hv
  go_enter Tryz.func57, Tryz.ntmps57
  go_wp2
  go_loopw [9] (fun i wr => ∃ K : Nat, K ≤ n ∧ i = .int .i64 K ∧ Below w.heap.size w wr ∧ Hid (findFrom K (rs.drop K) u = v)) (fun i _ => n - (intOf i).toNat)
  case atStart => exact ⟨0, by omega, rfl, Below.refl _ _, HV.out⟩
  case round =>
    obtain ⟨K, hK, rfl, hb, hf⟩ := hrel
    by_cases hKn : K = n
    · have hK' : ¬ K < n := by omega
      have HE := Lib.hid (find_end hf.out (by rw [← HR.out.len, hKn]; omega))
      clear hKn
      go_wp2
      go_ret
      exact ⟨ret_int HE.out, hb⟩
    have hK' : K < n := by omega
    have hK1 : K < rs.length := by rw [← HR.out.len]; exact hK'
    obtain ⟨b, o, rfl, hbB, A1, n1, c1, A2, n2, c2, g1, g2, e1, e2, e3, e4, f1, f2, f3, f4⟩ := HR.out.at hK1
    have k1 := (hb.cell (p := ⟨b, o + K * 2, none⟩) (by show b < _; omega)).trans g1
    have k2 := (hb.cell (p := ⟨b, o + K * 2 + 1, none⟩) (by show b < _; omega)).trans g2
    have k3 : (0 : Int) ≤ K := by omega
    have k4 : (K : Int) < n := by omega
    have E1 := Lib.hid e1
    have E4 := Lib.hid (e4.below (hb.mono hB) (Nat.le_refl _))
    have R4 := Lib.hid (HR'.out.below (hb.mono hB') (Nat.le_refl _))
    unfold maxLen at e3 f3
    clear g1 g2 e1 e4 f1 f4
    by_cases he : rs[K].1 = u
    · have HE := Lib.hid (find_here hf.out hK1 he)
      have HQ := Lib.hid (eqB_t he)
      clear he
      go_wp2_with fail
      refine (equal_eq n1 n' A1 A' c1 c' rs[K].1 u B B' _ E1.out HN'.out ?_ ?_ (by omega)).mono ?_
      · exact E4.out.below (((Below.refl _ _).alloc (Nat.le_refl _) _).mono (Nat.le_trans hB hb.size)) (Nat.le_refl _)
      · exact R4.out.below (((Below.refl _ _).alloc (Nat.le_refl _) _).mono (Nat.le_trans hB' hb.size)) (Nat.le_refl _)
      rintro e w1 ⟨rfl, m, rfl⟩
      rw [HQ.out]
      go_wp2
      go_ret
      exact ⟨ret_int HE.out, below_dr (hb.trans (((Below.refl _ _).alloc (Nat.le_refl _) _).mono hb.size)) m⟩
    · have HE := Lib.hid (find_next hf.out hK1 he)
      have HQ := Lib.hid (eqB_f he)
      clear he
      go_wp2_with fail
      refine (equal_eq n1 n' A1 A' c1 c' rs[K].1 u B B' _ E1.out HN'.out ?_ ?_ (by omega)).mono ?_
      · exact E4.out.below (((Below.refl _ _).alloc (Nat.le_refl _) _).mono (Nat.le_trans hB hb.size)) (Nat.le_refl _)
      · exact R4.out.below (((Below.refl _ _).alloc (Nat.le_refl _) _).mono (Nat.le_trans hB' hb.size)) (Nat.le_refl _)
      rintro e w1 ⟨rfl, m, rfl⟩
      rw [HQ.out]
      go_wp2
      go_roundw
      case rel => exact ⟨K + 1, by omega, by go_num, below_dr (hb.trans (((Below.refl _ _).alloc (Nat.le_refl _) _).mono hb.size)) m, HE⟩
      case measure => simp [intOf]; omega
end Go.Proofs.YtncpokioagpclaaGreatDoor
namespace Go.Proofs.YtncpokioagpclaaGreatDoor
set_option linter.unusedVariables false
open Go.RowKit

theorem all_getD {us : List Int} (h : ∀ j, j < us.length → 0 ≤ us.getD j 0 ∧ us.getD j 0 ≤ 1114111) : ∀ u ∈ us, 0 ≤ u ∧ u ≤ 1114111 := by
  intro u hu
  obtain ⟨j, hj, rfl⟩ := List.getElem_of_mem hu
  have := h j hj
  simpa [List.getD_eq_getElem?_getD, hj] using this
theorem side_t {us : List Int} (h1 : 1 ≤ us.length) (h2 : us.length ≤ 8) (h : ∀ j, j < us.length → 0 ≤ us.getD j 0 ∧ us.getD j 0 ≤ 1114111) : sideB us = true := by
  simp only [sideB, decide_eq_true_eq]; exact ⟨h1, h2, all_getD h⟩
theorem side_f {us : List Int} (h : ¬ (1 ≤ us.length ∧ us.length ≤ 8)) : sideB us = false := by
  simp only [sideB, decide_eq_false_iff_not]; exact fun hh => h ⟨hh.1, hh.2.1⟩
theorem side_u {us : List Int} {j : Nat} (hj : j < us.length) (h : ¬ (0 ≤ us.getD j 0 ∧ us.getD j 0 ≤ 1114111)) : sideB us = false := by
  simp only [sideB, decide_eq_false_iff_not]
  intro hh
  have := hh.2.2 _ (List.getElem_mem hj)
  apply h
  simpa [List.getD_eq_getElem?_getD, hj] using this
theorem all_next {us : List Int} {K : Nat} (h : ∀ j, j < K → 0 ≤ us.getD j 0 ∧ us.getD j 0 ≤ 1114111) (h1 : 0 ≤ us.getD K 0 ∧ us.getD K 0 ≤ 1114111) : ∀ j, j < K + 1 → 0 ≤ us.getD j 0 ∧ us.getD j 0 ≤ 1114111 := by
  intro j hj
  by_cases e : j = K
  · rw [e]; exact h1
  · exact h j (by omega)

set_option maxHeartbeats 800000 in
theorem side_any (n : Nat) (A : Option Addr) (c : Nat) (us : List Int) (B : Nat) (w : World) (hn : n = us.length) (hr : Rd w B A (us.map (Value.int .i64))) (hl : n ≤ 9223372036854775807) (v : Bool) (hv : sideB us = v) :
    Calls Tryz.prog 157 #[.slice A n c] w fun e w' => e = .returned (.bool v) ∧ w = w' := by
  have HN := Lib.hid hn
  have HR := Lib.hid hr
  have HV := Lib.hid hv
  clear hn hr hv
  by_cases h0 : n < 1
  · go_enter Tryz.func157, Tryz.ntmps157
    go_wp2
    go_ret
    exact ⟨ret_bool (HV.out.symm.trans (side_f (by rw [← HN.out]; omega))), rfl⟩
  by_cases h9 : 8 < n
  · go_enter Tryz.func157, Tryz.ntmps157
    go_wp2
    go_ret
    exact ⟨ret_bool (HV.out.symm.trans (side_f (by rw [← HN.out]; omega))), rfl⟩
  go_enter Tryz.func157, Tryz.ntmps157
  go_wp2
  go_loop [15] (fun i => ∃ K : Nat, K ≤ n ∧ i = .int .i64 K ∧ Hid (∀ j, j < K → 0 ≤ us.getD j 0 ∧ us.getD j 0 ≤ 1114111)) (fun i => n - (intOf i).toNat)
  case atStart => exact ⟨0, by omega, rfl, by intro j hj; omega⟩
  case round =>
    obtain ⟨K, hK, rfl, ht⟩ := hrel
    by_cases hKn : K = n
    · have hK' : ¬ K < n := by omega
      have ha : ∀ j, j < us.length → 0 ≤ us.getD j 0 ∧ us.getD j 0 ≤ 1114111 := fun j hj => ht.out j (by rw [hKn, HN.out]; exact hj)
      have HA := Lib.hid ha
      clear hKn ha
      go_wp2
      go_ret
      exact ⟨ret_bool (HV.out.symm.trans (side_t (by rw [← HN.out]; omega) (by rw [← HN.out]; omega) HA.out)), rfl⟩
    have hK' : K < n := by omega
    have hK1 : K < us.length := by rw [← HN.out]; exact hK'
    obtain ⟨b, o, rfl, _, hc⟩ := rd_ints HR.out (by omega)
    have k1 := hc K hK1
    obtain ⟨p, hp⟩ : ∃ p, us.getD K 0 = p := ⟨_, rfl⟩
    rw [hp] at k1
    have HP := Lib.hid hp
    clear hc hp
    by_cases h1 : p < 0
    · go_wp2
      go_ret
      exact ⟨ret_bool (HV.out.symm.trans (side_u hK1 (by rw [HP.out]; omega))), rfl⟩
    by_cases h2 : 1114111 < p
    · go_wp2
      go_ret
      exact ⟨ret_bool (HV.out.symm.trans (side_u hK1 (by rw [HP.out]; omega))), rfl⟩
    have HT := Lib.hid (all_next ht.out (by rw [HP.out]; omega))
    go_wp2
    go_round
    case rel => exact ⟨K + 1, by omega, by go_num, HT⟩
    case measure => simp [intOf]; omega
end Go.Proofs.YtncpokioagpclaaGreatDoor
namespace Go.Proofs.YtncpokioagpclaaGreatDoor
set_option linter.unusedVariables false
open Go.RowKit
theorem infoint : (Tryz.prog.info? 3).map (fun i => (i.zero, i.size, i.bytes)) = some (some (.int .i64 0), 1, 8) := by kernel_rfl

theorem us_own {base n : Nat} {w : World} {v : Value} {us : List Int} (h : w.ownsRow base 3 1 v n (us.map (Value.int .i64))) (hn : n = us.length) : ∃ A c, v = .slice A n c ∧ Us (fun b => base ≤ b) w (.slice A n c) us := by
  subst hn
  obtain ⟨A, c, rfl, h1, h2⟩ := own_form h
  refine ⟨A, c, rfl, A, c, rfl, h1, h2, ?_⟩
  rcases Rd.own h with h3 | ⟨b, o, rfl, h3, h4⟩
  · exact .inl h3
  · exact .inr ⟨b, o, rfl, h3, (h.lt b rfl).1, h4⟩

set_option maxHeartbeats 800000 in
theorem clone_any (n : Nat) (A : Option Addr) (c : Nat) (us : List Int) (B : Nat) (w : World) (hn : n = us.length) (hr : Rd w B A (us.map (Value.int .i64))) (hB : B ≤ w.heap.size) (hl : n ≤ 17592186044416) :
    Calls Tryz.prog 58 #[.slice A n c] w fun e w' => ∃ A' c', e = .returned (.slice A' n c') ∧ Us (fun b => w.heap.size ≤ b) w' (.slice A' n c') us ∧ Below w.heap.size w w' := by
  obtain ⟨i0, hi, hz0, hz1, hz2⟩ := info_parts infoint
  have HN := Lib.hid hn
  have HR := Lib.hid hr
  clear hn hr
  have hq : ∀ (w : World) (a : Option Addr) (n c n' c' : Nat), (binOp .eql 34 (.slice a n c) (.slice none n' c')).run Tryz.prog w = .ok (.bool a.isNone) w := fun w a n c n' c' => Lib.run_eql_slice_nil w _ _ a n c n' c' Tryz.underlying34
  cases A with
  | none =>
    have hu : us = [] := by
      rcases HR.out with h | ⟨_, _, h, _⟩
      · simpa using h
      · cases h
    subst hu
    obtain rfl : n = 0 := HN.out
    go_enter Tryz.func58, Tryz.ntmps58
    go_wp2
    go_ret
    exact ⟨none, 0, rfl, ⟨none, 0, rfl, by simp, by simp [maxLen], .inl rfl⟩, Below.refl _ _⟩
  | some ad =>
    go_enter Tryz.func58, Tryz.ntmps58
    go_wp2_with (at_builtin; refine wpList_appB _ rfl _ _ 34 rfl w.heap.size 3 i0 (.int .i64 0) 1 8 Tryz.underlying34 hi hz0 hz1 hz2 rfl (by decide) _ _ _ rfl (World.ownsRow_made w #[] 0 (Nat.le_refl _) (Nat.zero_le _) rfl) B (some ad) n c (us.map (Value.int .i64)) rfl ?c1 ?c2 (ints_one _ _) ?c3 ?c4 ?c5 ?_)
    case c1 => rw [List.length_map, HN.out]; omega
    case c2 => exact HR.out.below (((Below.refl _ _).alloc (Nat.le_refl _) _).mono hB) (Nat.le_refl _)
    case c3 => simp only [maxLen]; omega
    case c4 => omega
    case c5 => simp
    intro v' w1 hown hg hv
    obtain ⟨A', c', rfl, hu⟩ := us_own hown HN.out
    have HU := Lib.hid hu
    clear hu
    go_wp2
    go_ret
    exact ⟨A', c', rfl, HU.out, ((Below.refl _ w).alloc (Nat.le_refl _) _).grown hg (by simp) (by intro k hk; simp [Value.ownBlock] at hk; omega)⟩

/-- the world's block R is as it was -/
def SameB (R : Nat) (a b : World) : Prop := b.heap[R]? = a.heap[R]? ∧ a.heap.size ≤ b.heap.size
theorem SameB.refl (R : Nat) (w : World) : SameB R w w := ⟨rfl, Nat.le_refl _⟩
theorem SameB.trans (R : Nat) (a b c : World) (h : SameB R a b) (k : SameB R b c) : SameB R a c := ⟨k.1.trans h.1, Nat.le_trans h.2 k.2⟩
theorem SameB.cell {R o : Nat} {a b : World} (h : SameB R a b) : b.cell? ⟨R, o, none⟩ = a.cell? ⟨R, o, none⟩ := cell_block h.1 o
theorem SameB.of {R B : Nat} {a b : World} (h : Below B a b) (hR : R < B) : SameB R a b := ⟨h.block R hR, h.size⟩
theorem SameB.grown {R : Nat} {a b : World} {row : Option Nat} (h : a.grownBy b row) (hR : R < a.heap.size) (hr : row ≠ some R) : SameB R a b := ⟨h.block R hR (fun e => hr e.symm), h.size⟩

theorem Rd.drew {w : World} {B : Nat} {A : Option Addr} {xs : List Value} (h : Rd w B A xs) : Rd w.drew B A xs := h.below ((Below.refl B w).drew) (Nat.le_refl _)
theorem own_heap {w : World} {base size n : Nat} {e : TypeId} {v : Value} {xs : List Value} (h : w.ownsRow base e size v n xs) {g : Nat} (hg : v.ownBlock = some g) : ∃ cur, w.heap[g]? = some (.cells cur e (0, 0)) := by
  rcases h.2 with ⟨rfl, _⟩ | ⟨g', cap, cur, rfl, _, hh, _⟩
  · simp [Value.ownBlock] at hg
  · have : g' = g := by simpa [Value.ownBlock] using hg
    subst this
    exact ⟨cur, hh⟩
theorem own_apart {w : World} {base size n base' size' n' : Nat} {e e' : TypeId} {v v' : Value} {xs xs' : List Value} (h : w.ownsRow base e size v n xs) (h' : w.ownsRow base' e' size' v' n' xs') (he : e ≠ e') {g : Nat} (hg : v.ownBlock = some g) : v'.ownBlock ≠ some g := by
  intro hg'
  obtain ⟨c1, e1⟩ := own_heap h hg
  obtain ⟨c2, e2⟩ := own_heap h' hg'
  rw [e1] at e2
  injection e2 with e2
  injection e2 with _ e2
  exact he e2
theorem own_other {w w' : World} {base size n : Nat} {e : TypeId} {v : Value} {xs : List Value} {row : Option Nat} (h : w.ownsRow base e size v n xs) (hg : w.grownBy w' row) (hne : ∀ g, v.ownBlock = some g → row ≠ some g) : w'.ownsRow base e size v n xs := by
  refine ⟨h.1, ?_⟩
  rcases h.2 with h2 | ⟨g, cap, cur, hv, h3, h4, h5⟩
  · exact .inl h2
  · have hlt : g < w.heap.size := own_lt h (by rw [hv]; rfl)
    exact .inr ⟨g, cap, cur, hv, h3, (hg.block g hlt (fun e => hne g (by rw [hv]; rfl) e.symm)).trans h4, h5⟩
end Go.Proofs.YtncpokioagpclaaGreatDoor
namespace Go.Proofs.YtncpokioagpclaaGreatDoor
set_option linter.unusedVariables false
open Go.RowKit
theorem Rd_newR (w : World) (cs : Array Value) (t : TypeId) (m : Nat) (hm : w.heap.size = m) : Rd (w.alloc (.cells cs t)) (m + 1) (some ⟨m, 0, none⟩) cs.toList := by subst hm; exact Rd_new w cs t
def flatP : List (Int × Int) → List Int
  | [] => []
  | p :: ps => p.1 :: p.2 :: flatP ps
theorem flatP_len : ∀ ps, (flatP ps).length = ps.length * 2
  | [] => rfl
  | p :: ps => by simp only [flatP, List.length_cons, flatP_len ps]; omega
theorem flatP_app : ∀ (ps qs : List (Int × Int)), flatP (ps ++ qs) = flatP ps ++ flatP qs
  | [], qs => rfl
  | p :: ps, qs => by simp only [List.cons_append, flatP, flatP_app ps qs]
theorem flatP_at : ∀ (ps : List (Int × Int)) (k : Nat) (hk : k < ps.length), (flatP ps)[k * 2]? = some ps[k].1 ∧ (flatP ps)[k * 2 + 1]? = some ps[k].2
  | p :: ps, 0, _ => ⟨rfl, rfl⟩
  | p :: ps, k + 1, hk => by
    have := flatP_at ps k (by simpa using hk)
    rw [show (k + 1) * 2 = k * 2 + 1 + 1 from by omega]
    exact this
  | [], _, hk => by cases hk
def singR (ps : List (Int × Int)) : List Rl := ps.map fun p => ([p.1], [p.2])
theorem pair_at {w : World} {B : Nat} {A : Option Addr} {ps : List (Int × Int)} (h : Rd w B A ((flatP ps).map (Value.int .i64))) {k : Nat} (hk : k < ps.length) :
    ∃ b off, A = some ⟨b, off, none⟩ ∧ b < B ∧ w.cell? ⟨b, off + k * 2, none⟩ = some (.int .i64 ps[k].1) ∧ w.cell? ⟨b, off + k * 2 + 1, none⟩ = some (.int .i64 ps[k].2) := by
  have hlen := flatP_len ps
  obtain ⟨e1, e2⟩ := flatP_at ps k hk
  rcases h with h | ⟨b, off, h1, h2, h3⟩
  · have : flatP ps = [] := by simpa using h
    rw [this] at hlen; simp at hlen; omega
  · refine ⟨b, off, h1, h2, ?_, ?_⟩
    · rw [h3 _ (by rw [List.length_map]; omega), List.getElem?_map, e1]; rfl
    · rw [Nat.add_assoc, h3 _ (by rw [List.length_map]; omega), List.getElem?_map, e2]; rfl
end Go.Proofs.YtncpokioagpclaaGreatDoor

namespace Go.Proofs.YtncpokioagpclaaGreatDoor
set_option linter.unusedVariables false
open Go.RowKit
theorem check_lim {rs : List Rl} {K : Nat} {k e : Int} (h : checkFrom K (rs.take K) (rs.drop K) = (k, e)) (hK : K < rs.length) (hf : 512 ≤ K) : k = K ∧ e = 7 := by
  rw [List.drop_eq_getElem_cons hK] at h
  simp only [checkFrom, if_pos (show (512 : Int) ≤ K by omega), Prod.mk.injEq] at h
  exact ⟨h.1.symm, h.2.symm⟩
theorem check_arg {rs : List Rl} {K : Nat} {k e : Int} (h : checkFrom K (rs.take K) (rs.drop K) = (k, e)) (hK : K < rs.length) (hf : K < 512) (hs : (sideB rs[K].1 && sideB rs[K].2) = false) : k = K ∧ e = 9 := by
  rw [List.drop_eq_getElem_cons hK] at h
  simp only [checkFrom, if_neg (show ¬ (512 : Int) ≤ K by omega), if_pos hs, Prod.mk.injEq] at h
  exact ⟨h.1.symm, h.2.symm⟩
theorem check_two {rs : List Rl} {K : Nat} {k e : Int} (h : checkFrom K (rs.take K) (rs.drop K) = (k, e)) (hK : K < rs.length) (hf : K < 512) (hs : (sideB rs[K].1 && sideB rs[K].2) = true) (h2 : 0 ≤ findR (rs.take K) rs[K].1) : k = K ∧ e = 8 := by
  rw [List.drop_eq_getElem_cons hK] at h
  simp only [checkFrom, if_neg (show ¬ (512 : Int) ≤ K by omega), if_neg (show ¬ (sideB rs[K].1 && sideB rs[K].2) = false by rw [hs]; simp), if_pos h2, Prod.mk.injEq] at h
  exact ⟨h.1.symm, h.2.symm⟩
theorem check_next {rs : List Rl} {K : Nat} {k e : Int} (h : checkFrom K (rs.take K) (rs.drop K) = (k, e)) (hK : K < rs.length) (hf : K < 512) (hs : (sideB rs[K].1 && sideB rs[K].2) = true) (h2 : ¬ 0 ≤ findR (rs.take K) rs[K].1) : checkFrom ((K + 1 : Nat) : Int) (rs.take (K + 1)) (rs.drop (K + 1)) = (k, e) := by
  rw [List.drop_eq_getElem_cons hK] at h
  simp only [checkFrom, if_neg (show ¬ (512 : Int) ≤ K by omega), if_neg (show ¬ (sideB rs[K].1 && sideB rs[K].2) = false by rw [hs]; simp), if_neg h2] at h
  rw [List.take_succ_eq_append_getElem hK]
  exact h
theorem check_end {rs : List Rl} {K : Nat} {k e : Int} (h : checkFrom K (rs.take K) (rs.drop K) = (k, e)) (hK : rs.length ≤ K) : k = -1 ∧ e = 0 := by
  rw [List.drop_of_length_le hK] at h
  simp only [checkFrom, Prod.mk.injEq] at h
  exact ⟨h.1.symm, h.2.symm⟩
theorem ret_pair {a b c d : Int} {k l : IntKind} (h : a = c ∧ b = d) : Ending.returned (.tuple #[.int k c, .int l d]) = .returned (.tuple #[.int k a, .int l b]) := by rw [h.1, h.2]

set_option maxRecDepth 100000 in
set_option maxHeartbeats 3200000 in
theorem check_any (n : Nat) (A : Option Addr) (c : Nat) (rs : List Rl) (B : Nat) (w : World) (hr : RsAt w B A n c rs) (hB : B ≤ w.heap.size) (k e : Int) (hv : checkR rs = (k, e)) :
    Calls Tryz.prog 144 #[.slice A n c] w fun en w' => en = .returned (.tuple #[.int .i64 k, .int .i64 e]) ∧ Below w.heap.size w w' := by
  have HR := Lib.hid hr
  have HV := Lib.hid hv
  have hn1 := hr.fits
  have hn2 := hr.small
  unfold maxLen at hn2
  clear hr hv
  go_enter Tryz.func144, Tryz.ntmps144
  go_wp2
  go_loopw [8] (fun i wr => ∃ K : Nat, K ≤ n ∧ i = .int .i64 K ∧ Below w.heap.size w wr ∧ Hid (checkFrom K (rs.take K) (rs.drop K) = (k, e))) (fun i _ => n - (intOf i).toNat)
  case atStart => exact ⟨0, by omega, rfl, Below.refl _ _, HV.out⟩
  case round =>
    obtain ⟨K, hK, rfl, hb, hf⟩ := hrel
    by_cases hKn : K = n
    · have hK' : ¬ K < n := by omega
      have HE := Lib.hid (check_end hf.out (by rw [← HR.out.len, hKn]; omega))
      clear hKn
      go_wp2
      go_ret2
      exact ⟨ret_pair HE.out, hb⟩
    have hK' : K < n := by omega
    have hK1 : K < rs.length := by rw [← HR.out.len]; exact hK'
    obtain ⟨b, o, rfl, hbB, A1, n1, c1, A2, n2, c2, g1, g2, e1, e2, e3, e4, f1, f2, f3, f4⟩ := HR.out.at hK1
    have k1 := (hb.cell (p := ⟨b, o + K * 2, none⟩) (by show b < _; omega)).trans g1
    have k2 := (hb.cell (p := ⟨b, o + K * 2 + 1, none⟩) (by show b < _; omega)).trans g2
    have k3 : (0 : Int) ≤ K := by omega
    have k4 : (K : Int) < n := by omega
    have k5 : K ≤ c := by omega
    have E1 := Lib.hid e1
    have F1 := Lib.hid f1
    have E4 := Lib.hid (e4.below (hb.mono hB) (Nat.le_refl _))
    have F4 := Lib.hid (f4.below (hb.mono hB) (Nat.le_refl _))
    have hs1 := hb.size
    have E3 := Lib.hid e3
    have HM3 : Hid (n1 ≤ 9223372036854775807) := by unfold maxLen at e3; exact (show n1 ≤ 9223372036854775807 by omega)
    have HM4 : Hid (n2 ≤ 9223372036854775807) := by unfold maxLen at f3; exact (show n2 ≤ 9223372036854775807 by omega)
    have M3 := Lib.hid e3
    have M4 := Lib.hid f3
    clear g1 g2 e1 e4 f1 f4 e3 f3 E3
    by_cases hlim : 512 ≤ K
    · have HE := Lib.hid (check_lim hf.out hK1 hlim)
      go_wp2
      go_ret2
      exact ⟨ret_pair HE.out, hb.trans (((Below.refl _ _).alloc (Nat.le_refl _) _).mono hb.size)⟩
    have hl2 : K < 512 := by omega
    have hbA : ∀ o, Below B wr (wr.alloc o) := fun o => ((Below.refl _ _).alloc (Nat.le_refl _) _).mono (by omega)
    have HBA := Lib.hid hbA
    obtain ⟨s1, hs1'⟩ : ∃ s, sideB rs[K].1 = s := ⟨_, rfl⟩
    obtain ⟨s2, hs2'⟩ : ∃ s, sideB rs[K].2 = s := ⟨_, rfl⟩
    have S1 := Lib.hid hs1'
    have S2 := Lib.hid hs2'
    clear hs1' hs2' hbA
    cases s1 with
    | false =>
      have HE := Lib.hid (check_arg hf.out hK1 hl2 (by rw [S1.out]; rfl))
      go_wp2_with fail
      refine (side_any n1 A1 c1 rs[K].1 B _ E1.out (E4.out.below (HBA.out _) (Nat.le_refl _)) HM3.out _ S1.out).mono ?_
      rintro en w1 ⟨rfl, rfl⟩
      go_wp2
      go_ret2
      exact ⟨ret_pair HE.out, hb.trans (((Below.refl _ _).alloc (Nat.le_refl _) _).mono hb.size)⟩
    | true =>
      cases s2 with
      | false =>
        have HE := Lib.hid (check_arg hf.out hK1 hl2 (by rw [S1.out, S2.out]; rfl))
        go_wp2_with fail
        refine (side_any n1 A1 c1 rs[K].1 B _ E1.out (E4.out.below (HBA.out _) (Nat.le_refl _)) HM3.out _ S1.out).mono ?_
        rintro en w1 ⟨rfl, rfl⟩
        go_wp2_with fail
        refine (side_any n2 A2 c2 rs[K].2 B _ F1.out (F4.out.below (HBA.out _) (Nat.le_refl _)) HM4.out _ S2.out).mono ?_
        rintro en w1 ⟨rfl, rfl⟩
        go_wp2
        go_ret2
        exact ⟨ret_pair HE.out, hb.trans (((Below.refl _ _).alloc (Nat.le_refl _) _).mono hb.size)⟩
      | true =>
        have hss : (sideB rs[K].1 && sideB rs[K].2) = true := by rw [S1.out, S2.out]; rfl
        have HSS := Lib.hid hss
        clear hss
        obtain ⟨fd, hfd⟩ : ∃ fd, findR (rs.take K) rs[K].1 = fd := ⟨_, rfl⟩
        have HFD := Lib.hid hfd
        have hcut := Lib.hid (HR.out.cut K (by omega))
        clear hfd
        go_wp2_with fail
        refine (side_any n1 A1 c1 rs[K].1 B _ E1.out (E4.out.below (HBA.out _) (Nat.le_refl _)) HM3.out _ S1.out).mono ?_
        rintro en w1 ⟨rfl, rfl⟩
        go_wp2_with fail
        refine (side_any n2 A2 c2 rs[K].2 B _ F1.out (F4.out.below (HBA.out _) (Nat.le_refl _)) HM4.out _ S2.out).mono ?_
        rintro en w1 ⟨rfl, rfl⟩
        go_wp2_with fail
        obtain ⟨W, hW⟩ : ∃ W, W = wr.alloc (.cells #[.slice A1 n1 c1, .slice A2 n2 c2] 104) := ⟨_, rfl⟩
        have q0 : W.cell? ⟨wr.heap.size, 0, none⟩ = some (.slice A1 n1 c1) := by rw [hW]; exact World.cell?_alloc_new (w := wr) _ _ 0
        have hbW : Below wr.heap.size wr W := by rw [hW]; exact (Below.refl _ _).alloc (Nat.le_refl _) _
        have hsW : wr.heap.size < W.heap.size := by rw [hW]; simp
        rw [← hW]
        have HW := Lib.hid hW
        clear hW
        refine wp_region_mixe (G := SameB wr.heap.size) [(0, false), (1, false), (2, false), (3, false), (4, false), (5, true), (6, false), (7, false)]
          (SameB.refl _) (SameB.trans _) (by kernel_rfl) rfl (by kernel_rfl) (by kernel_rfl) ?_
        iterate 4 (refine mixe_one rfl rfl ?_; go_big_quiet_step ((intro _; rfl)); refine wpQuiet_nil ?_)
        refine mixe_one rfl rfl ?_
        go_big_quiet_step ((intro hh; rw [hh.cell, World.cell?_drew, q0]; exact ⟨rfl, rfl⟩))
        refine wpQuiet_nil ?_
        refine mixe_call rfl ?_
        go_wp2_with fail
        have hbD : Below wr.heap.size wr W.drew := hbW.drew
        refine (find_any _ _ (some ⟨b, o, none⟩) A1 c c1 (rs.take K) rs[K].1 B B _ (hcut.out.below ((hb.trans (hbD.mono hs1)).mono hB) (Nat.le_refl _)) E1.out (E4.out.below (hbD.mono (by omega)) (Nat.le_refl _)) e2 M3.out (by show B ≤ W.heap.size; omega) (by show B ≤ W.heap.size; omega) fd HFD.out).mono ?_
        rintro en w2 ⟨rfl, hb2⟩
        have hbE := hb.trans ((hbD.trans (hb2.mono (by show wr.heap.size ≤ W.heap.size; omega))).mono hs1)
        go_wp2_with fail
        refine ⟨SameB.of hb2 (by show wr.heap.size < W.heap.size; omega), ?_⟩
        iterate 2 (refine mixe_one rfl rfl ?_; go_big_quiet_step ((intro _; rfl)); refine wpQuiet_nil ?_)
        refine NoPanic.normal ?_
        by_cases hfd0 : 0 ≤ fd
        · have HE := Lib.hid (check_two hf.out hK1 hl2 HSS.out (by rw [HFD.out]; exact hfd0))
          go_wp2
          go_ret2
          exact ⟨ret_pair HE.out, hbE⟩
        · have HE := Lib.hid (check_next hf.out hK1 hl2 HSS.out (by rw [HFD.out]; exact hfd0))
          go_wp2
          go_roundw
          case rel => exact ⟨K + 1, by omega, by go_num, hbE, HE⟩
          case measure => simp [intOf]; omega
end Go.Proofs.YtncpokioagpclaaGreatDoor
namespace Go.Proofs.YtncpokioagpclaaGreatDoor
set_option linter.unusedVariables false
set_option linter.unusedSimpArgs false
set_option linter.unnecessarySimpa false
open Go.RowKit

/-- the scalars of the bytes from a0 on, as the program lists them -/
def tcHL : List Int := [0, 0x102, 0xc2, 0xca, 0xd4, 0x1a0, 0x1af, 0x110, 0x103, 0xe2, 0xea, 0xf4, 0x1a1, 0x1b0, 0x111, 0, 0, 0, 0, 0, 0, 0xe0, 0x1ea3, 0xe3, 0xe1, 0x1ea1, 0, 0x1eb1, 0x1eb3, 0x1eb5, 0x1eaf, 0, 0, 0, 0, 0, 0, 0, 0x1eb7, 0x1ea7, 0x1ea9, 0x1eab, 0x1ea5, 0x1ead, 0xe8, 0, 0x1ebb, 0x1ebd, 0xe9, 0x1eb9, 0x1ec1, 0x1ec3, 0x1ec5, 0x1ebf, 0x1ec7, 0xec, 0x1ec9, 0, 0, 0, 0x129, 0xed, 0x1ecb, 0xf2, 0, 0x1ecf, 0xf5, 0xf3, 0x1ecd, 0x1ed3, 0x1ed5, 0x1ed7, 0x1ed1, 0x1ed9, 0x1edd, 0x1edf, 0x1ee1, 0x1edb, 0x1ee3, 0xf9, 0, 0x1ee7, 0x169, 0xfa, 0x1ee5, 0x1eeb, 0x1eed, 0x1eef, 0x1ee9, 0x1ef1, 0x1ef3, 0x1ef7, 0x1ef9, 0xfd, 0x1ef5, 0]
/-- a byte's scalar, 0 where there is none -/
def tcD (k : Nat) : Int := if k < 128 then (k : Int) else if k < 160 then 0 else tcHL.getD (k - 160) 0
/-- it has one -/
def tcK (k : Nat) : Bool := decide (k < 128) || tcD k != 0
/-- the first n bytes that have scalars, with them -/
def tcP (n : Nat) : List (Int × Int) := ((List.range n).filter tcK).map fun k : Nat => ((k : Int), tcD k)
/-- the rules -/
def tcR : List Rl := singR (tcP 256)
theorem tcHL_len : tcHL.length = 96 := by decide +kernel
theorem tcD_low (k : Nat) (h : k < 128) : tcD k = (k : Int) := by unfold tcD; rw [if_pos h]
theorem tcK_low (k : Nat) (h : k < 128) : tcK k = true := by unfold tcK; simp [h]
theorem tcD_mid (k : Nat) (h : 128 ≤ k) (h1 : k < 160) : tcD k = 0 := by unfold tcD; rw [if_neg (by omega), if_pos h1]
theorem tcK_mid (k : Nat) (h : 128 ≤ k) (h1 : k < 160) : tcK k = false := by unfold tcK; rw [tcD_mid k h h1]; simp; omega
theorem tcD_high (k : Nat) (h : k < 96) : tcD (160 + k) = tcHL.getD k 0 := by
  unfold tcD; rw [if_neg (by omega), if_neg (by omega), show 160 + k - 160 = k by omega]
theorem tcK_high (k : Nat) (h : 128 ≤ k) : tcK k = (tcD k != 0) := by unfold tcK; rw [show decide (k < 128) = false by simp; omega]; rfl
theorem tcD_range (k : Nat) : 0 ≤ tcD k ∧ tcD k ≤ 7930 := by
  by_cases h : k < 256
  · have := all_range (show (List.range 256).all (fun k => decide (0 ≤ tcD k ∧ tcD k ≤ 7930)) = true by decide +kernel) k h
    simpa using this
  · unfold tcD; rw [if_neg (by omega), if_neg (by omega), List.getD_eq_getElem?_getD, List.getElem?_eq_none (by rw [tcHL_len]; omega)]; decide
theorem tcP_yes (n : Nat) (h : tcK n = true) : tcP (n + 1) = tcP n ++ [((n : Int), tcD n)] := by
  unfold tcP; rw [List.range_succ, List.filter_append, List.map_append]; simp [h]
theorem tcP_no (n : Nat) (h : tcK n = false) : tcP (n + 1) = tcP n := by
  unfold tcP; rw [List.range_succ, List.filter_append, List.map_append]; simp [h]
theorem tcP_le (n : Nat) : (tcP n).length ≤ n := by
  unfold tcP; rw [List.length_map]; exact Nat.le_trans (List.length_filter_le _ _) (by simp)
theorem tcP_len : (tcP 256).length = 202 := by decide +kernel
end Go.Proofs.YtncpokioagpclaaGreatDoor
namespace Go.Proofs.YtncpokioagpclaaGreatDoor
set_option linter.unusedVariables false
set_option linter.unusedSimpArgs false
set_option linter.unnecessarySimpa false
open Go.RowKit

/-- n as a float64 -/
def fl (n : Nat) : Nat := floatOfInt .f64 (n : Int)
/-- letter k as the program hands it on -/
def letV (k : Nat) : Array Value := #[.int .i64 (LB k), .complex .f64 (fl (LM k)) (fl (LT k))]
def noV : Array Value := #[.int .i64 0, .complex .f64 0 0]
/-- what Split answers -/
def splitF (s : Int) : Option Nat := findP (spP s)
def lV (k : Option Nat) : Array Value := match k with | some k => letV k | none => noV
theorem infoletter : (Tryz.prog.info? 141).map (·.size) = some 2 := by kernel_rfl
section
variable {fn : Func} {p q r : Tmp} {a : Act} {w : World} {R : Ending → World → Prop} {g : Nat} {cs : Array Value} {t : TypeId} {fr : Nat × Nat} {v v' : Value}
/-- a result that is a letter, in a cell of the frame -/
theorem letter_ret (h : fn.results = #[.cell p 141]) (hp : a.tmps.getD p undef = .pointer (some ⟨g, 0, none⟩)) (hg : w.heap[g]? = some (.cells cs t fr)) (hs : cs.size = 2)
    (hd : a.defers = []) (hR : R (.returned (.agg cs)) w) : bodyPost Tryz.prog fn R .ret a w :=
  bodyPost_ret (results_cell_row h a.tmps w g t cs fr _ hp hg Tryz.underlying141 rfl (by rw [infoletter, hs])) hd hR
end
end Go.Proofs.YtncpokioagpclaaGreatDoor
namespace Go.Proofs.YtncpokioagpclaaGreatDoor
set_option linter.unusedVariables false
set_option linter.unusedSimpArgs false
set_option linter.unnecessarySimpa false
open Go.RowKit
/-- the rules -/
def vnR : List (List Int × List Int) := [([97], [97]), ([97, 248], [224]), ([97, 249], [225]), ([97, 251], [7843]), ([97, 245], [227]), ([97, 239], [7841]), ([97, 234], [259]), ([97, 232], [7857]), ([97, 233], [7855]), ([97, 250], [7859]), ([97, 252], [7861]), ([97, 235], [7863]), ([97, 226], [226]), ([97, 224], [7847]), ([97, 225], [7845]), ([97, 229], [7849]), ([97, 227], [7851]), ([97, 228], [7853]), ([101], [101]), ([101, 248], [232]), ([101, 249], [233]), ([101, 251], [7867]), ([101, 245], [7869]), ([101, 239], [7865]), ([101, 226], [234]), ([101, 224], [7873]), ([101, 225], [7871]), ([101, 229], [7875]), ([101, 227], [7877]), ([101, 228], [7879]), ([105], [105]), ([236], [236]), ([237], [237]), ([230], [7881]), ([243], [297]), ([242], [7883]), ([111], [111]), ([111, 248], [242]), ([111, 249], [243]), ([111, 251], [7887]), ([111, 245], [245]), ([111, 239], [7885]), ([111, 226], [244]), ([111, 224], [7891]), ([111, 225], [7889]), ([111, 229], [7893]), ([111, 227], [7895]), ([111, 228], [7897]), ([244], [417]), ([244, 248], [7901]), ([244, 249], [7899]), ([244, 251], [7903]), ([244, 245], [7905]), ([244, 239], [7907]), ([117], [117]), ([117, 248], [249]), ([117, 249], [250]), ([117, 251], [7911]), ([117, 245], [361]), ([117, 239], [7909]), ([246], [432]), ([246, 248], [7915]), ([246, 249], [7913]), ([246, 251], [7917]), ([246, 245], [7919]), ([246, 239], [7921]), ([121], [121]), ([121, 248], [7923]), ([121, 249], [253]), ([121, 251], [7927]), ([121, 245], [7929]), ([238], [7925]), ([100], [100]), ([241], [273]), ([65], [65]), ([65, 216], [192]), ([65, 217], [193]), ([65, 219], [7842]), ([65, 213], [195]), ([65, 207], [7840]), ([65, 202], [258]), ([65, 200], [7856]), ([65, 201], [7854]), ([65, 218], [7858]), ([65, 220], [7860]), ([65, 203], [7862]), ([65, 194], [194]), ([65, 192], [7846]), ([65, 193], [7844]), ([65, 197], [7848]), ([65, 195], [7850]), ([65, 196], [7852]), ([69], [69]), ([69, 216], [200]), ([69, 217], [201]), ([69, 219], [7866]), ([69, 213], [7868]), ([69, 207], [7864]), ([69, 194], [202]), ([69, 192], [7872]), ([69, 193], [7870]), ([69, 197], [7874]), ([69, 195], [7876]), ([69, 196], [7878]), ([73], [73]), ([204], [204]), ([205], [205]), ([198], [7880]), ([211], [296]), ([210], [7882]), ([79], [79]), ([79, 216], [210]), ([79, 217], [211]), ([79, 219], [7886]), ([79, 213], [213]), ([79, 207], [7884]), ([79, 194], [212]), ([79, 192], [7890]), ([79, 193], [7888]), ([79, 197], [7892]), ([79, 195], [7894]), ([79, 196], [7896]), ([212], [416]), ([212, 216], [7900]), ([212, 217], [7898]), ([212, 219], [7902]), ([212, 213], [7904]), ([212, 207], [7906]), ([85], [85]), ([85, 216], [217]), ([85, 217], [218]), ([85, 219], [7910]), ([85, 213], [360]), ([85, 207], [7908]), ([214], [431]), ([214, 216], [7914]), ([214, 217], [7912]), ([214, 219], [7916]), ([214, 213], [7918]), ([214, 207], [7920]), ([89], [89]), ([89, 216], [7922]), ([89, 217], [221]), ([89, 219], [7926]), ([89, 213], [7928]), ([206], [7924]), ([68], [68]), ([209], [272]), ([0], [0]), ([1], [1]), ([2], [2]), ([3], [3]), ([4], [4]), ([5], [5]), ([6], [6]), ([7], [7]), ([8], [8]), ([9], [9]), ([10], [10]), ([11], [11]), ([12], [12]), ([13], [13]), ([14], [14]), ([15], [15]), ([16], [16]), ([17], [17]), ([18], [18]), ([19], [19]), ([20], [20]), ([21], [21]), ([22], [22]), ([23], [23]), ([24], [24]), ([25], [25]), ([26], [26]), ([27], [27]), ([28], [28]), ([29], [29]), ([30], [30]), ([31], [31]), ([32], [32]), ([33], [33]), ([34], [34]), ([35], [35]), ([36], [36]), ([37], [37]), ([38], [38]), ([39], [39]), ([40], [40]), ([41], [41]), ([42], [42]), ([43], [43]), ([44], [44]), ([45], [45]), ([46], [46]), ([47], [47]), ([48], [48]), ([49], [49]), ([50], [50]), ([51], [51]), ([52], [52]), ([53], [53]), ([54], [54]), ([55], [55]), ([56], [56]), ([57], [57]), ([58], [58]), ([59], [59]), ([60], [60]), ([61], [61]), ([62], [62]), ([63], [63]), ([64], [64]), ([66], [66]), ([67], [67]), ([70], [70]), ([71], [71]), ([72], [72]), ([74], [74]), ([75], [75]), ([76], [76]), ([77], [77]), ([78], [78]), ([80], [80]), ([81], [81]), ([82], [82]), ([83], [83]), ([84], [84]), ([86], [86]), ([87], [87]), ([88], [88]), ([90], [90]), ([91], [91]), ([92], [92]), ([93], [93]), ([94], [94]), ([95], [95]), ([96], [96]), ([98], [98]), ([99], [99]), ([102], [102]), ([103], [103]), ([104], [104]), ([106], [106]), ([107], [107]), ([108], [108]), ([109], [109]), ([110], [110]), ([112], [112]), ([113], [113]), ([114], [114]), ([115], [115]), ([116], [116]), ([118], [118]), ([119], [119]), ([120], [120]), ([122], [122]), ([123], [123]), ([124], [124]), ([125], [125]), ([126], [126]), ([127], [127])]
/-- letter k's bytes -/
def vnL (k : Nat) : List Int := (vnR.getD k ([], [])).1
/-- the byte of a small letter that has one for all of it -/
def vnW (s : Int) : Int := if s = 236 then 236 else if s = 237 then 237 else if s = 7881 then 230 else if s = 297 then 243 else if s = 7883 then 242 else if s = 7925 then 238 else if s = 273 then 241 else 0
/-- the signs, by mark and tone -/
def vnSg : List Int := [0, 0xf8, 0xf9, 0xfb, 0xf5, 0xef, 0xea, 0xe8, 0xe9, 0xfa, 0xfc, 0xeb, 0xe2, 0xe0, 0xe1, 0xe5, 0xe3, 0xe4, 0, 0xf8, 0xf9, 0xfb, 0xf5, 0xef]
def vnC (k : Nat) : Int := vnSg.getD (LM k * 6 + LT k) 0
/-- letter k's base, with its horn -/
def vnB (k : Nat) : Int := if LM k = 3 then (if LB k = 111 then 244 else 246) else LB k
/-- the rules turned round -/
def vnT : List (List Int × List Int) := vnR.map fun r => (r.2, r.1)
/-- how many rules there are ahead of that of byte c -/
def vnA (c : Nat) : Nat := 148 + ((List.range c).filter fun c : Nat => (splitF (c : Int)).isNone).length

theorem vnR_len : vnR.length = 262 := by decide +kernel
theorem vnL_is (k : Nat) (h : k < 74) : vnL k = if vnW (LS k) = 0 then (if vnC k = 0 then [vnB k] else [vnB k, vnC k]) else [vnW (LS k)] := by
  have := all_range (show (List.range 74).all (fun k => decide (vnL k = if vnW (LS k) = 0 then (if vnC k = 0 then [vnB k] else [vnB k, vnC k]) else [vnW (LS k)])) = true by decide +kernel) k h
  simpa using this
theorem vnL_great (k : Nat) (h : k < 74) : vnL (k + 74) = (vnL k).map (· - 32) := by
  have := all_range (show (List.range 74).all (fun k => decide (vnL (k + 74) = (vnL k).map (· - 32))) = true by decide +kernel) k h
  simpa using this
theorem vnW_mark (k : Nat) (h : k < 74) (hw : vnW (LS k) = 0) : LM k ≤ 3 := by
  have := all_range (show (List.range 74).all (fun k => decide (vnW (LS k) = 0 → LM k ≤ 3)) = true by decide +kernel) k h
  exact of_decide_eq_true this hw
theorem vnW_range (s : Int) : 0 ≤ vnW s ∧ vnW s ≤ 255 := by
  unfold vnW; repeat' split
  all_goals omega
theorem vnC_range (k : Nat) (h : k < 74) : 0 ≤ vnC k ∧ vnC k ≤ 255 := by
  have := all_range (show (List.range 74).all (fun k => decide (0 ≤ vnC k ∧ vnC k ≤ 255)) = true by decide +kernel) k h
  simpa using this
theorem vnL_len (k : Nat) (h : k < 148) : 1 ≤ (vnL k).length ∧ (vnL k).length ≤ 2 := by
  have := all_range (show (List.range 148).all (fun k => decide (1 ≤ (vnL k).length ∧ (vnL k).length ≤ 2)) = true by decide +kernel) k h
  simpa using this
theorem vnL_byte (k : Nat) (h : k < 148) : ∀ z ∈ vnL k, 32 ≤ z ∧ z ≤ 255 := by
  have := all_range (show (List.range 148).all (fun k => (vnL k).all fun z => decide (32 ≤ z ∧ z ≤ 255)) = true by decide +kernel) k h
  intro z hz
  simpa using List.all_eq_true.1 this z hz
theorem vnR_letter (k : Nat) (h : k < 148) : vnR[k]'(by rw [vnR_len]; omega) = (vnL k, [LS k]) := by
  have := all_range (show (List.range 148).all (fun k => decide (vnR.getD k ([], []) = (vnL k, [LS k]))) = true by decide +kernel) k h
  have := of_decide_eq_true this
  rw [List.getD_eq_getElem?_getD, List.getElem?_eq_getElem (by rw [vnR_len]; omega)] at this
  simpa using this
theorem vnA_zero : vnA 0 = 148 := rfl
theorem vnA_all : vnA 128 = 262 := by decide +kernel
theorem vnA_no (c : Nat) (h : (splitF (c : Int)).isNone = false) : vnA (c + 1) = vnA c := by
  unfold vnA; rw [List.range_succ, List.filter_append]; simp [h]
theorem vnA_yes (c : Nat) (h : (splitF (c : Int)).isNone = true) : vnA (c + 1) = vnA c + 1 := by
  unfold vnA; rw [List.range_succ, List.filter_append]; simp [h]; omega
theorem vnA_le (c : Nat) (h : c ≤ 128) : vnA c ≤ 262 := by
  have := all_range (show (List.range 129).all (fun c => decide (vnA c ≤ 262)) = true by decide +kernel) c (by omega)
  simpa using this
theorem vnA_at (c : Nat) (h : c < 128) (hs : (splitF (c : Int)).isNone = true) : vnR[vnA c]? = some ([(c : Int)], [(c : Int)]) := by
  have := all_range (show (List.range 128).all (fun c => decide ((splitF (c : Int)).isNone = true → vnR[vnA c]? = some ([(c : Int)], [(c : Int)]))) = true by decide +kernel) c h
  exact of_decide_eq_true this hs
/-- the rules of the letters, one by one -/
theorem vnR_take (k : Nat) (h : k < 148) : vnR.take (k + 1) = vnR.take k ++ [(vnL k, [LS k])] := by
  have hk : k < vnR.length := by rw [vnR_len]; omega
  rw [List.take_succ_eq_append_getElem hk, vnR_letter k h]
theorem vnR_more (c : Nat) (h : c < 128) (hs : (splitF (c : Int)).isNone = true) : vnR.take (vnA (c + 1)) = vnR.take (vnA c) ++ [([(c : Int)], [(c : Int)])] := by
  have h1 := vnA_at c h hs
  obtain ⟨hk, h2⟩ := List.getElem?_eq_some_iff.1 h1
  rw [vnA_yes c hs, List.take_succ_eq_append_getElem hk, h2]
theorem vnR_takeLen (k : Nat) (h : k ≤ 262) : (vnR.take k).length = k := by rw [List.length_take, vnR_len]; omega
/-- the rules are right -/
theorem vnR_right : checkR vnR = (-1, 0) := by decide +kernel
theorem vnR_turn : turnR vnR = vnT := by decide +kernel
end Go.Proofs.YtncpokioagpclaaGreatDoor
namespace Go.Proofs.YtncpokioagpclaaGreatDoor
set_option linter.unusedVariables false
set_option linter.unusedSimpArgs false
set_option maxRecDepth 100000
/-- ascii's rules of the first n bytes -/
def asR (n : Nat) : List (List Int × List Int) := (List.range n).map fun k : Nat => ([(k : Int)], [(k : Int)])
theorem asR_len (n : Nat) : (asR n).length = n := by simp [asR]
theorem asR_succ (n : Nat) : asR (n + 1) = asR n ++ [([(n : Int)], [(n : Int)])] := by simp [asR, List.range_succ]
/-- Thai's of the first n bytes -/
def thR (n : Nat) : List (List Int × List Int) := ((List.range n).filter fun k : Nat => (scF k).2).map fun k : Nat => ([(k : Int)], [(scF k).1])
theorem thR_yes (n : Nat) (h : (scF n).2 = true) : thR (n + 1) = thR n ++ [([(n : Int)], [(scF n).1])] := by simp [thR, List.range_succ, h]
theorem thR_no (n : Nat) (h : (scF n).2 = false) : thR (n + 1) = thR n := by simp [thR, List.range_succ, h]
theorem thR_le (n : Nat) : (thR n).length ≤ n := by
  unfold thR; rw [List.length_map]; exact Nat.le_trans (List.length_filter_le _ _) (by simp)
/-- a table's rules, as a codec has them -/
structure TabP (rs : List (List Int × List Int)) : Prop where
  right : checkR rs = (-1, 0)
  back : checkR (turnR rs) = (-1, 0)
  closed : closedR rs = true
  sel : selB rs selS id = true
  selT : selB (turnR rs) selS id = true
theorem TabP.good {rs : List (List Int × List Int)} (h : TabP rs) : Good rs := good_of h.right
theorem TabP.goodT {rs : List (List Int × List Int)} (h : TabP rs) : Good (turnR rs) := good_of h.back
theorem asR_turn : turnR (asR 128) = (asR 128).map fun r => (r.2, r.1) := by decide +kernel
theorem vsR_turn : turnR (vsR 256) = (vsR 256).map fun r => (r.2, r.1) := by decide +kernel
theorem tcR_turn : turnR tcR = tcR.map fun r => (r.2, r.1) := by decide +kernel
theorem thR_turn : turnR (thR 256) = (thR 256).map fun r => (r.2, r.1) := by decide +kernel
theorem asR_p : TabP (asR 128) := ⟨by decide +kernel, by rw [asR_turn]; decide +kernel, by decide +kernel, by decide +kernel, by rw [asR_turn]; decide +kernel⟩
theorem vsR_p : TabP (vsR 256) := ⟨by decide +kernel, by rw [vsR_turn]; decide +kernel, by decide +kernel, by decide +kernel, by rw [vsR_turn]; decide +kernel⟩
theorem tcR_p : TabP tcR := ⟨by decide +kernel, by rw [tcR_turn]; decide +kernel, by decide +kernel, by decide +kernel, by rw [tcR_turn]; decide +kernel⟩
theorem vnR_p : TabP vnR := ⟨vnR_right, by rw [vnR_turn]; decide +kernel, by decide +kernel, by decide +kernel, by rw [vnR_turn]; decide +kernel⟩
theorem thR_p : TabP (thR 256) := ⟨by decide +kernel, by rw [thR_turn]; decide +kernel, by decide +kernel, by decide +kernel, by rw [thR_turn]; decide +kernel⟩
theorem tmR_p : TabP tmR := ⟨tmR_right, by rw [tmR_turn]; decide +kernel, tmR_closed, by decide +kernel, by rw [tmR_turn]; decide +kernel⟩
end Go.Proofs.YtncpokioagpclaaGreatDoor
namespace Go.Proofs.YtncpokioagpclaaGreatDoor
set_option linter.unusedVariables false
set_option linter.unusedSimpArgs false
set_option linter.unnecessarySimpa false
open Go.RowKit

/-- .. where the numbers of the new blocks are spelled otherwise; blocks of other element types stay -/
theorem wpList_appRlN {w : World} {ops : Array Oper} {rest : List Oper} {o : Oper} {a : Act} {Q : Exit → Act → World → Prop} (hgd : o.guard = none) (s x : Operand)
    (ho : o.op = .call { callee := .builtin .append, args := #[s, x], argTypes := #[41, 41] })
    (base : Nat) (v : Value) (acc : List Rl) (p q : Int) (hs : a.eval s = v) (hown : OwnRs base w v acc)
    (N : Nat) (hN : w.heap.size = N) (hx : a.eval x = .slice (some ⟨N + 1 + 1, 0, none⟩) 1 1) (hsz : acc.length ≤ 1048576) (hbase : base ≤ w.heap.size)
    (h : ∀ v' w', Hid (OwnRs base w' v' (acc ++ [([p], [q])])) → Hid (∀ B w0, B ≤ base → Below B w0 w → Below B w0 w') → Hid (∀ (b : Nat) (cs : Array Value) (t : TypeId), t ≠ 104 → w.heap[b]? = some (.cells cs t (0, 0)) → w'.heap[b]? = some (.cells cs t (0, 0))) → wpList Tryz.prog ops Q rest (a.put o.dst v') w') :
    wpList Tryz.prog ops Q (o :: rest) a (((w.alloc (.cells #[.int .i64 p] 3)).alloc (.cells #[.int .i64 q] 3)).alloc (.cells #[.slice (some ⟨N, 0, none⟩) 1 1, .slice (some ⟨N + 1, 0, none⟩) 1 1] 104)) := by
  subst hN
  obtain ⟨i0, hi, hz0, hz1, hz2⟩ := info_parts inforl
  obtain ⟨xs, ho1, hx1⟩ := hown
  have hA := ((ho1.alloc (.cells #[.int .i64 p] 3)).alloc (.cells #[.int .i64 q] 3)).alloc (.cells #[.slice (some ⟨w.heap.size, 0, none⟩) 1 1, .slice (some ⟨w.heap.size + 1, 0, none⟩) 1 1] 104)
  have hrd := Rd_new ((w.alloc (.cells #[.int .i64 p] 3)).alloc (.cells #[.int .i64 q] 3)) #[.slice (some ⟨w.heap.size, 0, none⟩) 1 1, .slice (some ⟨w.heap.size + 1, 0, none⟩) 1 1] 104
  have hz : ((w.alloc (.cells #[.int .i64 p] 3)).alloc (.cells #[.int .i64 q] 3)).heap.size = w.heap.size + 1 + 1 := by simp
  rw [hz] at hrd
  refine wpList_appB _ hgd s x 41 ho base 104 i0 _ 2 48 Tryz.underlying41 hi hz0 hz1 hz2 rfl (by decide) v acc.length xs hs hA _ _ 1 1 [.slice (some ⟨w.heap.size, 0, none⟩) 1 1, .slice (some ⟨w.heap.size + 1, 0, none⟩) 1 1] hx rfl hrd ?_ (by simp only [maxLen]; omega) (by omega) (by simp; omega) ?_
  · intro u hu; simp at hu; rcases hu with rfl | rfl <;> rfl
  intro v' w4 hown4 hg4 hv4
  have hb3 : Below w.heap.size w (((w.alloc (.cells #[.int .i64 p] 3)).alloc (.cells #[.int .i64 q] 3)).alloc (.cells #[.slice (some ⟨w.heap.size, 0, none⟩) 1 1, .slice (some ⟨w.heap.size + 1, 0, none⟩) 1 1] 104)) :=
    (((Below.refl _ _).alloc (Nat.le_refl _) _).alloc (by simp) _).alloc (by simp; omega) _
  have hne : ∀ x, v.ownBlock = some x → x < w.heap.size := fun x hx => own_lt ho1 hx
  refine h v' w4 (Lib.hid ?_) (Lib.hid ?_) (Lib.hid ?_)
  · refine own_push (r := ([p], [q])) (v := v) (xs := xs) (by simpa using hown4) ?_ ?_ ?_ hg4 hv4
    · exact hx1.step hb3.size fun b hb hx => ⟨hx, hb3.block b hb⟩
    · refine (us_new w w.heap.size rfl p).step (by simp) fun b hb he => ⟨?_, ?_⟩
      · intro e; have := hne _ e; have : b = w.heap.size := he; omega
      · rw [Below.heap_alloc _ _ _ (by simp at hb ⊢; omega), Below.heap_alloc _ _ _ (by simpa using hb)]
    · refine (us_new (w.alloc (.cells #[.int .i64 p] 3)) (w.heap.size + 1) (by simp) q).step (by simp) fun b hb he => ⟨?_, ?_⟩
      · intro e; have := hne _ e; have : b = w.heap.size + 1 := he; omega
      · rw [Below.heap_alloc _ _ _ (by simpa using hb)]
  · intro B w0 hB hw0
    rcases Nat.lt_or_ge w.heap.size B with hl | hl
    · omega
    · exact below_own (hw0.trans (hb3.mono hl)) hg4 hA hB (by simp; omega)
  · intro b cs t ht hq
    have hbl : b < w.heap.size := (Array.getElem?_eq_some_iff.1 hq).1
    refine (hg4.block b (by simp; omega) ?_).trans ((hb3.block b hbl).trans hq)
    intro e
    rcases ho1.2 with ⟨h1, _⟩ | ⟨g, cap, cur, h1, _, h3, _⟩
    · subst h1; cases e
    · subst h1
      injection e with e
      subst e
      rw [hq] at h3
      injection h3 with h3
      injection h3 with _ h3
      exact ht h3
theorem wpList_appRl {w : World} {ops : Array Oper} {rest : List Oper} {o : Oper} {a : Act} {Q : Exit → Act → World → Prop} (hgd : o.guard = none) (s x : Operand)
    (ho : o.op = .call { callee := .builtin .append, args := #[s, x], argTypes := #[41, 41] })
    (base : Nat) (v : Value) (acc : List Rl) (p q : Int) (hs : a.eval s = v) (hown : OwnRs base w v acc)
    (hx : a.eval x = .slice (some ⟨w.heap.size + 1 + 1, 0, none⟩) 1 1) (hsz : acc.length ≤ 1048576) (hbase : base ≤ w.heap.size)
    (h : ∀ v' w', Hid (OwnRs base w' v' (acc ++ [([p], [q])])) → Hid (∀ B w0, B ≤ base → Below B w0 w → Below B w0 w') → wpList Tryz.prog ops Q rest (a.put o.dst v') w') :
    wpList Tryz.prog ops Q (o :: rest) a (((w.alloc (.cells #[.int .i64 p] 3)).alloc (.cells #[.int .i64 q] 3)).alloc (.cells #[.slice (some ⟨w.heap.size, 0, none⟩) 1 1, .slice (some ⟨w.heap.size + 1, 0, none⟩) 1 1] 104)) :=
  wpList_appRlN hgd s x ho base v acc p q hs hown _ rfl hx hsz hbase fun v' w' h1 h2 _ => h v' w' h1 h2
end Go.Proofs.YtncpokioagpclaaGreatDoor
namespace Go.Proofs.YtncpokioagpclaaGreatDoor
set_option linter.unusedVariables false
set_option linter.unusedSimpArgs false
set_option linter.unnecessarySimpa false
open Go.RowKit
/-- a row of pairs of the call's own, from block base on -/
def PR (w : World) (base : Nat) (v : Value) (ps : List (Int × Int)) : Prop := w.ownsRow base 169 2 v ps.length ((flatP ps).map (Value.int .i64))
theorem PR.nil (w : World) (base : Nat) : PR w base (.slice none 0 0) [] := World.ownsRow_nil _ _ _ _
theorem PR.form {w : World} {base : Nat} {v : Value} {ps : List (Int × Int)} (h : PR w base v ps) : ∃ A c, v = .slice A ps.length c ∧ ps.length ≤ c ∧ c ≤ maxLen := own_form h
theorem PR.rd {w : World} {base : Nat} {A : Option Addr} {n c : Nat} {ps : List (Int × Int)} (h : PR w base (.slice A n c) ps) : n = ps.length ∧ Rd w w.heap.size A ((flatP ps).map (Value.int .i64)) := by
  obtain ⟨A', c', e, _⟩ := PR.form h
  injection e with e1 e2 e3
  subst e1 e2 e3
  exact ⟨rfl, Rd.own h⟩
theorem infopr : (Tryz.prog.info? 169).map (fun i => (i.zero, i.size, i.bytes)) = some (some (.agg #[.int .i64 0, .int .i64 0]), 2, 16) := by kernel_rfl

theorem wpList_appP {w : World} {ops : Array Oper} {rest : List Oper} {o : Oper} {a : Act} {Q : Exit → Act → World → Prop} (hgd : o.guard = none) (s x : Operand)
    (ho : o.op = .call { callee := .builtin .append, args := #[s, x], argTypes := #[168, 168] })
    (base : Nat) (v : Value) (ps : List (Int × Int)) (p q : Int) (hs : a.eval s = v) (hown : PR w base v ps) (N : Nat) (hx : a.eval x = .slice (some ⟨N, 0, none⟩) 1 1) (hN : w.heap.size = N)
    (hsz : ps.length ≤ 1048576) (hbase : base ≤ w.heap.size)
    (h : ∀ v' w', Hid (PR w' base v' (ps ++ [(p, q)])) → Hid (∀ B w0, B ≤ base → Below B w0 w → Below B w0 w') → wpList Tryz.prog ops Q rest (a.put o.dst v') w') :
    wpList Tryz.prog ops Q (o :: rest) a (w.alloc (.cells #[.int .i64 p, .int .i64 q] 169)) := by
  subst hN
  obtain ⟨i0, hi, hz0, hz1, hz2⟩ := info_parts infopr
  have hA := hown.alloc (.cells #[.int .i64 p, .int .i64 q] 169)
  have hrd := Rd_new w #[.int .i64 p, .int .i64 q] 169
  refine wpList_appB _ hgd s x 168 ho base 169 i0 _ 2 16 Tryz.underlying168 hi hz0 hz1 hz2 rfl (by decide) v ps.length _ hs hA _ _ 1 1 [.int .i64 p, .int .i64 q] hx rfl hrd ?_ (by simp only [maxLen]; omega) (by omega) (by simp; omega) ?_
  · intro u hu; simp at hu; rcases hu with rfl | rfl <;> rfl
  intro v' w4 hown4 hg4 hv4
  refine h v' w4 (Lib.hid ?_) (Lib.hid ?_)
  · unfold PR
    rw [flatP_app, List.length_append, List.map_append]
    exact hown4
  · intro B w0 hB hw0
    exact below_own (hw0.alloc (by have := hw0.size; rcases Nat.lt_or_ge w.heap.size B with hl | hl <;> omega) _) hg4 hA hB (by simp; omega)
end Go.Proofs.YtncpokioagpclaaGreatDoor
namespace Go.Proofs.YtncpokioagpclaaGreatDoor
set_option linter.unusedVariables false
open Go.RowKit
set_option maxHeartbeats 1600000 in
theorem singles_any (n : Nat) (A : Option Addr) (c : Nat) (ps : List (Int × Int)) (B : Nat) (w : World) (hn : n = ps.length) (hr : Rd w B A ((flatP ps).map (Value.int .i64))) (hB : B ≤ w.heap.size) (hl : n ≤ 1048576) (ts : List Rl) (ht : singR ps = ts) :
    Calls Tryz.prog 86 #[.slice A n c] w fun e w' => ∃ v, e = .returned v ∧ OwnRs w.heap.size w' v ts ∧ Below w.heap.size w w' := by
  obtain ⟨i0, hi, hz0, hz1, hz2⟩ := info_parts inforl
  have HN := Lib.hid hn
  have HR := Lib.hid hr
  have HT := Lib.hid ht
  clear hn hr ht
  go_enter Tryz.func86, Tryz.ntmps86
  go_wp2
  go_loopw [3, 8] (fun v i wr => ∃ (K : Nat), K ≤ n ∧ i = .int .i64 K ∧ Hid (OwnRs w.heap.size wr v (singR (ps.take K))) ∧ Below w.heap.size w wr) (fun _ i _ => n - (intOf i).toNat)
  case atStart => exact ⟨0, by omega, rfl, OwnRs.nil _ _, Below.refl _ _⟩
  case round =>
    obtain ⟨K, hK, rfl, ho, hb⟩ := hrel
    by_cases hKn : K = n
    · have hK' : ¬ K < n := by omega
      have HE : Hid (singR (ps.take K) = ts) := by rw [List.take_of_length_le (by rw [← HN.out]; omega)]; exact HT.out
      clear hKn
      go_wp2
      go_ret
      exact ⟨_, rfl, by rw [← HE.out]; exact ho.out, hb⟩
    have hK' : K < n := by omega
    have hK1 : K < ps.length := by rw [← HN.out]; exact hK'
    obtain ⟨b, o, rfl, hbB, g1, g2⟩ := pair_at HR.out hK1
    have k1 := (hb.cell (p := ⟨b, o + K * 2, none⟩) (by show b < _; omega)).trans g1
    have k2 := (hb.cell (p := ⟨b, o + K * 2 + 1, none⟩) (by show b < _; omega)).trans g2
    have k3 : (0 : Int) ≤ K := by omega
    have k4 : (K : Int) < n := by omega
    obtain ⟨p, hp⟩ : ∃ p, ps[K].1 = p := ⟨_, rfl⟩
    obtain ⟨q, hq⟩ : ∃ q, ps[K].2 = q := ⟨_, rfl⟩
    rw [hp] at k1
    rw [hq] at k2
    have hsn : singR (ps.take (K + 1)) = singR (ps.take K) ++ [([p], [q])] := by
      unfold singR; rw [List.take_succ_eq_append_getElem hK1, List.map_append, List.map_cons, List.map_nil, hp, hq]
    have HSN := Lib.hid hsn
    have hlen : (singR (ps.take K)).length = K := by simp [singR]; omega
    obtain ⟨acc, hacc⟩ : ∃ acc, singR (ps.take K) = acc := ⟨_, rfl⟩
    rw [hacc] at hlen ho HSN
    obtain ⟨A3, c3, rfl, _⟩ := ho.out.form
    obtain ⟨xs, hown, hx⟩ := ho.out
    have hle : acc.length ≤ K := by omega
    have HX := Lib.hid hx
    have HL := Lib.hid hlen
    have hs := hb.size
    clear g1 g2 hp hq hsn hacc hlen hx
    go_wp2_with (at_builtin; refine wpList_appB _ rfl _ _ 41 rfl w.heap.size 104 i0 _ 2 48 Tryz.underlying41 hi hz0 hz1 hz2 rfl (by decide) _ _ _ rfl ((((hown.alloc _).alloc _).alloc _).alloc _) (wr.heap.size + 1 + 1 + 1 + 1) _ 1 1 [.slice (some ⟨wr.heap.size + 1, 0, none⟩) 1 1, .slice (some ⟨wr.heap.size + 1 + 1, 0, none⟩) 1 1] rfl rfl ?c1 ?c2 ?c3 ?c4 ?c5 ?_)
    case c1 => exact Rd_newR _ _ _ _ (by simp)
    case c2 => intro u hu; simp at hu; rcases hu with rfl | rfl <;> rfl
    case c3 => simp only [maxLen]; omega
    case c4 => omega
    case c5 => simp; omega
    intro v' w4 hown4 hg4 hv4
    have hb3 : Below wr.heap.size wr ((((wr.alloc (.cells #[.int .i64 p, .int .i64 q] 169)).alloc (.cells #[.int .i64 p] 3)).alloc (.cells #[.int .i64 q] 3)).alloc (.cells #[.slice (some ⟨wr.heap.size + 1, 0, none⟩) 1 1, .slice (some ⟨wr.heap.size + 1 + 1, 0, none⟩) 1 1] 104)) :=
      ((((Below.refl _ _).alloc (Nat.le_refl _) _).alloc (by simp) _).alloc (by simp; omega) _).alloc (by simp; omega) _
    have hne : ∀ x, (Value.slice A3 acc.length c3).ownBlock = some x → x < wr.heap.size := fun x hx => own_lt hown hx
    have hpush : OwnRs w.heap.size w4 v' (acc ++ [([p], [q])]) := by
      refine own_push (r := ([p], [q])) (v := .slice A3 acc.length c3) (xs := xs) (by simpa using hown4) ?_ ?_ ?_ hg4 (by simpa using hv4)
      · exact HX.out.step hb3.size fun b hb hx => ⟨hx, hb3.block b hb⟩
      · refine (us_new (wr.alloc (.cells #[.int .i64 p, .int .i64 q] 169)) (wr.heap.size + 1) (by simp) p).step (by simp) fun b hb he => ⟨?_, ?_⟩
        · intro e; have := hne _ e; have : b = wr.heap.size + 1 := he; omega
        · rw [Below.heap_alloc _ _ _ (by simp at hb ⊢; omega), Below.heap_alloc _ _ _ (by simpa using hb)]
      · refine (us_new ((wr.alloc (.cells #[.int .i64 p, .int .i64 q] 169)).alloc (.cells #[.int .i64 p] 3)) (wr.heap.size + 1 + 1) (by simp) q).step (by simp) fun b hb he => ⟨?_, ?_⟩
        · intro e; have := hne _ e; have : b = wr.heap.size + 1 + 1 := he; omega
        · rw [Below.heap_alloc _ _ _ (by simpa using hb)]
    have HP : Hid (OwnRs w.heap.size w4 v' (singR (ps.take (K + 1)))) := by rw [HSN.out]; exact hpush
    have hbE : Below w.heap.size w w4 := below_own (hb.trans (hb3.mono hs)) hg4 ((((hown.alloc _).alloc _).alloc _).alloc _) (Nat.le_refl _) (by simp; omega)
    clear hown4 hpush
    go_wp2
    go_roundw
    case rel => exact ⟨K + 1, by omega, by go_num, HP, hbE⟩
    case measure => simp [intOf]; omega
end Go.Proofs.YtncpokioagpclaaGreatDoor
namespace Go.Proofs.YtncpokioagpclaaGreatDoor
set_option linter.unusedVariables false
set_option linter.unusedSimpArgs false
set_option linter.unnecessarySimpa false
open Go.RowKit

/-- equality of float64 -/
def feq (a b : Nat) : Bool := FloatKind.f64.format.order a b == some .eq

theorem cmp_eq {a b : Int} (h : compare a b = .eq) : a = b := by
  rw [Int.compare_eq_ite_lt] at h
  split at h
  · cases h
  · split at h
    · cases h
    · omega
theorem order_eq {x y : Ieee.Datum} (h : x.order y = some .eq) :
    (∃ s, x = .infinity s ∧ y = .infinity s) ∨ ∃ s m i t n j, x = .number s m i ∧ y = .number t n j ∧ Ieee.signed s m (i - min i j).toNat = Ieee.signed t n (j - min i j).toNat := by
  cases x with
  | nan a b => cases y <;> simp [Ieee.Datum.order] at h
  | infinity s =>
    cases y with
    | nan a b => simp [Ieee.Datum.order] at h
    | infinity t =>
      left
      cases s <;> cases t <;> first | exact ⟨_, rfl, rfl⟩ | (exfalso; revert h; decide)
    | number t n j => cases s <;> simp [Ieee.Datum.order] at h
  | number s m i =>
    cases y with
    | nan a b => simp [Ieee.Datum.order] at h
    | infinity t => cases t <;> simp [Ieee.Datum.order] at h
    | number t n j =>
      right
      simp only [Ieee.Datum.order, Option.some.injEq] at h
      exact ⟨s, m, i, t, n, j, rfl, rfl, cmp_eq h⟩
theorem feq_iff {a b : Nat} : feq a b = true ↔ (FloatKind.f64.format.read a).order (FloatKind.f64.format.read b) = some .eq := by
  unfold feq
  rw [beq_iff_eq]
  exact Iff.rfl
theorem signed_scale (s : Bool) (m a b : Nat) : Ieee.signed s m (a + b) = Ieee.signed s m a * 2 ^ b := by
  unfold Ieee.signed
  simp only [Nat.shiftLeft_eq, Nat.pow_add]
  cases s <;> simp [Int.mul_assoc, Int.neg_mul]

/-- what a float that equals m stands for -/
def FIs (a m : Nat) : Prop := ∃ s n i, FloatKind.f64.format.read a = .number s n i ∧ Ieee.signed s n (i - min i (-1074)).toNat = (m : Int) * 2 ^ (-(min i (-1074))).toNat
theorem fis_of {a m : Nat} (P : Int) (M : Nat) (hr : FloatKind.f64.format.read (fl m) = .number false M P) (hP : -1074 ≤ P) (hM : Ieee.signed false M (P + 1074).toNat = (m : Int) * 2 ^ 1074) (h : feq a (fl m) = true) : FIs a m := by
  rcases order_eq (feq_iff.1 h) with ⟨s, _, e⟩ | ⟨s, n, i, t, n', j, e1, e2, e⟩
  · rw [hr] at e; cases e
  · rw [hr] at e2
    injection e2 with t1 t2 t3
    subst t1 t2 t3
    refine ⟨s, n, i, e1, ?_⟩
    have k1 : (i - min i (-1074)).toNat = (i - min i P).toNat + (min i P - min i (-1074)).toNat := by omega
    have k2 : (P - min i (-1074)).toNat = (P - min i P).toNat + (min i P - min i (-1074)).toNat := by omega
    have k3 : (P - min i (-1074)).toNat = (P + 1074).toNat + (-1074 - min i (-1074)).toNat := by omega
    have k4 : (-(min i (-1074))).toNat = 1074 + (-1074 - min i (-1074)).toNat := by omega
    rw [k1, signed_scale, e, ← signed_scale, ← k2, k3, signed_scale, hM, k4, Int.mul_assoc, ← Int.pow_add]
theorem fis_fl {a m : Nat} (hm : m ≤ 6) (h : feq a (fl m) = true) : FIs a m := by
  match m, hm with
  | 0, _ => exact fis_of (-1074) 0 (by kernel_rfl) (by decide) (by decide +kernel) h
  | 1, _ => exact fis_of (-52) (2 ^ 52) (by kernel_rfl) (by decide) (by decide +kernel) h
  | 2, _ => exact fis_of (-51) (2 ^ 52) (by kernel_rfl) (by decide) (by decide +kernel) h
  | 3, _ => exact fis_of (-51) (3 * 2 ^ 51) (by kernel_rfl) (by decide) (by decide +kernel) h
  | 4, _ => exact fis_of (-50) (2 ^ 52) (by kernel_rfl) (by decide) (by decide +kernel) h
  | 5, _ => exact fis_of (-50) (5 * 2 ^ 50) (by kernel_rfl) (by decide) (by decide +kernel) h
  | 6, _ => exact fis_of (-50) (6 * 2 ^ 50) (by kernel_rfl) (by decide) (by decide +kernel) h
theorem fis_inj {a m n : Nat} (h : FIs a m) (k : FIs a n) : m = n := by
  obtain ⟨s, u, i, e1, e⟩ := h
  obtain ⟨s', u', i', e1', e'⟩ := k
  rw [e1] at e1'
  injection e1' with t1 t2 t3
  subst t1 t2 t3
  rw [e] at e'
  have h2 : (2 : Int) ^ (-(min i (-1074))).toNat ≠ 0 := by
    have : (0 : Int) < 2 ^ (-(min i (-1074))).toNat := Int.pow_pos (by decide)
    omega
  have := Int.eq_of_mul_eq_mul_right h2 e'
  omega
/-- a float equals one small whole number at most -/
theorem feq_inj {a m n : Nat} (hm : m ≤ 6) (hn : n ≤ 6) (h : feq a (fl m) = true) (k : feq a (fl n) = true) : m = n := fis_inj (fis_fl hm h) (fis_fl hn k)
theorem feq_fl_self (m : Nat) (hm : m ≤ 6) : feq (fl m) (fl m) = true := by
  match m, hm with
  | 0, _ => decide +kernel
  | 1, _ => decide +kernel
  | 2, _ => decide +kernel
  | 3, _ => decide +kernel
  | 4, _ => decide +kernel
  | 5, _ => decide +kernel
  | 6, _ => decide +kernel
theorem feq_fl (m n : Nat) (hm : m ≤ 6) (hn : n ≤ 6) : feq (fl m) (fl n) = (m == n) := by
  cases h : feq (fl m) (fl n) with
  | true => rw [feq_inj hm hn (feq_fl_self m hm) h]; simp
  | false =>
    cases e : m == n with
    | false => rfl
    | true => rw [eq_of_beq e, feq_fl_self n hn] at h; cases h

/-- letter k fits a base and a sign -/
def jnP (b : Int) (re im : Nat) (k : Nat) : Bool := b == LB k && (feq re (fl (LM k)) && feq im (fl (LT k)))
theorem jnP_inj {b : Int} {re im : Nat} (i j : Nat) (hi : i < 148) (hj : j < 148) (h1 : jnP b re im i = true) (h2 : jnP b re im j = true) : i = j := by
  unfold jnP at h1 h2
  simp only [Bool.and_eq_true, beq_iff_eq] at h1 h2
  have hi' := letter_small i hi
  have hj' := letter_small j hj
  exact LK_inj i j hi hj (by rw [← h1.1, ← h2.1]) (feq_inj (by omega) (by omega) h1.2.1 h2.2.1) (feq_inj (by omega) (by omega) h1.2.2 h2.2.2)
theorem jnP_self (k : Nat) (hk : k < 148) : jnP (LB k) (fl (LM k)) (fl (LT k)) k = true := by
  have h := letter_small k hk
  unfold jnP
  rw [feq_fl_self _ (by omega), feq_fl_self _ (by omega)]
  simp
theorem join_of (k : Nat) (hk : k < 148) : findP (jnP (LB k) (fl (LM k)) (fl (LT k))) = some k :=
  findP_some hk (jnP_self k hk) fun j hj h => jnP_inj j k hj hk h (jnP_self k hk)

/-! sums -/
section
variable {P : Program} (w : World)
end
end Go.Proofs.YtncpokioagpclaaGreatDoor
namespace Go.Proofs.YtncpokioagpclaaGreatDoor
set_option linter.unusedVariables false
open Go.RowKit
theorem us_newL (w : World) (m : Nat) (hm : w.heap.size = m) (zs : List Int) (cs : Array Value) (hc : cs.toList = zs.map (Value.int .i64)) (n : Nat) (hn : n = zs.length) (hl : n ≤ maxLen) : Us (fun b => b = m) (w.alloc (.cells cs 3)) (.slice (some ⟨m, 0, none⟩) n n) zs := by
  subst hm hn
  refine ⟨_, _, rfl, Nat.le_refl _, hl, .inr ⟨w.heap.size, 0, rfl, by simp, rfl, fun j hj => ?_⟩⟩
  rw [Nat.zero_add, cell_of_row _ _ _ _ _ _ (heap_alloc_new w _), ← hc]
  simp
theorem Us.up {X : Nat → Prop} {w : World} {v : Value} {us : List Int} (h : Us X w v us) (o : Obj) {Y : Nat → Prop} (hY : ∀ b, b < w.heap.size → X b → Y b) : Us Y (w.alloc o) v us :=
  h.step (by simp) fun b hb hx => ⟨hY b hb hx, Below.heap_alloc w o b hb⟩
end Go.Proofs.YtncpokioagpclaaGreatDoor
namespace Go.Proofs.YtncpokioagpclaaGreatDoor
set_option linter.unusedVariables false
set_option linter.unusedSimpArgs false
set_option linter.unnecessarySimpa false
open Go.RowKit
theorem inforule2 : (Tryz.prog.info? 104).map (·.size) = some 2 := by kernel_rfl
theorem rule_ret {fn : Func} {p : Tmp} {a : Act} {w : World} {R : Ending → World → Prop} {g : Nat} {cs : Array Value} {t : TypeId} {fr : Nat × Nat} (h : fn.results = #[.cell p 104]) (hp : a.tmps.getD p undef = .pointer (some ⟨g, 0, none⟩)) (hg : w.heap[g]? = some (.cells cs t fr)) (hs : cs.size = 2)
    (hd : a.defers = []) (hR : R (.returned (.agg cs)) w) : bodyPost Tryz.prog fn R .ret a w :=
  bodyPost_ret (results_cell_row h a.tmps w g t cs fr _ hp hg Tryz.underlying104 rfl (by rw [inforule2, hs])) hd hR
theorem to_any (w : World) (n m c d : Nat) (A B : Option Addr) :
    Calls Tryz.prog 127 #[.slice A n c, .slice B m d] w fun e w' => e = .returned (.agg #[.slice A n c, .slice B m d]) ∧ w' = w.alloc (.cells #[.slice A n c, .slice B m d] 104) := by
  go_enter Tryz.func127, Tryz.ntmps127
  go_wp2_with fail
  exact rule_ret rfl rfl (heap_alloc_new w _) rfl rfl ⟨rfl, rfl⟩
/-- the world behind one rule's two sides and its result -/
def ruT (w : World) (N : Nat) (r : Rl) : World :=
  ((w.alloc (.cells (r.1.map (Value.int .i64)).toArray 3)).alloc (.cells (r.2.map (Value.int .i64)).toArray 3)).alloc (.cells #[.slice (some ⟨N, 0, none⟩) r.1.length r.1.length, .slice (some ⟨N + 1, 0, none⟩) r.2.length r.2.length] 104)
theorem ruT_below (w : World) (N : Nat) (r : Rl) : Below w.heap.size w (ruT w N r) := by
  unfold ruT
  exact (((Below.refl _ w).alloc (Nat.le_refl _) _).alloc (by simp) _).alloc (by simp; omega) _
theorem ruT_size (w : World) (N : Nat) (r : Rl) : (ruT w N r).heap.size = w.heap.size + 3 := by unfold ruT; simp
theorem ruT_us (w : World) (N : Nat) (hN : w.heap.size = N) (r : Rl) (l1 : r.1.length ≤ maxLen) (l2 : r.2.length ≤ maxLen) :
    Us (fun b => b = N) (ruT w N r) (.slice (some ⟨N, 0, none⟩) r.1.length r.1.length) r.1 ∧ Us (fun b => b = N + 1) (ruT w N r) (.slice (some ⟨N + 1, 0, none⟩) r.2.length r.2.length) r.2 := by
  subst hN
  unfold ruT
  refine ⟨?_, ?_⟩
  · exact ((us_newL w _ rfl r.1 _ rfl _ rfl l1).up _ (Y := fun b => b = w.heap.size) fun b _ hx => hx).up _ fun b _ hx => hx
  · exact (us_newL (w.alloc (.cells (r.1.map (Value.int .i64)).toArray 3)) (w.heap.size + 1) (by simp) r.2 _ rfl _ rfl l2).up _ fun b _ hx => hx
/-- .. behind rules -/
def ruV (w : World) (N : Nat) : List Rl → World
  | [] => w
  | r :: rs => ruV (ruT w N r) (N + 1 + 1 + 1) rs
/-- the rules' cells -/
def ruD (n : Nat) : List Rl → List Value
  | [] => []
  | r :: rs => .slice (some ⟨n, 0, none⟩) r.1.length r.1.length :: .slice (some ⟨n + 1, 0, none⟩) r.2.length r.2.length :: ruD (n + 1 + 1 + 1) rs
theorem ruV_size : ∀ (rs : List Rl) (w : World) (N : Nat), (ruV w N rs).heap.size = w.heap.size + rs.length * 3
  | [], w, N => rfl
  | r :: rs, w, N => by
    unfold ruV
    rw [ruV_size rs, ruT_size]
    simp; omega
theorem ruV_below : ∀ (rs : List Rl) (w : World) (N : Nat), Below w.heap.size w (ruV w N rs)
  | [], w, N => Below.refl _ _
  | r :: rs, w, N => by
    unfold ruV
    exact (ruT_below w N r).trans ((ruV_below rs (ruT w N r) _).mono (by rw [ruT_size]; omega))
theorem ruV_rls : ∀ (rs : List Rl) (w : World) (N : Nat), w.heap.size = N → (∀ r ∈ rs, r.1.length ≤ maxLen ∧ r.2.length ≤ maxLen) → Rls (fun b => N ≤ b) (ruV w N rs) (ruD N rs) rs
  | [], w, N, _, _ => trivial
  | r :: rs, w, N, hN, hl => by
    obtain ⟨l1, l2⟩ := hl r (by simp)
    have hz : (ruT w N r).heap.size = N + 1 + 1 + 1 := by rw [ruT_size, hN]
    have h := ruV_rls rs (ruT w N r) (N + 1 + 1 + 1) hz (fun x hx => hl x (by simp [hx]))
    have hb := ruV_below rs (ruT w N r) (N + 1 + 1 + 1)
    obtain ⟨u1, u2⟩ := ruT_us w N hN r l1 l2
    unfold ruV ruD
    refine ⟨?_, ?_, h.step (Nat.le_refl _) fun b _ hx => ⟨by omega, rfl⟩⟩
    · exact u1.step hb.size fun b hb2 hx => ⟨by omega, hb.block b hb2⟩
    · exact u2.step hb.size fun b hb2 hx => ⟨by omega, hb.block b hb2⟩
set_option maxRecDepth 100000 in
set_option maxHeartbeats 6400000 in
theorem syl_raw (w : World) (N : Nat) (hN : w.heap.size = N) (c d s : Int) :
    Calls Tryz.prog 91 #[.int .i64 c, .int .i64 d, .int .i64 s] w fun e w' => e = .returned (.slice (some ⟨N + 24, 0, none⟩) 8 8) ∧
      w' = (ruV w N [([c], [s]), ([d], [s, 3021]), ([166, c], [s, 3014]), ([167, c], [s, 3015]), ([168, c], [s, 3016]), ([166, c, 170], [s, 3018]), ([167, c, 170], [s, 3019]), ([166, c, 175], [s, 3020])]).alloc
        (.cells (ruD N [([c], [s]), ([d], [s, 3021]), ([166, c], [s, 3014]), ([167, c], [s, 3015]), ([168, c], [s, 3016]), ([166, c, 170], [s, 3018]), ([167, c, 170], [s, 3019]), ([166, c, 175], [s, 3020])]).toArray 104) := by
  subst hN
  go_enter Tryz.func91, Tryz.ntmps91
  go_wp2_with fail
  refine (to_any _ _ _ _ _ _ _).mono ?_
  rintro e w1 ⟨rfl, rfl⟩
  go_wp2_with fail
  refine (to_any _ _ _ _ _ _ _).mono ?_
  rintro e w1 ⟨rfl, rfl⟩
  go_wp2_with fail
  refine (to_any _ _ _ _ _ _ _).mono ?_
  rintro e w1 ⟨rfl, rfl⟩
  go_wp2_with fail
  refine (to_any _ _ _ _ _ _ _).mono ?_
  rintro e w1 ⟨rfl, rfl⟩
  go_wp2_with fail
  refine (to_any _ _ _ _ _ _ _).mono ?_
  rintro e w1 ⟨rfl, rfl⟩
  go_wp2_with fail
  refine (to_any _ _ _ _ _ _ _).mono ?_
  rintro e w1 ⟨rfl, rfl⟩
  go_wp2_with fail
  refine (to_any _ _ _ _ _ _ _).mono ?_
  rintro e w1 ⟨rfl, rfl⟩
  go_wp2_with fail
  refine (to_any _ _ _ _ _ _ _).mono ?_
  rintro e w1 ⟨rfl, rfl⟩
  go_wp2_with fail
  go_ret
  exact ⟨rfl, rfl⟩
/-- the rules of a consonant, as they come -/
theorem syl_any (k : Nat) (hk : k < 22) (w : World) :
    Calls Tryz.prog 91 #[.int .i64 (176 + (k : Int)), .int .i64 (208 + (k : Int)), .int .i64 (tmCon k)] w fun e w' => ∃ A xs, e = .returned (.slice A 8 8) ∧ Rd w' w'.heap.size A xs ∧ Rls (fun b => w.heap.size ≤ b) w' xs (tmG k) ∧ Below w.heap.size w w' := by
  refine (syl_raw w w.heap.size rfl _ _ _).mono ?_
  rintro e w' ⟨rfl, rfl⟩
  have hz : (ruV w w.heap.size (tmG k)).heap.size = w.heap.size + 24 := ruV_size _ _ _
  have hr := Rd_new (ruV w w.heap.size (tmG k)) (ruD w.heap.size (tmG k)).toArray 104
  have hb := ruV_below (tmG k) w w.heap.size
  have hl := ruV_rls (tmG k) w w.heap.size rfl (by intro r hr; simp only [tmG, List.mem_cons, List.not_mem_nil, or_false] at hr; rcases hr with rfl | rfl | rfl | rfl | rfl | rfl | rfl | rfl <;> simp [maxLen])
  rw [hz] at hr
  refine ⟨_, ruD w.heap.size (tmG k), rfl, ?_, ?_, hb.alloc hb.size _⟩
  · have e : ((ruV w w.heap.size (tmG k)).alloc (.cells (ruD w.heap.size (tmG k)).toArray 104)).heap.size = w.heap.size + 24 + 1 := by simp [hz]
    show Rd _ ((ruV w w.heap.size (tmG k)).alloc (.cells (ruD w.heap.size (tmG k)).toArray 104)).heap.size _ _
    rw [e]
    exact hr
  · exact hl.step (by simp) fun b hb2 hx => ⟨hx, Below.heap_alloc _ _ b hb2⟩
end Go.Proofs.YtncpokioagpclaaGreatDoor
namespace Go.Proofs.YtncpokioagpclaaGreatDoor
set_option linter.unusedVariables false
set_option linter.unusedSimpArgs false
set_option linter.unnecessarySimpa false
open Go.RowKit
/-- a row of rules of the call's own; its rules' units, too, lie from block base on -/
def OwnRsF (base : Nat) (w : World) (v : Value) (rs : List Rl) : Prop := ∃ xs, w.ownsRow base 104 2 v rs.length xs ∧ Rls (fun b => v.ownBlock ≠ some b ∧ base ≤ b) w xs rs
theorem OwnRsF.nil (base : Nat) (w : World) : OwnRsF base w (.slice none 0 0) [] := ⟨[], World.ownsRow_nil _ _ _ _, trivial⟩
theorem OwnRsF.below {base B : Nat} {w w' : World} {v : Value} {rs : List Rl} (h : OwnRsF base w v rs) (hb : Below B w w') (hB : w.heap.size ≤ B) : OwnRsF base w' v rs := by
  obtain ⟨xs, ho, hr⟩ := h
  exact ⟨xs, own_below ho hb hB, hr.step hb.size fun b hl hx => ⟨hx, hb.block b (by omega)⟩⟩
theorem OwnRsF.form {base : Nat} {w : World} {v : Value} {rs : List Rl} (h : OwnRsF base w v rs) : ∃ A c xs, v = .slice A rs.length c ∧ Rd w w.heap.size A xs ∧ Rls (fun b => base ≤ b) w xs rs := by
  obtain ⟨xs, ho, hr⟩ := h
  obtain ⟨A, c, rfl, h1, h2⟩ := own_form ho
  exact ⟨A, c, xs, rfl, Rd.own ho, hr.step (Nat.le_refl _) fun b hl hx => ⟨hx.2, rfl⟩⟩
theorem Rls.grownF {base : Nat} {w w' : World} {v v' : Value} {xs : List Value} {rs : List Rl} (h : Rls (fun b => v.ownBlock ≠ some b ∧ base ≤ b) w xs rs) (hg : w.grownBy w' v.ownBlock) (hv : v'.ownBlock = v.ownBlock ∨ v'.ownBlock = some w.heap.size) : Rls (fun b => v'.ownBlock ≠ some b ∧ base ≤ b) w' xs rs :=
  h.step hg.size fun b hl hx => ⟨⟨by
    rcases hv with e | e
    · rw [e]; exact hx.1
    · rw [e]; intro e'; injection e' with e'; omega, hx.2⟩, hg.block b hl (fun e => hx.1 e.symm)⟩
end Go.Proofs.YtncpokioagpclaaGreatDoor
namespace Go.Proofs.YtncpokioagpclaaGreatDoor
set_option linter.unusedVariables false
open Go.RowKit
/-- a slice built of many parts: run by the kernel -/
theorem wpList_bs {w : World} {ops : Array Oper} {rest : List Oper} {o : Oper} {a : Act} {Q : Exit → Act → World → Prop} (hgd : o.guard = none) (t : TypeId) (n : Nat) (ps : Array (Nat × Operand))
    (ho : o.op = .buildSlice t n ps) (v : Value) (w' : World) (h : (execOp a.eval o).run Tryz.prog w = .ok (.value v) w') (k : wpList Tryz.prog ops Q rest (a.put o.dst v) w') : wpList Tryz.prog ops Q (o :: rest) a w :=
  wpList_plain hgd fun K hK => by
    unfold Oper.wp
    rw [h]
    exact hK _ _ k
end Go.Proofs.YtncpokioagpclaaGreatDoor
namespace Go.Proofs.YtncpokioagpclaaGreatDoor
set_option linter.unusedVariables false
open Go.RowKit


theorem all_own (n : Nat) (A : Option Addr) (cap : Nat) (zs : List Int) (w : World) (hn : n = zs.length) (hr : Rd w w.heap.size A (zs.map (Value.int .u8))) (hl : zs.length ≤ 8388608) (hc : zs.length ≤ cap) (hw : ∀ z ∈ zs, 0 ≤ z ∧ z ≤ 255) (ts : List Tok) (m : Nat) (ht : allF zs.length 0 zs = ts) (hm : ts.length = m) :
    Calls Tryz.prog 196 #[.slice A n cap] w fun e w' => ∃ A' c' xs, e = .returned (.slice A' m c') ∧ Rd w' w'.heap.size A' xs ∧ Toks w' w'.heap.size xs ts ∧ m ≤ c' ∧ c' ≤ maxLen ∧ Below w.heap.size w w' := by
  subst hn ht hm
  refine (all_any A cap zs w hr hl hc hw).mono fun e w' h => ?_
  obtain ⟨v, xs, rfl, ho, ht, hb⟩ := h
  obtain ⟨A', c', rfl, h1, h2⟩ := own_form ho
  exact ⟨A', c', xs, rfl, Rd.own ho, ht, h1, h2, hb⟩
theorem contF_short : ∀ (need : Nat) (r : List Int) (k s lo hi : Int), (contF need r k s lo hi).2.2 = 2 → (contF need r k s lo hi).2.1 = k + r.length
  | 0, r, k, s, lo, hi, h => by cases h
  | n + 1, [], k, s, lo, hi, h => by show k = k + (0 : Int); omega
  | n + 1, c :: r, k, s, lo, hi, h => by
    have e : contF (n + 1) (c :: r) k s lo hi = if c < lo ∨ hi < c then (0, k, 1) else contF n r (k + 1) (s * 64 + c % 64) 128 191 := rfl
    rw [e] at h ⊢
    by_cases hb : c < lo ∨ hi < c
    · rw [if_pos hb] at h; cases h
    · rw [if_neg hb] at h ⊢
      rw [contF_short n r _ _ _ _ h, List.length_cons]; push_cast; omega
theorem oneF_short (z : Int) (zs : List Int) (h : (oneF (z :: zs)).2.2 = 2) : (oneF (z :: zs)).2.1 = zs.length + 1 := by
  have e : oneF (z :: zs) = if (leadF z).1 = 0 then (0, 1, 1) else if (leadF z).1 = 1 then (z, 1, 0) else contF ((leadF z).1.toNat - 1) zs 1 (z % (if (leadF z).1 = 2 then 32 else if (leadF z).1 = 3 then 16 else 8)) (leadF z).2.1 (leadF z).2.2 := rfl
  rw [e] at h ⊢
  by_cases h1 : (leadF z).1 = 0
  · rw [if_pos h1] at h; cases h
  · rw [if_neg h1] at h ⊢
    by_cases h2 : (leadF z).1 = 1
    · rw [if_pos h2] at h; cases h
    · rw [if_neg h2] at h ⊢
      rw [contF_short _ _ _ _ _ _ h]; omega

/-- one step of the tokens -/
theorem allF_step {f P : Nat} {zs : List Int} {t : Tok} {ts : List Tok} (h : t :: ts = allF f P (zs.drop P)) (hf : zs.length - P ≤ f) :
    ∃ s n e f', P < zs.length ∧ oneF (zs.drop P) = (s, n, e) ∧ t = ⟨P, n, e, if e = 0 then [s] else []⟩ ∧ 1 ≤ n ∧ P + n ≤ zs.length ∧ 0 ≤ e ∧ e ≤ 2 ∧ (e = 2 → P + n = zs.length) ∧ zs.length - (P + n.toNat) ≤ f' ∧ ts = allF f' ((P + n.toNat : Nat) : Int) (zs.drop (P + n.toNat)) := by
  have hP : P < zs.length := by
    rcases Nat.lt_or_ge P zs.length with h1 | h1
    · exact h1
    · rw [List.drop_of_length_le h1] at h
      cases f <;> cases h
  obtain ⟨f', rfl⟩ : ∃ f', f = f' + 1 := ⟨f - 1, by omega⟩
  have hd := List.drop_eq_getElem_cons hP
  obtain ⟨s, n, e, ho⟩ : ∃ s n e, oneF (zs.drop P) = (s, n, e) := ⟨_, _, _, rfl⟩
  have hn := oneF_n zs[P] (zs.drop (P + 1))
  have hs := oneF_short zs[P] (zs.drop (P + 1))
  rw [← hd, ho] at hn hs
  simp only [List.length_drop] at hn hs
  rw [hd] at h
  have e0 : allF (f' + 1) P (zs[P] :: zs.drop (P + 1)) = ⟨P, (oneF (zs[P] :: zs.drop (P + 1))).2.1, (oneF (zs[P] :: zs.drop (P + 1))).2.2, if (oneF (zs[P] :: zs.drop (P + 1))).2.2 = 0 then [(oneF (zs[P] :: zs.drop (P + 1))).1] else []⟩ :: allF f' ((P : Int) + (oneF (zs[P] :: zs.drop (P + 1))).2.1) ((zs[P] :: zs.drop (P + 1)).drop (oneF (zs[P] :: zs.drop (P + 1))).2.1.toNat) := rfl
  rw [e0, ← hd, ho] at h
  simp only at h
  injection h with h1 h2
  refine ⟨s, n, e, f', hP, ho, h1, hn.1, by omega, hn.2.2.1, hn.2.2.2, fun he => by have := hs he; omega, by omega, ?_⟩
  rw [h2, List.drop_drop, show (((P + n.toNat : Nat)) : Int) = P + n from by omega]

end Go.Proofs.YtncpokioagpclaaGreatDoor
namespace Go.Proofs.YtncpokioagpclaaGreatDoor
set_option linter.unusedVariables false
open Go.RowKit

theorem allF_cons (f : Nat) (p z : Int) (zs : List Int) : allF (f + 1) p (z :: zs) = ⟨p, (oneF (z :: zs)).2.1, (oneF (z :: zs)).2.2, if (oneF (z :: zs)).2.2 = 0 then [(oneF (z :: zs)).1] else []⟩ :: allF f (p + (oneF (z :: zs)).2.1) ((z :: zs).drop (oneF (z :: zs)).2.1.toNat) := rfl
def shT (d : Int) (t : Tok) : Tok := ⟨t.pos + d, t.size, t.err, t.out⟩
theorem allF_shift (d : Int) : ∀ (f : Nat) (p : Int) (zs : List Int), allF f (p + d) zs = (allF f p zs).map (shT d)
  | 0, p, zs => rfl
  | f + 1, p, [] => rfl
  | f + 1, p, z :: zs => by
    rw [allF_cons, allF_cons, List.map_cons, ← allF_shift d f]
    rw [show p + d + (oneF (z :: zs)).2.1 = p + (oneF (z :: zs)).2.1 + d from by omega]
    rfl

theorem allF_len : ∀ (f : Nat) (p : Int) (zs : List Int), (allF f p zs).length ≤ zs.length
  | 0, p, zs => by simp [allF]
  | f + 1, p, [] => by simp [allF]
  | f + 1, p, z :: zs => by
    have hn := oneF_n z zs
    have := allF_len f (p + (oneF (z :: zs)).2.1) ((z :: zs).drop (oneF (z :: zs)).2.1.toNat)
    rw [allF_cons]
    simp only [List.length_drop, List.length_cons] at this ⊢
    omega
end Go.Proofs.YtncpokioagpclaaGreatDoor
namespace Go.Proofs.YtncpokioagpclaaGreatDoor
set_option linter.unusedVariables false
open Go.RowKit

/-- the tokens ahead of what is short -/
def knownF : Nat → Int → List Int → List Tok
  | 0, _, _ => []
  | _ + 1, _, [] => []
  | f + 1, p, z :: zs => if (oneF (z :: zs)).2.2 = 2 then [] else ⟨p, (oneF (z :: zs)).2.1, (oneF (z :: zs)).2.2, if (oneF (z :: zs)).2.2 = 0 then [(oneF (z :: zs)).1] else []⟩ :: knownF f (p + (oneF (z :: zs)).2.1) ((z :: zs).drop (oneF (z :: zs)).2.1.toNat)
/-- the bytes that are short -/
def heldF : Nat → List Int → List Int
  | 0, _ => []
  | _ + 1, [] => []
  | f + 1, z :: zs => if (oneF (z :: zs)).2.2 = 2 then z :: zs else heldF f ((z :: zs).drop (oneF (z :: zs)).2.1.toNat)

theorem knownF_cons (f : Nat) (p z : Int) (zs : List Int) : knownF (f + 1) p (z :: zs) = if (oneF (z :: zs)).2.2 = 2 then [] else ⟨p, (oneF (z :: zs)).2.1, (oneF (z :: zs)).2.2, if (oneF (z :: zs)).2.2 = 0 then [(oneF (z :: zs)).1] else []⟩ :: knownF f (p + (oneF (z :: zs)).2.1) ((z :: zs).drop (oneF (z :: zs)).2.1.toNat) := rfl
theorem heldF_cons (f : Nat) (z : Int) (zs : List Int) : heldF (f + 1) (z :: zs) = if (oneF (z :: zs)).2.2 = 2 then z :: zs else heldF f ((z :: zs).drop (oneF (z :: zs)).2.1.toNat) := rfl
theorem knownF_nil (f : Nat) (p : Int) : knownF f p [] = [] := by cases f <;> rfl
theorem heldF_nil (f : Nat) : heldF f [] = [] := by cases f <;> rfl

theorem knownF_fuel : ∀ (f g : Nat) (p : Int) (zs : List Int), zs.length ≤ f → zs.length ≤ g → knownF f p zs = knownF g p zs ∧ heldF f zs = heldF g zs
  | f, g, p, [], _, _ => by rw [knownF_nil, knownF_nil, heldF_nil, heldF_nil]; exact ⟨rfl, rfl⟩
  | 0, g, p, z :: zs, h, _ => by simp at h
  | f + 1, 0, p, z :: zs, _, h => by simp at h
  | f + 1, g + 1, p, z :: zs, h, h' => by
    have hn := oneF_n z zs
    have ih := knownF_fuel f g (p + (oneF (z :: zs)).2.1) ((z :: zs).drop (oneF (z :: zs)).2.1.toNat) (by simp only [List.length_drop, List.length_cons] at h ⊢; omega) (by simp only [List.length_drop, List.length_cons] at h' ⊢; omega)
    rw [knownF_cons, knownF_cons, heldF_cons, heldF_cons, ih.1, ih.2]
    exact ⟨rfl, rfl⟩

theorem contF_short_len : ∀ (need : Nat) (r : List Int) (k s lo hi : Int), (contF need r k s lo hi).2.2 = 2 → r.length < need
  | 0, r, k, s, lo, hi, h => by cases h
  | n + 1, [], k, s, lo, hi, h => by simp
  | n + 1, c :: r, k, s, lo, hi, h => by
    have e : contF (n + 1) (c :: r) k s lo hi = if c < lo ∨ hi < c then (0, k, 1) else contF n r (k + 1) (s * 64 + c % 64) 128 191 := rfl
    rw [e] at h
    by_cases hb : c < lo ∨ hi < c
    · rw [if_pos hb] at h; cases h
    · rw [if_neg hb] at h
      have := contF_short_len n r _ _ _ _ h
      simp only [List.length_cons]; omega
theorem leadF_le (z : Int) : (leadF z).1 ≤ 4 := by unfold leadF; (repeat' split) <;> decide
theorem oneF_short_len (z : Int) (zs : List Int) (h : (oneF (z :: zs)).2.2 = 2) : zs.length + 1 ≤ 3 := by
  have e : oneF (z :: zs) = if (leadF z).1 = 0 then (0, 1, 1) else if (leadF z).1 = 1 then (z, 1, 0) else contF ((leadF z).1.toNat - 1) zs 1 (z % (if (leadF z).1 = 2 then 32 else if (leadF z).1 = 3 then 16 else 8)) (leadF z).2.1 (leadF z).2.2 := rfl
  rw [e] at h
  have hl := leadF_le z
  by_cases h1 : (leadF z).1 = 0
  · rw [if_pos h1] at h; cases h
  · rw [if_neg h1] at h
    by_cases h2 : (leadF z).1 = 1
    · rw [if_pos h2] at h; cases h
    · rw [if_neg h2] at h
      have := contF_short_len _ _ _ _ _ _ h
      omega
theorem heldF_len : ∀ (f : Nat) (zs : List Int), (heldF f zs).length ≤ 3 ∧ (heldF f zs).length ≤ zs.length
  | 0, zs => by simp [heldF]
  | f + 1, [] => by simp [heldF]
  | f + 1, z :: zs => by
    rw [heldF_cons]
    split
    · rename_i h; have := oneF_short_len z zs h; simp only [List.length_cons]; omega
    · have := heldF_len f ((z :: zs).drop (oneF (z :: zs)).2.1.toNat)
      simp only [List.length_drop] at this; omega
theorem heldF_mem : ∀ (f : Nat) (zs : List Int), ∀ z ∈ heldF f zs, z ∈ zs
  | 0, zs, z, h => by simp [heldF] at h
  | f + 1, [], z, h => by simp [heldF] at h
  | f + 1, y :: zs, z, h => by
    rw [heldF_cons] at h
    split at h
    · exact h
    · exact List.mem_of_mem_drop (heldF_mem f _ z h)
theorem heldF_held : ∀ (f g : Nat) (zs : List Int), zs.length ≤ f → (heldF f zs).length ≤ g → heldF g (heldF f zs) = heldF f zs ∧ ∀ p, knownF g p (heldF f zs) = []
  | f, g, [], _, _ => by rw [heldF_nil, heldF_nil]; exact ⟨rfl, fun p => knownF_nil g p⟩
  | 0, g, z :: zs, h, _ => by simp at h
  | f + 1, g, z :: zs, h, hg => by
    have hn := oneF_n z zs
    rw [heldF_cons] at hg ⊢
    by_cases he : (oneF (z :: zs)).2.2 = 2
    · rw [if_pos he] at hg ⊢
      obtain ⟨g', rfl⟩ : ∃ g', g = g' + 1 := ⟨g - 1, by simp at hg; omega⟩
      rw [heldF_cons, if_pos he]
      exact ⟨rfl, fun p => by rw [knownF_cons, if_pos he]⟩
    · rw [if_neg he] at hg ⊢
      simp only [List.length_cons] at h
      exact heldF_held f g _ (by simp only [List.length_drop, List.length_cons]; omega) hg

/-- what is known, and what waits, of bytes that begin at p -/
def KN (p : Int) (zs : List Int) : List Tok := knownF zs.length p zs
def HD (zs : List Int) : List Int := heldF zs.length zs
theorem HD_len (zs : List Int) : (HD zs).length ≤ 3 ∧ (HD zs).length ≤ zs.length := heldF_len _ _
theorem HD_HD (zs : List Int) : HD (HD zs) = HD zs := (heldF_held zs.length _ zs (Nat.le_refl _) (Nat.le_refl _)).1
theorem knownF_out : ∀ (f : Nat) (p : Int) (zs : List Int), ∀ t ∈ knownF f p zs, t.out.length ≤ 1 ∧ p ≤ t.pos ∧ t.pos ≤ p + zs.length
  | 0, p, zs, t, h => by simp [knownF] at h
  | f + 1, p, [], t, h => by simp [knownF] at h
  | f + 1, p, z :: zs, t, h => by
    have hn := oneF_n z zs
    rw [knownF_cons] at h
    by_cases he : (oneF (z :: zs)).2.2 = 2
    · rw [if_pos he] at h; cases h
    · rw [if_neg he] at h
      rcases List.mem_cons.1 h with rfl | h
      · refine ⟨?_, ?_, ?_⟩
        · simp only; split <;> simp
        · simp
        · simp only; omega
      · have := knownF_out f _ _ t h
        simp only [List.length_drop, List.length_cons] at this ⊢
        omega
theorem knownF_len : ∀ (f : Nat) (p : Int) (zs : List Int), (knownF f p zs).length ≤ zs.length
  | 0, p, zs => by simp [knownF]
  | f + 1, p, [] => by simp [knownF]
  | f + 1, p, z :: zs => by
    have hn := oneF_n z zs
    have := knownF_len f (p + (oneF (z :: zs)).2.1) ((z :: zs).drop (oneF (z :: zs)).2.1.toNat)
    rw [knownF_cons]
    split
    · simp
    · simp only [List.length_drop, List.length_cons] at this ⊢; omega
theorem known_short {f P : Nat} {zs : List Int} {s n : Int} (hP : P < zs.length) (hf : zs.length - P ≤ f) (ho : oneF (zs.drop P) = (s, n, 2)) : (∀ p, knownF f p (zs.drop P) = []) ∧ heldF f (zs.drop P) = zs.drop P := by
  obtain ⟨g, rfl⟩ : ∃ g, f = g + 1 := ⟨f - 1, by omega⟩
  have hd := List.drop_eq_getElem_cons hP
  rw [hd] at ho ⊢
  exact ⟨fun p => by rw [knownF_cons, ho, if_pos rfl], by rw [heldF_cons, ho, if_pos rfl]⟩
theorem known_step {f P : Nat} {zs : List Int} {s n e p : Int} (hP : P < zs.length) (hf : zs.length - P ≤ f) (ho : oneF (zs.drop P) = (s, n, e)) (he : e ≠ 2) (g : Nat) (hg : zs.length - (P + n.toNat) ≤ g) :
    knownF f p (zs.drop P) = ⟨p, n, e, if e = 0 then [s] else []⟩ :: knownF g (p + n) (zs.drop (P + n.toNat)) ∧ heldF f (zs.drop P) = heldF g (zs.drop (P + n.toNat)) := by
  obtain ⟨k, rfl⟩ : ∃ g, f = g + 1 := ⟨f - 1, by omega⟩
  have hn := oneF_n zs[P] (zs.drop (P + 1))
  have hd := List.drop_eq_getElem_cons hP
  rw [← hd, ho] at hn
  simp only at hn
  have hk := knownF_fuel k g (p + n) (zs.drop (P + n.toNat)) (by simp only [List.length_drop]; omega) (by simp only [List.length_drop]; exact hg)
  rw [← hk.1, ← hk.2, ← List.drop_drop, hd, knownF_cons, heldF_cons, ← hd, ho, if_neg he, if_neg he]
  exact ⟨rfl, rfl⟩
end Go.Proofs.YtncpokioagpclaaGreatDoor
namespace Go.Proofs.YtncpokioagpclaaGreatDoor
set_option linter.unusedVariables false
open Go.RowKit

end Go.Proofs.YtncpokioagpclaaGreatDoor
namespace Go.Proofs.YtncpokioagpclaaGreatDoor
set_option linter.unusedVariables false
open Go.RowKit

end Go.Proofs.YtncpokioagpclaaGreatDoor
namespace Go.Proofs.YtncpokioagpclaaGreatDoor
set_option linter.unusedVariables false
open Go.RowKit

end Go.Proofs.YtncpokioagpclaaGreatDoor
namespace Go.Proofs.YtncpokioagpclaaGreatDoor
set_option linter.unusedVariables false
set_option linter.unusedSimpArgs false
/-- a token, as higher layers have it -/
def tkT (t : Tok) : Tk := ⟨t.pos, t.size, t.out, t.err⟩
/-- bytes, read -/
def utA (zs : List Int) : List Tk := (allF zs.length 0 zs).map tkT
/-- scalars, written: the first one at n -/
def utE (n : Int) : List Int → List Tk
  | [] => []
  | s :: ss => ⟨n, 1, if scB s = true then encL s else [], if scB s = true then 0 else 3⟩ :: utE (n + 1) ss
theorem utE_len (n : Int) : ∀ ss : List Int, (utE n ss).length = ss.length
  | [] => rfl
  | s :: ss => by simp only [utE, List.length_cons, utE_len (n + 1) ss]
theorem utE_small (n : Int) : ∀ ss : List Int, ∀ t ∈ utE n ss, t.out.length ≤ 4
  | [], t, h => by simp [utE] at h
  | s :: ss, t, h => by
    simp only [utE] at h
    rcases List.mem_cons.1 h with rfl | h
    · show (if scB s = true then encL s else []).length ≤ 4
      split
      · unfold encL; (repeat' split) <;> simp
      · simp
    · exact utE_small (n + 1) ss t h
end Go.Proofs.YtncpokioagpclaaGreatDoor
namespace Go.Proofs.YtncpokioagpclaaGreatDoor
set_option linter.unusedVariables false
set_option linter.unusedSimpArgs false
set_option linter.unnecessarySimpa false
open Go.RowKit
theorem rd_tk {w : World} {B : Nat} {A : Option Addr} {zs : List Int} (k : Nat) (h : Rd w B A (zs.map (Value.int .i64))) : Rd w B A ((zs.take k).map (Value.int .i64)) := by
  have := h.take k; rw [← List.map_take] at this; exact this
end Go.Proofs.YtncpokioagpclaaGreatDoor
namespace Go.Proofs.YtncpokioagpclaaGreatDoor
set_option linter.unusedVariables false
open Go.RowKit
theorem long_next {rs : List Rl} {K : Nat} {v N M : Int} (h : longFrom N (rs.drop K) = v) (hK : K < rs.length) (hm : (if N < rs[K].1.length then (rs[K].1.length : Int) else N) = M) : longFrom M (rs.drop (K + 1)) = v := by
  rw [List.drop_eq_getElem_cons hK] at h
  simp only [longFrom] at h
  rw [hm] at h
  exact h
theorem long_end {rs : List Rl} {K : Nat} {v N : Int} (h : longFrom N (rs.drop K) = v) (hK : rs.length ≤ K) : v = N := by
  rw [List.drop_of_length_le hK] at h
  exact h.symm

set_option maxHeartbeats 800000 in
theorem longest_any (n : Nat) (A : Option Addr) (c : Nat) (rs : List Rl) (B : Nat) (w : World) (hr : RsAt w B A n c rs) (hB : B ≤ w.heap.size) (v : Int) (hv : longR rs = v) :
    Calls Tryz.prog 21 #[.slice A n c] w fun e w' => e = .returned (.int .i64 v) ∧ Below w.heap.size w w' := by
  have HR := Lib.hid hr
  have HV := Lib.hid hv
  have hn1 := hr.fits
  have hn2 := hr.small
  unfold maxLen at hn2
  clear hr hv
  go_enter Tryz.func21, Tryz.ntmps21
  go_wp2
  go_loopw [3, 8] (fun m i wr => ∃ (K : Nat) (N : Int), K ≤ n ∧ i = .int .i64 K ∧ m = .int .i64 N ∧ Below w.heap.size w wr ∧ Hid (longFrom N (rs.drop K) = v)) (fun _ i _ => n - (intOf i).toNat)
  case atStart => exact ⟨0, 0, by omega, rfl, rfl, Below.refl _ _, HV.out⟩
  case round =>
    obtain ⟨K, N, hK, rfl, rfl, hb, hf⟩ := hrel
    by_cases hKn : K = n
    · have hK' : ¬ K < n := by omega
      have HE := Lib.hid (long_end hf.out (by rw [← HR.out.len, hKn]; omega))
      clear hKn
      go_wp2
      go_ret
      exact ⟨ret_int HE.out, hb⟩
    have hK' : K < n := by omega
    have hK1 : K < rs.length := by rw [← HR.out.len]; exact hK'
    obtain ⟨b, o, rfl, hbB, A1, n1, c1, A2, n2, c2, g1, g2, e1, e2, e3, e4, f1, f2, f3, f4⟩ := HR.out.at hK1
    have k1 := (hb.cell (p := ⟨b, o + K * 2, none⟩) (by show b < _; omega)).trans g1
    have k2 := (hb.cell (p := ⟨b, o + K * 2 + 1, none⟩) (by show b < _; omega)).trans g2
    have k3 : (0 : Int) ≤ K := by omega
    have k4 : (K : Int) < n := by omega
    have HL := Lib.hid (long_next (M := if N < n1 then (n1 : Int) else N) hf.out hK1 (by rw [e1]))
    unfold maxLen at e3 f3
    clear g1 g2 e1 e4 f1 f4 hf
    by_cases hlt : N < n1
    · rw [if_pos hlt] at HL
      go_wp2
      go_roundw
      case rel => exact ⟨K + 1, _, by omega, by go_num, rfl, hb.trans (((Below.refl _ _).alloc (Nat.le_refl _) _).mono hb.size), HL⟩
      case measure => simp [intOf]; omega
    · rw [if_neg hlt] at HL
      go_wp2
      go_roundw
      case rel => exact ⟨K + 1, _, by omega, by go_num, rfl, hb.trans (((Below.refl _ _).alloc (Nat.le_refl _) _).mono hb.size), HL⟩
      case measure => simp [intOf]; omega
end Go.Proofs.YtncpokioagpclaaGreatDoor
namespace Go.Proofs.YtncpokioagpclaaGreatDoor
set_option linter.unusedVariables false
open Go.RowKit
theorem turn_skip {rs acc ts : List Rl} {K : Nat} (h : turnFrom acc (rs.drop K) = ts) (hK : K < rs.length) (hf : 0 ≤ findR acc rs[K].2) : turnFrom acc (rs.drop (K + 1)) = ts := by
  rw [List.drop_eq_getElem_cons hK] at h
  simp only [turnFrom, if_pos hf] at h
  exact h
theorem turn_take {rs acc ts : List Rl} {K : Nat} (h : turnFrom acc (rs.drop K) = ts) (hK : K < rs.length) (hf : ¬ 0 ≤ findR acc rs[K].2) : turnFrom (acc ++ [(rs[K].2, rs[K].1)]) (rs.drop (K + 1)) = ts := by
  rw [List.drop_eq_getElem_cons hK] at h
  simp only [turnFrom, if_neg hf] at h
  exact h
theorem turn_end {rs acc ts : List Rl} {K : Nat} (h : turnFrom acc (rs.drop K) = ts) (hK : rs.length ≤ K) : ts = acc := by
  rw [List.drop_of_length_le hK] at h
  exact h.symm

set_option maxHeartbeats 1600000 in
set_option maxRecDepth 100000 in
theorem turn_any (n : Nat) (A : Option Addr) (c : Nat) (rs : List Rl) (B : Nat) (w : World) (hr : RsAt w B A n c rs) (hB : B ≤ w.heap.size) (hn : n ≤ 1048576) (hl : ∀ r ∈ rs, r.1.length ≤ 17592186044416 ∧ r.2.length ≤ 17592186044416) (ts : List Rl) (ht : turnR rs = ts) :
    Calls Tryz.prog 22 #[.slice A n c] w fun e w' => ∃ v, e = .returned v ∧ OwnRs w.heap.size w' v ts ∧ Below w.heap.size w w' := by
  obtain ⟨i0, hi, hz0, hz1, hz2⟩ := info_parts inforl
  have HR := Lib.hid hr
  have HT := Lib.hid ht
  have HL := Lib.hid hl
  have hn1 := hr.fits
  have hn2 := hr.small
  unfold maxLen at hn2
  clear hr ht hl
  go_enter Tryz.func22, Tryz.ntmps22
  go_wp2
  go_loopw [3, 8] (fun v i wr => ∃ (K : Nat) (acc : List Rl), K ≤ n ∧ i = .int .i64 K ∧ Hid (OwnRs w.heap.size wr v acc) ∧ acc.length ≤ K ∧ Below w.heap.size w wr ∧ Hid (turnFrom acc (rs.drop K) = ts)) (fun _ i _ => n - (intOf i).toNat)
  case atStart => exact ⟨0, [], by omega, rfl, OwnRs.nil _ _, by simp, Below.refl _ _, HT.out⟩
  case round =>
    obtain ⟨K, acc, hK, rfl, ho, hacc, hb, hf⟩ := hrel
    by_cases hKn : K = n
    · have hK' : ¬ K < n := by omega
      have HE := Lib.hid (turn_end hf.out (by rw [← HR.out.len, hKn]; omega))
      clear hKn
      go_wp2
      go_ret
      exact ⟨_, rfl, by rw [HE.out]; exact ho.out, hb⟩
    have hK' : K < n := by omega
    have hK1 : K < rs.length := by rw [← HR.out.len]; exact hK'
    have hlK := HL.out _ (List.getElem_mem hK1)
    obtain ⟨b, o, rfl, hbB, A1, n1, c1, A2, n2, c2, g1, g2, e1, e2, e3, e4, f1, f2, f3, f4⟩ := HR.out.at hK1
    have k1 := (hb.cell (p := ⟨b, o + K * 2, none⟩) (by show b < _; omega)).trans g1
    have k2 := (hb.cell (p := ⟨b, o + K * 2 + 1, none⟩) (by show b < _; omega)).trans g2
    have k3 : (0 : Int) ≤ K := by omega
    have k4 : (K : Int) < n := by omega
    have hl1 : n1 ≤ 17592186044416 := by rw [e1]; exact hlK.1
    have hl2 : n2 ≤ 17592186044416 := by rw [f1]; exact hlK.2
    have E1 := Lib.hid e1
    have F1 := Lib.hid f1
    have E4 := Lib.hid (e4.below (hb.mono hB) (Nat.le_refl _))
    have F4 := Lib.hid (f4.below (hb.mono hB) (Nat.le_refl _))
    obtain ⟨A3, c3, rfl, hat⟩ := ho.out.form
    have HAT := Lib.hid hat
    have hat2 := hat.fits
    have hat3 := hat.small
    unfold maxLen at hat3
    clear g1 g2 e1 e4 f1 f4 hat hlK
    have hfe := findR_lo acc rs[K].2
    obtain ⟨fd, hfd⟩ : ∃ fd, findR acc rs[K].2 = fd := ⟨_, rfl⟩
    rw [hfd] at hfe
    have HFD := Lib.hid hfd
    clear hfd
    go_wp2_with fail
    refine (find_any _ _ A3 A2 c3 c2 acc rs[K].2 wr.heap.size B _ (HAT.out.below ((Below.refl _ _).alloc (Nat.le_refl _) _) (Nat.le_refl _)) F1.out (F4.out.below (((Below.refl _ _).alloc (Nat.le_refl _) _).mono (Nat.le_trans hB hb.size)) (Nat.le_refl _)) f2 f3 (by simp) (by have := hb.size; simp; omega) fd HFD.out).mono ?_
    rintro e w1 ⟨rfl, hb1⟩
    have hbl : Below wr.heap.size wr w1 := ((Below.refl _ _).alloc (Nat.le_refl _) _).trans (hb1.mono (by simp))
    have hzg : wr.heap.size < w1.heap.size := by have := hb1.size; simp at this; omega
    have q0 : w1.cell? ⟨wr.heap.size, 0, none⟩ = some (.slice A1 n1 c1) := by rw [hb1.cell (p := ⟨wr.heap.size, 0, none⟩) (by simp)]; exact World.cell?_alloc_new (w := wr) _ _ 0
    have q1 : w1.cell? ⟨wr.heap.size, 1, none⟩ = some (.slice A2 n2 c2) := by rw [hb1.cell (p := ⟨wr.heap.size, 1, none⟩) (by simp)]; exact World.cell?_alloc_new (w := wr) _ _ 1
    by_cases hfd0 : 0 ≤ fd
    · have HE := Lib.hid (turn_skip hf.out hK1 (by rw [HFD.out]; exact hfd0))
      go_wp2
      go_roundw
      case rel => exact ⟨K + 1, acc, by omega, by go_num, ho.out.below hbl (Nat.le_refl _), by omega, hb.trans (hbl.mono hb.size), HE⟩
      case measure => simp [intOf]; omega
    · have HE := Lib.hid (turn_take hf.out hK1 (by rw [HFD.out]; exact hfd0))
      go_wp2_with fail
      have hs1 := hb.size
      have hs2 := hbl.size
      have E5 := Lib.hid (E4.out.below (hbl.mono (Nat.le_trans hB hb.size)) (Nat.le_refl _))
      have F5 := Lib.hid (F4.out.below (hbl.mono (Nat.le_trans hB hb.size)) (Nat.le_refl _))
      have O1 := Lib.hid (ho.out.below hbl (Nat.le_refl _))
      obtain ⟨g, hg⟩ : ∃ g, g = wr.heap.size := ⟨_, rfl⟩
      have ho3 : (Value.slice A3 acc.length c3).ownBlock ≠ some g := by
        obtain ⟨xs, ho1, _⟩ := ho.out
        intro hx; have := own_lt ho1 hx; omega
      have HO3 := Lib.hid ho3
      have HG := Lib.hid hg
      rw [← hg] at q0 q1 hzg ⊢
      clear hg ho3
      refine wp_region_mixe (G := SameB g) [(0, false), (1, false), (2, false), (4, false), (5, false), (3, true), (6, true), (7, false), (8, true), (9, true), (10, false)]
        (SameB.refl _) (SameB.trans _) (by kernel_rfl) rfl (by kernel_rfl) (by kernel_rfl) ?_
      iterate 2 (refine mixe_one rfl rfl ?_; go_big_quiet_step ((intro _; rfl)); refine wpQuiet_nil ?_)
      refine mixe_one rfl rfl ?_
      go_big_quiet_step ((intro hh; rw [hh.cell, World.cell?_drew, q1]; exact ⟨rfl, rfl⟩))
      refine wpQuiet_nil ?_
      refine mixe_one rfl rfl ?_
      go_big_quiet_step ((intro _; rfl))
      refine wpQuiet_nil ?_
      refine mixe_one rfl rfl ?_
      go_big_quiet_step ((intro hh; rw [hh.cell, World.cell?_drew, q0]; exact ⟨rfl, rfl⟩))
      refine wpQuiet_nil ?_
      refine mixe_call rfl ?_
      go_wp2_with fail
      refine (clone_any n2 A2 c2 rs[K].2 B _ F1.out (Rd.drew F5.out) (by show B ≤ w1.heap.size; omega) hl2).mono ?_
      rintro e w2 ⟨A4, c4, rfl, hu4, hb2⟩
      have HU4 := Lib.hid hu4
      have hb2' : Below w1.heap.size w1 w2 := (Below.refl _ _).drew.trans hb2
      have hz2' : w1.heap.size ≤ w2.heap.size := hb2'.size
      clear hu4
      go_wp2_with fail
      refine ⟨SameB.of hb2 (by show g < w1.heap.size; omega), ?_⟩
      refine mixe_call rfl ?_
      go_wp2_with fail
      refine (clone_any n1 A1 c1 rs[K].1 B _ E1.out (E5.out.below (hb2'.mono (by omega)) (Nat.le_refl _)) (by omega) hl1).mono ?_
      rintro e w3 ⟨A5, c5, rfl, hu5, hb3⟩
      have HU5 := Lib.hid hu5
      have hz3 : w2.heap.size ≤ w3.heap.size := hb3.size
      clear hu5
      go_wp2_with fail
      refine ⟨SameB.of hb3 (by omega), ?_⟩
      refine mixe_one rfl rfl ?_
      go_big_quiet_step ((intro _; rfl))
      refine wpQuiet_nil ?_
      refine mixe_call rfl ?_
      go_wp2_with fail
      refine ⟨SameB.of ((Below.refl w3.heap.size w3).alloc (Nat.le_refl _) _) (by omega), ?_⟩
      refine mixe_call rfl ?_
      obtain ⟨W, hW⟩ : ∃ W, W = w3.alloc (.cells #[.slice A4 n2 c4, .slice A5 n1 c5] 104) := ⟨_, rfl⟩
      have hbW : Below w3.heap.size w3 W := by rw [hW]; exact (Below.refl _ _).alloc (Nat.le_refl _) _
      have hsW : W.heap.size = w3.heap.size + 1 := by rw [hW]; simp
      have hrW : Rd W (w3.heap.size + 1) (some ⟨w3.heap.size, 0, none⟩) [.slice A4 n2 c4, .slice A5 n1 c5] := by rw [hW]; exact Rd_new w3 _ _
      have hbWr : Below wr.heap.size wr W := hbl.trans (((hb2'.trans (hb3.mono hz2')).trans (hbW.mono (by omega))).mono hs2)
      obtain ⟨xs, hown, hx⟩ := ho.out.below hbWr (Nat.le_refl _)
      have HX := Lib.hid hx
      have hlow := own_low hown (Nat.le_refl _)
      have hoB : ∀ x, (Value.slice A3 acc.length c3).ownBlock = some x → x < w1.heap.size := by
        intro x hx
        obtain ⟨ys, h1, _⟩ := ho.out
        have := own_lt h1 hx; omega
      have HOB := Lib.hid hoB
      have HRW := Lib.hid hrW
      have HSW := Lib.hid hsW
      rw [← hW]
      have HW := Lib.hid hW
      clear hx hoB hW hrW hsW
      go_wp2_with (at_builtin; refine wpList_appB _ rfl _ _ 41 rfl w.heap.size 104 i0 _ 2 48 Tryz.underlying41 hi hz0 hz1 hz2 rfl (by decide) _ _ _ rfl hlow (w3.heap.size + 1) _ 1 1 [.slice A4 n2 c4, .slice A5 n1 c5] rfl rfl HRW.out ?c2 ?c3 ?c4 ?c5 ?_)
      case c2 => intro u hu; simp at hu; rcases hu with rfl | rfl <;> rfl
      case c3 => simp only [maxLen]; omega
      case c4 => omega
      case c5 => rw [HSW.out]; omega
      intro v' w4 hown4 hg4 hv4
      have hz4 := hg4.size
      have hsame : SameB g W w4 := SameB.grown hg4 (by rw [HSW.out]; omega) HO3.out
      have hpush : OwnRs w.heap.size w4 v' (acc ++ [(rs[K].2, rs[K].1)]) := by
        refine own_push (r := (rs[K].2, rs[K].1)) hown4 HX.out ?_ ?_ hg4 hv4
        · refine HU4.out.step (by rw [HSW.out]; omega) fun b hb hle => ⟨?_, ?_⟩
          · intro e; have := HOB.out _ e; have : w1.heap.size ≤ b := hle; omega
          · exact (hb3.trans (hbW.mono hz3)).block b hb
        · refine HU5.out.step (by rw [HSW.out]; omega) fun b hb hle => ⟨?_, ?_⟩
          · intro e; have := HOB.out _ e; have : w2.heap.size ≤ b := hle; omega
          · exact hbW.block b hb
      have HP := Lib.hid hpush
      have hbE : Below w.heap.size w w4 := below_own (hb.trans (hbWr.mono hs1)) hg4 hlow (Nat.le_refl _) (by rw [HSW.out]; omega)
      clear hown4 hpush
      go_wp2_with fail
      refine ⟨hsame, ?_⟩
      refine mixe_one rfl rfl ?_
      go_big_quiet_step ((intro _; rfl))
      refine wpQuiet_nil ?_
      refine NoPanic.normal ?_
      go_wp2
      exact ⟨⟨K + 1, _, by omega, by go_num, HP, by simp; omega, hbE, HE⟩, by simp [intOf]; omega⟩
end Go.Proofs.YtncpokioagpclaaGreatDoor
namespace Go.Proofs.YtncpokioagpclaaGreatDoor
set_option linter.unusedVariables false
open Go.RowKit

end Go.Proofs.YtncpokioagpclaaGreatDoor
