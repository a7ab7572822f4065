/- Texts of this seat, one behind the other: RuleH, Tok. -/
import Derived.Test.YtmenjcdmdmngcaaGreatDoorZ6
import Derived.Test.YtmenjcdmdmngcaaGreatDoorZ4
import Derived.Test.YtmenjcdmdmngcaaGreatDoorZ3
namespace Go.Proofs.YtmenjcdmdmngcaaGreatDoor
set_option linter.unusedVariables false
open Go.RowKit
/-- a slice of bytes -/
def Bs (X : Nat → Prop) (w : World) (v : Value) (zs : List Int) : Prop := ∃ A c, v = .slice A zs.length c ∧ zs.length ≤ c ∧ c ≤ maxLen ∧ Rdx X w A (zs.map (Value.int .u8)) ∧ ∀ z ∈ zs, 0 ≤ z ∧ z ≤ 255
theorem Bs.step {X Y : Nat → Prop} {w w' : World} {v : Value} {us : List Int} (h : Bs X w v us) (hs : w.heap.size ≤ w'.heap.size) (hk : ∀ b, b < w.heap.size → X b → Y b ∧ w'.heap[b]? = w.heap[b]?) : Bs Y w' v us := by
  obtain ⟨A, c, h1, h2, h3, h4, h5⟩ := h
  exact ⟨A, c, h1, h2, h3, h4.step hs hk, h5⟩
def Rws (X : Nat → Prop) (w : World) : List Value → List RowL → Prop
  | [], [] => True
  | a :: b :: o :: c :: d :: xs, r :: rs => Bs X w a r.inp ∧ Bs X w b r.out ∧ o = .bool r.odd ∧ Us X w c r.ain ∧ Us X w d r.aout ∧ Rws X w xs rs
  | _, _ => False
theorem Rws.step {X Y : Nat → Prop} {w w' : World} (hs : w.heap.size ≤ w'.heap.size) (hk : ∀ b, b < w.heap.size → X b → Y b ∧ w'.heap[b]? = w.heap[b]?) : ∀ {xs : List Value} {rs : List RowL}, Rws X w xs rs → Rws Y w' xs rs
  | [], [], _ => trivial
  | a :: b :: o :: c :: d :: xs, r :: rs, ⟨h1, h2, h3, h4, h5, h6⟩ => ⟨h1.step hs hk, h2.step hs hk, h3, h4.step hs hk, h5.step hs hk, Rws.step hs hk h6⟩
theorem Rws.length {X : Nat → Prop} {w : World} : ∀ {xs : List Value} {rs : List RowL}, Rws X w xs rs → xs.length = rs.length * 5
  | [], [], _ => rfl
  | a :: b :: o :: c :: d :: xs, r :: rs, ⟨_, _, _, _, _, h⟩ => by simp only [List.length_cons, Rws.length h]; omega
theorem Rws.at {X : Nat → Prop} {w : World} : ∀ {xs : List Value} {rs : List RowL} (h : Rws X w xs rs) (k : Nat) (hk : k < rs.length),
    ∃ a b c d, xs[k * 5]? = some a ∧ xs[k * 5 + 1]? = some b ∧ xs[k * 5 + 2]? = some (.bool rs[k].odd) ∧ xs[k * 5 + 3]? = some c ∧ xs[k * 5 + 4]? = some d ∧ Bs X w a rs[k].inp ∧ Bs X w b rs[k].out ∧ Us X w c rs[k].ain ∧ Us X w d rs[k].aout
  | a :: b :: o :: c :: d :: xs, r :: rs, ⟨h1, h2, h3, h4, h5, h6⟩, 0, _ => ⟨a, b, c, d, rfl, rfl, by rw [h3]; rfl, rfl, rfl, h1, h2, h4, h5⟩
  | a :: b :: o :: c :: d :: xs, r :: rs, ⟨h1, h2, h3, h4, h5, h6⟩, k + 1, hk => by
    obtain ⟨a', b', c', d', g1, g2, g3, g4, g5, g6, g7, g8, g9⟩ := Rws.at h6 k (by simpa using hk)
    have e : (k + 1) * 5 = k * 5 + 1 + 1 + 1 + 1 + 1 := by omega
    rw [e]
    exact ⟨a', b', c', d', g1, g2, g3, g4, g5, g6, g7, g8, g9⟩
  | [], [], _, k, hk => by cases hk
structure RwAt (w : World) (B : Nat) (A : Option Addr) (n c : Nat) (rs : List RowL) : Prop where
  len : n = rs.length
  fits : n ≤ c
  small : c ≤ maxLen
  lies : ∃ xs, Rd w B A xs ∧ Rws (· < B) w xs rs
theorem RwAt.below {w w' : World} {B B' : Nat} {A : Option Addr} {n c : Nat} {rs : List RowL} (h : RwAt w B A n c rs) (hb : Below B w w') (hB : B ≤ B') : RwAt w' B' A n c rs := by
  obtain ⟨h1, h2, h3, xs, h4, h5⟩ := h
  exact ⟨h1, h2, h3, xs, h4.below hb hB, h5.step hb.size fun b _ hl => ⟨Nat.lt_of_lt_of_le hl hB, hb.block b hl⟩⟩
theorem RwAt.at {w : World} {B : Nat} {A : Option Addr} {n c : Nat} {rs : List RowL} (h : RwAt w B A n c rs) {k : Nat} (hk : k < rs.length) :
    ∃ b off, A = some ⟨b, off, none⟩ ∧ b < B ∧ ∃ A1 c1 A2 c2 A3 c3 A4 c4, w.cell? ⟨b, off + k * 5, none⟩ = some (.slice A1 rs[k].inp.length c1) ∧ w.cell? ⟨b, off + k * 5 + 1, none⟩ = some (.slice A2 rs[k].out.length c2) ∧ w.cell? ⟨b, off + k * 5 + 2, none⟩ = some (.bool rs[k].odd) ∧
      w.cell? ⟨b, off + k * 5 + 3, none⟩ = some (.slice A3 rs[k].ain.length c3) ∧ w.cell? ⟨b, off + k * 5 + 4, none⟩ = some (.slice A4 rs[k].aout.length c4) ∧
      Bs (· < B) w (.slice A1 rs[k].inp.length c1) rs[k].inp ∧ Bs (· < B) w (.slice A2 rs[k].out.length c2) rs[k].out ∧ Us (· < B) w (.slice A3 rs[k].ain.length c3) rs[k].ain ∧ Us (· < B) w (.slice A4 rs[k].aout.length c4) rs[k].aout := by
  obtain ⟨h1, h2, h3, xs, h4, h5⟩ := h
  have hlen := Rws.length h5
  obtain ⟨a, b', c', d, g1, g2, g3, g4, g5, e1, e2, e3, e4⟩ := Rws.at h5 k hk
  obtain ⟨A1, c1, rfl, _⟩ := id e1
  obtain ⟨A2, c2, rfl, _⟩ := id e2
  obtain ⟨A3, c3, rfl, _⟩ := id e3
  obtain ⟨A4, c4, rfl, _⟩ := id e4
  rcases h4 with h | ⟨b, off, k1, k2, k3⟩
  · rw [h] at hlen; simp only [List.length_nil] at hlen; omega
  · refine ⟨b, off, k1, k2, A1, c1, A2, c2, A3, c3, A4, c4, (k3 _ (by omega)).trans g1, ?_, ?_, ?_, ?_, e1, e2, e3, e4⟩
    · rw [Nat.add_assoc]; exact (k3 _ (by omega)).trans g2
    · rw [Nat.add_assoc]; exact (k3 _ (by omega)).trans g3
    · rw [Nat.add_assoc]; exact (k3 _ (by omega)).trans g4
    · rw [Nat.add_assoc]; exact (k3 _ (by omega)).trans g5
theorem Us.rd {X : Nat → Prop} {w : World} {A : Option Addr} {n c : Nat} {us : List Int} (h : Us X w (.slice A n c) us) : n = us.length ∧ n ≤ c ∧ c ≤ maxLen ∧ Rdx X w A (us.map (Value.int .i64)) := by
  obtain ⟨A', c', e, h2, h3, h4⟩ := h
  injection e with e1 e2 e3
  subst e1 e2 e3
  exact ⟨rfl, h2, h3, h4⟩
theorem Bs.rd {X : Nat → Prop} {w : World} {A : Option Addr} {n c : Nat} {us : List Int} (h : Bs X w (.slice A n c) us) : n = us.length ∧ n ≤ c ∧ c ≤ maxLen ∧ Rdx X w A (us.map (Value.int .u8)) ∧ ∀ z ∈ us, 0 ≤ z ∧ z ≤ 255 := by
  obtain ⟨A', c', e, h2, h3, h4, h5⟩ := h
  injection e with e1 e2 e3
  subst e1 e2 e3
  exact ⟨rfl, h2, h3, h4, h5⟩
theorem us_at {w : World} {B n c : Nat} {A : Option Addr} {us : List Int} (hn : n = us.length) (hc : n ≤ c) (hm : c ≤ maxLen) (h : Rd w B A (us.map (Value.int .i64))) : Us (· < B) w (.slice A n c) us := by
  subst hn; exact ⟨A, c, rfl, hc, hm, h.rdx⟩
end Go.Proofs.YtmenjcdmdmngcaaGreatDoor
namespace Go.Proofs.YtmenjcdmdmngcaaGreatDoor
set_option linter.unusedVariables false
open Go.RowKit
/-- these cells are those of the tokens -/
def Tks (X : Nat → Prop) (w : World) : List Value → List Tk → Prop
  | [], [] => True
  | a :: b :: s :: e :: xs, t :: ts => a = .int .i64 t.pos ∧ b = .int .i64 t.size ∧ Us X w s t.out ∧ e = .int .i64 t.err ∧ Tks X w xs ts
  | _, _ => False
theorem Tks.step {X Y : Nat → Prop} {w w' : World} (hs : w.heap.size ≤ w'.heap.size) (hk : ∀ b, b < w.heap.size → X b → Y b ∧ w'.heap[b]? = w.heap[b]?) : ∀ {xs : List Value} {ts : List Tk}, Tks X w xs ts → Tks Y w' xs ts
  | [], [], _ => trivial
  | a :: b :: s :: e :: xs, t :: ts, ⟨h1, h2, h3, h4, h5⟩ => ⟨h1, h2, h3.step hs hk, h4, Tks.step hs hk h5⟩
theorem Tks.length {X : Nat → Prop} {w : World} : ∀ {xs : List Value} {ts : List Tk}, Tks X w xs ts → xs.length = ts.length * 4
  | [], [], _ => rfl
  | a :: b :: s :: e :: xs, t :: ts, ⟨_, _, _, _, h⟩ => by simp only [List.length_cons, Tks.length h]; omega
theorem Tks.app {X : Nat → Prop} {w : World} : ∀ {xs ys : List Value} {ts us : List Tk}, Tks X w xs ts → Tks X w ys us → Tks X w (xs ++ ys) (ts ++ us)
  | [], _, [], _, _, h => h
  | a :: b :: s :: e :: xs, _, t :: ts, _, ⟨h1, h2, h3, h4, h5⟩, h => ⟨h1, h2, h3, h4, Tks.app h5 h⟩
theorem Tks.one {X : Nat → Prop} {w : World} {s : Value} {p z e : Int} {o : List Int} (h : Us X w s o) : Tks X w [.int .i64 p, .int .i64 z, s, .int .i64 e] [⟨p, z, o, e⟩] := ⟨rfl, rfl, h, rfl, trivial⟩
theorem Tks.ones {X : Nat → Prop} {w : World} : ∀ {xs : List Value} {ts : List Tk}, Tks X w xs ts → ∀ u ∈ xs, u.oneCell' = true
  | [], [], _, u, hu => by cases hu
  | a :: b :: s :: e :: xs, t :: ts, ⟨h1, h2, h3, h4, h5⟩, u, hu => by
    simp only [List.mem_cons] at hu
    rcases hu with rfl | rfl | rfl | rfl | hu
    · rw [h1]; rfl
    · rw [h2]; rfl
    · exact h3.one
    · rw [h4]; rfl
    · exact Tks.ones h5 u hu
theorem Tks.at {X : Nat → Prop} {w : World} : ∀ {xs : List Value} {ts : List Tk} (h : Tks X w xs ts) (k : Nat) (hk : k < ts.length),
    ∃ s, xs[k * 4]? = some (.int .i64 ts[k].pos) ∧ xs[k * 4 + 1]? = some (.int .i64 ts[k].size) ∧ xs[k * 4 + 2]? = some s ∧ xs[k * 4 + 3]? = some (.int .i64 ts[k].err) ∧ Us X w s ts[k].out
  | a :: b :: s :: e :: xs, t :: ts, ⟨h1, h2, h3, h4, h5⟩, 0, _ => ⟨s, by rw [h1]; rfl, by rw [h2]; rfl, rfl, by rw [h4]; rfl, h3⟩
  | a :: b :: s :: e :: xs, t :: ts, ⟨h1, h2, h3, h4, h5⟩, k + 1, hk => by
    obtain ⟨s', g1, g2, g3, g4, g5⟩ := Tks.at h5 k (by simpa using hk)
    have e0 : (k + 1) * 4 = k * 4 + 1 + 1 + 1 + 1 := by omega
    rw [e0]
    exact ⟨s', g1, g2, g3, g4, by simpa using g5⟩
  | [], [], _, k, hk => by cases hk
theorem Tks.split {X : Nat → Prop} {w : World} : ∀ {xs : List Value} {ts us : List Tk}, Tks X w xs (ts ++ us) → Tks X w (xs.take (ts.length * 4)) ts ∧ Tks X w (xs.drop (ts.length * 4)) us
  | xs, [], us, h => by simp; exact ⟨trivial, h⟩
  | [], t :: ts, us, h => h.elim
  | [_], t :: ts, us, h => h.elim
  | [_, _], t :: ts, us, h => h.elim
  | [_, _, _], t :: ts, us, h => h.elim
  | a :: b :: s :: e :: xs, t :: ts, us, ⟨g1, g2, g3, g4, g5⟩ => by
    have ⟨h1, h2⟩ := Tks.split g5
    have e0 : (t :: ts).length * 4 = ts.length * 4 + 1 + 1 + 1 + 1 := by simp only [List.length_cons]; omega
    rw [e0]
    exact ⟨⟨g1, g2, g3, g4, h1⟩, h2⟩
theorem Tks.setPos {X : Nat → Prop} {w : World} {q : Int} : ∀ {xs : List Value} {ts : List Tk} (k : Nat) (t : Tk), ts[k]? = some t → Tks X w xs ts → Tks X w (xs.set (k * 4) (.int .i64 q)) (ts.set k ⟨q, t.size, t.out, t.err⟩)
  | [], [], k, t, h, _ => by simp at h
  | a :: b :: s :: e :: xs, t' :: ts, 0, t, h, ⟨g1, g2, g3, g4, g5⟩ => by
    obtain rfl : t' = t := by simpa using h
    exact ⟨rfl, g2, g3, g4, g5⟩
  | a :: b :: s :: e :: xs, t' :: ts, k + 1, t, h, ⟨g1, g2, g3, g4, g5⟩ => by
    have := Tks.setPos (q := q) k t (by simpa using h) g5
    have e0 : (k + 1) * 4 = k * 4 + 1 + 1 + 1 + 1 := by omega
    rw [e0]
    exact ⟨g1, g2, g3, g4, this⟩

/-- a slice of tokens, all below block B -/
structure TkAt (w : World) (B : Nat) (A : Option Addr) (n c : Nat) (ts : List Tk) : Prop where
  len : n = ts.length
  fits : n ≤ c
  small : c ≤ maxLen
  lies : ∃ xs, Rd w B A xs ∧ Tks (· < B) w xs ts
theorem TkAt.below {w w' : World} {B B' : Nat} {A : Option Addr} {n c : Nat} {ts : List Tk} (h : TkAt w B A n c ts) (hb : Below B w w') (hB : B ≤ B') : TkAt w' B' A n c ts := by
  obtain ⟨h1, h2, h3, xs, h4, h5⟩ := h
  exact ⟨h1, h2, h3, xs, h4.below hb hB, h5.step hb.size fun b _ hl => ⟨Nat.lt_of_lt_of_le hl hB, hb.block b hl⟩⟩
theorem TkAt.cut {w : World} {B : Nat} {A : Option Addr} {n c : Nat} {ts : List Tk} (h : TkAt w B A n c ts) (k : Nat) (hk : k ≤ n) : TkAt w B A k c (ts.take k) := by
  obtain ⟨h1, h2, h3, xs, h4, h5⟩ := h
  have hl : (ts.take k).length = k := by simp; omega
  rw [← List.take_append_drop k ts] at h5
  have h6 := h5.split.1
  rw [hl] at h6
  exact ⟨hl.symm, by omega, h3, xs.take (k * 4), h4.take _, h6⟩
/-- the cells of token k -/
theorem TkAt.at {w : World} {B : Nat} {A : Option Addr} {n c : Nat} {ts : List Tk} (h : TkAt w B A n c ts) {k : Nat} (hk : k < ts.length) :
    ∃ b off, A = some ⟨b, off, none⟩ ∧ b < B ∧ ∃ A1 n1 c1, w.cell? ⟨b, off + k * 4, none⟩ = some (.int .i64 ts[k].pos) ∧ w.cell? ⟨b, off + k * 4 + 1, none⟩ = some (.int .i64 ts[k].size) ∧ w.cell? ⟨b, off + k * 4 + 2, none⟩ = some (.slice A1 n1 c1) ∧ w.cell? ⟨b, off + k * 4 + 3, none⟩ = some (.int .i64 ts[k].err) ∧
      n1 = ts[k].out.length ∧ n1 ≤ c1 ∧ c1 ≤ maxLen ∧ Rd w B A1 (ts[k].out.map (Value.int .i64)) := by
  obtain ⟨h1, h2, h3, xs, h4, h5⟩ := h
  have hlen := Tks.length h5
  obtain ⟨s, g1, g2, g3, g4, A1, c1, rfl, e2, e3, e4⟩ := Tks.at h5 k hk
  rcases h4 with h | ⟨b, off, k1, k2, k3⟩
  · rw [h] at hlen; simp only [List.length_nil] at hlen; omega
  · refine ⟨b, off, k1, k2, A1, _, c1, (k3 _ (by omega)).trans g1, ?_, ?_, ?_, rfl, e2, e3, e4.rdB⟩
    · rw [Nat.add_assoc]; exact (k3 _ (by omega)).trans g2
    · rw [Nat.add_assoc]; exact (k3 _ (by omega)).trans g3
    · rw [Nat.add_assoc]; exact (k3 _ (by omega)).trans g4

/-- a row of tokens of the call's own, from block base on: their units lie elsewhere -/
def OwnTk (base : Nat) (w : World) (v : Value) (ts : List Tk) : Prop := ∃ xs, w.ownsRow base 47 4 v ts.length xs ∧ Tks (fun b => v.ownBlock ≠ some b) w xs ts
theorem OwnTk.nil (base : Nat) (w : World) : OwnTk base w (.slice none 0 0) [] := ⟨[], World.ownsRow_nil _ _ _ _, trivial⟩
theorem OwnTk.form {base : Nat} {w : World} {v : Value} {ts : List Tk} (h : OwnTk base w v ts) : ∃ A c, v = .slice A ts.length c ∧ TkAt w w.heap.size A ts.length c ts := by
  obtain ⟨xs, ho, hr⟩ := h
  obtain ⟨A, c, rfl, h1, h2⟩ := own_form ho
  exact ⟨A, c, rfl, rfl, h1, h2, xs, Rd.own ho, hr.step (Nat.le_refl _) fun b hl _ => ⟨hl, rfl⟩⟩
theorem OwnTk.below {base B : Nat} {w w' : World} {v : Value} {ts : List Tk} (h : OwnTk base w v ts) (hb : Below B w w') (hB : w.heap.size ≤ B) : OwnTk base w' v ts := by
  obtain ⟨xs, ho, hr⟩ := h
  exact ⟨xs, own_below ho hb hB, hr.step hb.size fun b hl hx => ⟨hx, hb.block b (by omega)⟩⟩
theorem OwnTk.drew {base : Nat} {w : World} {v : Value} {ts : List Tk} (h : OwnTk base w v ts) : OwnTk base w.drew v ts := by
  obtain ⟨xs, ho, hr⟩ := h
  exact ⟨xs, ho, hr.step (w := w) (w' := w.drew) (Nat.le_refl _) fun b _ hx => ⟨hx, rfl⟩⟩
theorem OwnTk.low {base base' : Nat} {w : World} {v : Value} {ts : List Tk} (h : OwnTk base w v ts) (hb : base' ≤ base) : OwnTk base' w v ts := by
  obtain ⟨xs, ho, hr⟩ := h
  exact ⟨xs, own_low ho hb, hr⟩
theorem Tks.grown {w w' : World} {v v' : Value} {xs : List Value} {ts : List Tk} (h : Tks (fun b => v.ownBlock ≠ some b) w xs ts) (hg : w.grownBy w' v.ownBlock) (hv : v'.ownBlock = v.ownBlock ∨ v'.ownBlock = some w.heap.size) : Tks (fun b => v'.ownBlock ≠ some b) w' xs ts :=
  h.step hg.size fun b hl hx => ⟨by
    rcases hv with e | e
    · rw [e]; exact hx
    · rw [e]; intro e'; injection e' with e'; omega, hg.block b hl (fun e => hx e.symm)⟩
/-- a token more: what it means lies in block X of the world ahead of the append -/
theorem tok_push {base : Nat} {w1 w2 : World} {v v' : Value} {ts : List Tk} {xs : List Value} {s : Value} {p z e : Int} {o : List Int} (ho : w2.ownsRow base 47 4 v' (ts.length + 1) (xs ++ [.int .i64 p, .int .i64 z, s, .int .i64 e])) (hx : Tks (fun b => v.ownBlock ≠ some b) w1 xs ts)
    (hs : Us (fun b => v.ownBlock ≠ some b) w1 s o) (hg : w1.grownBy w2 v.ownBlock) (hv : v'.ownBlock = v.ownBlock ∨ v'.ownBlock = some w1.heap.size) : OwnTk base w2 v' (ts ++ [⟨p, z, o, e⟩]) :=
  ⟨xs ++ [.int .i64 p, .int .i64 z, s, .int .i64 e], by simpa using ho, Tks.grown (hx.app (Tks.one hs)) hg hv⟩
theorem below_row {B g : Nat} {w0 w : World} (hb : Below B w0 w) (hBg : B ≤ g) (cs : Array Value) : Below B w0 (w.setRow g cs) :=
  ⟨hb.os, hb.tape, hb.output, by rw [setRow_size]; exact hb.size, fun k hk => (setRow_other w g k cs (by omega)).trans (hb.block k hk)⟩
theorem infotok : (Tryz.prog.info? 47).map (fun i => (i.zero, i.size, i.bytes)) = some (some (.agg #[.int .i64 0, .int .i64 0, .slice none 0 0, .int .i64 0]), 4, 48) := by kernel_rfl
end Go.Proofs.YtmenjcdmdmngcaaGreatDoor
