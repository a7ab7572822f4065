/- Texts of this seat, one behind the other: RuleH, Tok. -/
import Derived.Test.YtncpokioagpclaaGreatDoorZ6
import Derived.Test.YtncpokioagpclaaGreatDoorZ2
import Derived.Test.YtncpokioagpclaaGreatDoorZ4
namespace Go.Proofs.YtncpokioagpclaaGreatDoor
set_option linter.unusedVariables false
open Go.RowKit
theorem Us.rd {X : Nat → Prop} {w : World} {A : Option Addr} {n c : Nat} {us : List Int} (h : Us X w (.slice A n c) us) : n = us.length ∧ n ≤ c ∧ c ≤ maxLen ∧ Rdx X w A (us.map (Value.int .i64)) := by
  obtain ⟨A', c', e, h2, h3, h4⟩ := h
  injection e with e1 e2 e3
  subst e1 e2 e3
  exact ⟨rfl, h2, h3, h4⟩
end Go.Proofs.YtncpokioagpclaaGreatDoor
namespace Go.Proofs.YtncpokioagpclaaGreatDoor
set_option linter.unusedVariables false
open Go.RowKit
/-- these cells are those of the tokens -/
def Tks (X : Nat → Prop) (w : World) : List Value → List Tk → Prop
  | [], [] => True
  | a :: b :: s :: e :: xs, t :: ts => a = .int .i64 t.pos ∧ b = .int .i64 t.size ∧ Us X w s t.out ∧ e = .int .i64 t.err ∧ Tks X w xs ts
  | _, _ => False
theorem Tks.step {X Y : Nat → Prop} {w w' : World} (hs : w.heap.size ≤ w'.heap.size) (hk : ∀ b, b < w.heap.size → X b → Y b ∧ w'.heap[b]? = w.heap[b]?) : ∀ {xs : List Value} {ts : List Tk}, Tks X w xs ts → Tks Y w' xs ts
  | [], [], _ => trivial
  | a :: b :: s :: e :: xs, t :: ts, ⟨h1, h2, h3, h4, h5⟩ => ⟨h1, h2, h3.step hs hk, h4, Tks.step hs hk h5⟩
theorem Tks.length {X : Nat → Prop} {w : World} : ∀ {xs : List Value} {ts : List Tk}, Tks X w xs ts → xs.length = ts.length * 4
  | [], [], _ => rfl
  | a :: b :: s :: e :: xs, t :: ts, ⟨_, _, _, _, h⟩ => by simp only [List.length_cons, Tks.length h]; omega
theorem Tks.app {X : Nat → Prop} {w : World} : ∀ {xs ys : List Value} {ts us : List Tk}, Tks X w xs ts → Tks X w ys us → Tks X w (xs ++ ys) (ts ++ us)
  | [], _, [], _, _, h => h
  | a :: b :: s :: e :: xs, _, t :: ts, _, ⟨h1, h2, h3, h4, h5⟩, h => ⟨h1, h2, h3, h4, Tks.app h5 h⟩
theorem Tks.one {X : Nat → Prop} {w : World} {s : Value} {p z e : Int} {o : List Int} (h : Us X w s o) : Tks X w [.int .i64 p, .int .i64 z, s, .int .i64 e] [⟨p, z, o, e⟩] := ⟨rfl, rfl, h, rfl, trivial⟩
theorem Tks.at {X : Nat → Prop} {w : World} : ∀ {xs : List Value} {ts : List Tk} (h : Tks X w xs ts) (k : Nat) (hk : k < ts.length),
    ∃ s, xs[k * 4]? = some (.int .i64 ts[k].pos) ∧ xs[k * 4 + 1]? = some (.int .i64 ts[k].size) ∧ xs[k * 4 + 2]? = some s ∧ xs[k * 4 + 3]? = some (.int .i64 ts[k].err) ∧ Us X w s ts[k].out
  | a :: b :: s :: e :: xs, t :: ts, ⟨h1, h2, h3, h4, h5⟩, 0, _ => ⟨s, by rw [h1]; rfl, by rw [h2]; rfl, rfl, by rw [h4]; rfl, h3⟩
  | a :: b :: s :: e :: xs, t :: ts, ⟨h1, h2, h3, h4, h5⟩, k + 1, hk => by
    obtain ⟨s', g1, g2, g3, g4, g5⟩ := Tks.at h5 k (by simpa using hk)
    have e0 : (k + 1) * 4 = k * 4 + 1 + 1 + 1 + 1 := by omega
    rw [e0]
    exact ⟨s', g1, g2, g3, g4, by simpa using g5⟩
  | [], [], _, k, hk => by cases hk
/-- a slice of tokens, all below block B -/
structure TkAt (w : World) (B : Nat) (A : Option Addr) (n c : Nat) (ts : List Tk) : Prop where
  len : n = ts.length
  fits : n ≤ c
  small : c ≤ maxLen
  lies : ∃ xs, Rd w B A xs ∧ Tks (· < B) w xs ts
/-- a row of tokens of the call's own, from block base on: their units lie elsewhere -/
def OwnTk (base : Nat) (w : World) (v : Value) (ts : List Tk) : Prop := ∃ xs, w.ownsRow base 51 4 v ts.length xs ∧ Tks (fun b => v.ownBlock ≠ some b) w xs ts
theorem OwnTk.form {base : Nat} {w : World} {v : Value} {ts : List Tk} (h : OwnTk base w v ts) : ∃ A c, v = .slice A ts.length c ∧ TkAt w w.heap.size A ts.length c ts := by
  obtain ⟨xs, ho, hr⟩ := h
  obtain ⟨A, c, rfl, h1, h2⟩ := own_form ho
  exact ⟨A, c, rfl, rfl, h1, h2, xs, Rd.own ho, hr.step (Nat.le_refl _) fun b hl _ => ⟨hl, rfl⟩⟩
theorem below_row {B g : Nat} {w0 w : World} (hb : Below B w0 w) (hBg : B ≤ g) (cs : Array Value) : Below B w0 (w.setRow g cs) :=
  ⟨hb.os, hb.tape, hb.output, by rw [setRow_size]; exact hb.size, fun k hk => (setRow_other w g k cs (by omega)).trans (hb.block k hk)⟩
theorem infotok : (Tryz.prog.info? 51).map (fun i => (i.zero, i.size, i.bytes)) = some (some (.agg #[.int .i64 0, .int .i64 0, .slice none 0 0, .int .i64 0]), 4, 48) := by kernel_rfl
end Go.Proofs.YtncpokioagpclaaGreatDoor
