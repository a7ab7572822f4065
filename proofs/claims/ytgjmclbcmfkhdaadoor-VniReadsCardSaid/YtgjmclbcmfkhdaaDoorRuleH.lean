/- Layer 3: the law's rows, how they lie. -/
import Derived.Test.YtgjmclbcmfkhdaaDoorRuleF
import Derived.Test.YtgjmclbcmfkhdaaDoorFork
namespace Go.Proofs.YtgjmclbcmfkhdaaDoor
set_option linter.unusedVariables false
open Go.RowKit
/-- a slice of bytes -/
def Bs (X : Nat → Prop) (w : World) (v : Value) (zs : List Int) : Prop := ∃ A c, v = .slice A zs.length c ∧ zs.length ≤ c ∧ c ≤ maxLen ∧ Rdx X w A (zs.map (Value.int .u8)) ∧ ∀ z ∈ zs, 0 ≤ z ∧ z ≤ 255
theorem Bs.step {X Y : Nat → Prop} {w w' : World} {v : Value} {us : List Int} (h : Bs X w v us) (hs : w.heap.size ≤ w'.heap.size) (hk : ∀ b, b < w.heap.size → X b → Y b ∧ w'.heap[b]? = w.heap[b]?) : Bs Y w' v us := by
  obtain ⟨A, c, h1, h2, h3, h4, h5⟩ := h
  exact ⟨A, c, h1, h2, h3, h4.step hs hk, h5⟩
def Rws (X : Nat → Prop) (w : World) : List Value → List RowL → Prop
  | [], [] => True
  | a :: b :: o :: c :: d :: xs, r :: rs => Bs X w a r.inp ∧ Bs X w b r.out ∧ o = .bool r.odd ∧ Us X w c r.ain ∧ Us X w d r.aout ∧ Rws X w xs rs
  | _, _ => False
theorem Rws.step {X Y : Nat → Prop} {w w' : World} (hs : w.heap.size ≤ w'.heap.size) (hk : ∀ b, b < w.heap.size → X b → Y b ∧ w'.heap[b]? = w.heap[b]?) : ∀ {xs : List Value} {rs : List RowL}, Rws X w xs rs → Rws Y w' xs rs
  | [], [], _ => trivial
  | a :: b :: o :: c :: d :: xs, r :: rs, ⟨h1, h2, h3, h4, h5, h6⟩ => ⟨h1.step hs hk, h2.step hs hk, h3, h4.step hs hk, h5.step hs hk, Rws.step hs hk h6⟩
theorem Rws.length {X : Nat → Prop} {w : World} : ∀ {xs : List Value} {rs : List RowL}, Rws X w xs rs → xs.length = rs.length * 5
  | [], [], _ => rfl
  | a :: b :: o :: c :: d :: xs, r :: rs, ⟨_, _, _, _, _, h⟩ => by simp only [List.length_cons, Rws.length h]; omega
theorem Rws.at {X : Nat → Prop} {w : World} : ∀ {xs : List Value} {rs : List RowL} (h : Rws X w xs rs) (k : Nat) (hk : k < rs.length),
    ∃ a b c d, xs[k * 5]? = some a ∧ xs[k * 5 + 1]? = some b ∧ xs[k * 5 + 2]? = some (.bool rs[k].odd) ∧ xs[k * 5 + 3]? = some c ∧ xs[k * 5 + 4]? = some d ∧ Bs X w a rs[k].inp ∧ Bs X w b rs[k].out ∧ Us X w c rs[k].ain ∧ Us X w d rs[k].aout
  | a :: b :: o :: c :: d :: xs, r :: rs, ⟨h1, h2, h3, h4, h5, h6⟩, 0, _ => ⟨a, b, c, d, rfl, rfl, by rw [h3]; rfl, rfl, rfl, h1, h2, h4, h5⟩
  | a :: b :: o :: c :: d :: xs, r :: rs, ⟨h1, h2, h3, h4, h5, h6⟩, k + 1, hk => by
    obtain ⟨a', b', c', d', g1, g2, g3, g4, g5, g6, g7, g8, g9⟩ := Rws.at h6 k (by simpa using hk)
    have e : (k + 1) * 5 = k * 5 + 1 + 1 + 1 + 1 + 1 := by omega
    rw [e]
    exact ⟨a', b', c', d', g1, g2, g3, g4, g5, g6, g7, g8, g9⟩
  | [], [], _, k, hk => by cases hk
structure RwAt (w : World) (B : Nat) (A : Option Addr) (n c : Nat) (rs : List RowL) : Prop where
  len : n = rs.length
  fits : n ≤ c
  small : c ≤ maxLen
  lies : ∃ xs, Rd w B A xs ∧ Rws (· < B) w xs rs
theorem RwAt.below {w w' : World} {B B' : Nat} {A : Option Addr} {n c : Nat} {rs : List RowL} (h : RwAt w B A n c rs) (hb : Below B w w') (hB : B ≤ B') : RwAt w' B' A n c rs := by
  obtain ⟨h1, h2, h3, xs, h4, h5⟩ := h
  exact ⟨h1, h2, h3, xs, h4.below hb hB, h5.step hb.size fun b _ hl => ⟨Nat.lt_of_lt_of_le hl hB, hb.block b hl⟩⟩
theorem RwAt.at {w : World} {B : Nat} {A : Option Addr} {n c : Nat} {rs : List RowL} (h : RwAt w B A n c rs) {k : Nat} (hk : k < rs.length) :
    ∃ b off, A = some ⟨b, off, none⟩ ∧ b < B ∧ ∃ A1 c1 A2 c2 A3 c3 A4 c4, w.cell? ⟨b, off + k * 5, none⟩ = some (.slice A1 rs[k].inp.length c1) ∧ w.cell? ⟨b, off + k * 5 + 1, none⟩ = some (.slice A2 rs[k].out.length c2) ∧ w.cell? ⟨b, off + k * 5 + 2, none⟩ = some (.bool rs[k].odd) ∧
      w.cell? ⟨b, off + k * 5 + 3, none⟩ = some (.slice A3 rs[k].ain.length c3) ∧ w.cell? ⟨b, off + k * 5 + 4, none⟩ = some (.slice A4 rs[k].aout.length c4) ∧
      Bs (· < B) w (.slice A1 rs[k].inp.length c1) rs[k].inp ∧ Bs (· < B) w (.slice A2 rs[k].out.length c2) rs[k].out ∧ Us (· < B) w (.slice A3 rs[k].ain.length c3) rs[k].ain ∧ Us (· < B) w (.slice A4 rs[k].aout.length c4) rs[k].aout := by
  obtain ⟨h1, h2, h3, xs, h4, h5⟩ := h
  have hlen := Rws.length h5
  obtain ⟨a, b', c', d, g1, g2, g3, g4, g5, e1, e2, e3, e4⟩ := Rws.at h5 k hk
  obtain ⟨A1, c1, rfl, _⟩ := id e1
  obtain ⟨A2, c2, rfl, _⟩ := id e2
  obtain ⟨A3, c3, rfl, _⟩ := id e3
  obtain ⟨A4, c4, rfl, _⟩ := id e4
  rcases h4 with h | ⟨b, off, k1, k2, k3⟩
  · rw [h] at hlen; simp only [List.length_nil] at hlen; omega
  · refine ⟨b, off, k1, k2, A1, c1, A2, c2, A3, c3, A4, c4, (k3 _ (by omega)).trans g1, ?_, ?_, ?_, ?_, e1, e2, e3, e4⟩
    · rw [Nat.add_assoc]; exact (k3 _ (by omega)).trans g2
    · rw [Nat.add_assoc]; exact (k3 _ (by omega)).trans g3
    · rw [Nat.add_assoc]; exact (k3 _ (by omega)).trans g4
    · rw [Nat.add_assoc]; exact (k3 _ (by omega)).trans g5
theorem Us.rd {X : Nat → Prop} {w : World} {A : Option Addr} {n c : Nat} {us : List Int} (h : Us X w (.slice A n c) us) : n = us.length ∧ n ≤ c ∧ c ≤ maxLen ∧ Rdx X w A (us.map (Value.int .i64)) := by
  obtain ⟨A', c', e, h2, h3, h4⟩ := h
  injection e with e1 e2 e3
  subst e1 e2 e3
  exact ⟨rfl, h2, h3, h4⟩
theorem Bs.rd {X : Nat → Prop} {w : World} {A : Option Addr} {n c : Nat} {us : List Int} (h : Bs X w (.slice A n c) us) : n = us.length ∧ n ≤ c ∧ c ≤ maxLen ∧ Rdx X w A (us.map (Value.int .u8)) ∧ ∀ z ∈ us, 0 ≤ z ∧ z ≤ 255 := by
  obtain ⟨A', c', e, h2, h3, h4, h5⟩ := h
  injection e with e1 e2 e3
  subst e1 e2 e3
  exact ⟨rfl, h2, h3, h4, h5⟩
theorem us_at {w : World} {B n c : Nat} {A : Option Addr} {us : List Int} (hn : n = us.length) (hc : n ≤ c) (hm : c ≤ maxLen) (h : Rd w B A (us.map (Value.int .i64))) : Us (· < B) w (.slice A n c) us := by
  subst hn; exact ⟨A, c, rfl, hc, hm, h.rdx⟩
end Go.Proofs.YtgjmclbcmfkhdaaDoor
