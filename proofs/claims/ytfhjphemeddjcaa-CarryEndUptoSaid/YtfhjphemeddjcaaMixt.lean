/- Tokens of two parts; positions that are moved one by one. -/
import Derived.Test.YtfhjphemeddjcaaPartsM
import Derived.Test.YtfhjphemeddjcaaSame
import Derived.Laws.OwnMore
namespace Go.Proofs.Ytfhjphemeddjcaa
set_option linter.unusedVariables false
open Go.RowKit

theorem Toks.setPos {w : World} {B : Nat} {q : Int} : ∀ {xs : List Value} {ts : List Tok} (k : Nat) (t : Tok), ts[k]? = some t → Toks w B xs ts → Toks w B (xs.set (k * 4) (.int .i64 q)) (ts.set k ⟨q, t.size, t.err, t.out⟩)
  | [], [], k, t, h, _ => by simp at h
  | a :: b :: s :: e :: xs, t' :: ts, 0, t, h, ⟨g1, g2, g3, g4, g5⟩ => by
    obtain rfl : t' = t := by simpa using h
    exact ⟨rfl, g2, g3, g4, g5⟩
  | a :: b :: s :: e :: xs, t' :: ts, k + 1, t, h, ⟨g1, g2, g3, g4, g5⟩ => by
    have := Toks.setPos (q := q) k t (by simpa using h) g5
    have e0 : (k + 1) * 4 = k * 4 + 1 + 1 + 1 + 1 := by omega
    rw [e0]
    exact ⟨g1, g2, g3, g4, this⟩
theorem Toks.split {w : World} {B : Nat} : ∀ {xs : List Value} {ts us : List Tok}, Toks w B xs (ts ++ us) → Toks w B (xs.take (ts.length * 4)) ts ∧ Toks w B (xs.drop (ts.length * 4)) us
  | xs, [], us, h => by simp; exact ⟨trivial, h⟩
  | [], t :: ts, us, h => h.elim
  | [_], t :: ts, us, h => h.elim
  | [_, _], t :: ts, us, h => h.elim
  | [_, _, _], t :: ts, us, h => h.elim
  | a :: b :: s :: e :: xs, t :: ts, us, ⟨g1, g2, g3, g4, g5⟩ => by
    have ⟨h1, h2⟩ := Toks.split g5
    have e0 : (t :: ts).length * 4 = ts.length * 4 + 1 + 1 + 1 + 1 := by simp only [List.length_cons]; omega
    rw [e0]
    exact ⟨⟨g1, g2, g3, g4, h1⟩, h2⟩
theorem Rd.dropS {w : World} {B : Nat} {A : Option Addr} {xs : List Value} {k m n cap : Nat} (h : Rd w B A xs) (hn : n * m = xs.length) (hk : k ≤ n) (hm : 0 < m) (hc : n ≤ cap) :
    Rd w B (if cap = k then A else A.map (·.add (k * m))) (xs.drop (k * m)) := by
  rcases h with h | ⟨b, off, h1, h2, h3⟩
  · subst h; exact .inl (by simp)
  · by_cases hkk : k = n
    · exact .inl (List.drop_of_length_le (by rw [← hn, hkk]; exact Nat.le_refl _))
    · right
      rw [if_neg (by omega), h1]
      refine ⟨b, off + k * m, ?_, h2, fun j hj => ?_⟩
      · simp only [Option.map_some, Addr.add]
        split
        · rename_i e; rw [e]; rfl
        · rfl
      · rw [Nat.add_assoc, h3 (k * m + j) (by simp at hj; omega), List.getElem?_drop]

def mixT (d : Int) (k : Nat) (ts : List Tok) : List Tok := (ts.take k).map (shT d) ++ ts.drop k
theorem mixT_len (d : Int) (k : Nat) (ts : List Tok) : (mixT d k ts).length = ts.length := by simp [mixT]; omega
theorem mixT_at {d : Int} {k : Nat} {ts : List Tok} (h : k < ts.length) : (mixT d k ts)[k]? = some ts[k] := by
  unfold mixT
  rw [List.getElem?_append_right (by simp; omega)]
  simp [Nat.min_eq_left (Nat.le_of_lt h)]
theorem mixT_step {d : Int} {k : Nat} {ts : List Tok} (h : k < ts.length) : (mixT d k ts).set k (shT d ts[k]) = mixT d (k + 1) ts := by
  unfold mixT
  have hlen : ((ts.take k).map (shT d)).length = k := by simp; omega
  rw [List.take_succ_eq_append_getElem h, List.map_append, List.set_append, if_neg (by omega), hlen, Nat.sub_self, List.drop_eq_getElem_cons h, List.append_assoc]
  rfl

theorem ownsRow_form' {w : World} {base size n : Nat} {e : TypeId} {v : Value} {xs : List Value} (h : w.ownsRow base e size v n xs) (hn : 0 < n) : ∃ g cap, v = .slice (some ⟨g, 0, none⟩) n cap := by
  rcases h.2 with ⟨_, h2⟩ | ⟨g, cap, cur, h1, _⟩
  · omega
  · exact ⟨g, cap, h1⟩

end Go.Proofs.Ytfhjphemeddjcaa
