/- Layer 4, for the layers above: a trie of rules that are right. -/
import Derived.Test.YtgjmclbcmfkhdaaDoorTrieC
import Derived.Test.YtgjmclbcmfkhdaaDoorTrieS
import Derived.Test.YtgjmclbcmfkhdaaDoorTok
namespace Go.Proofs.YtgjmclbcmfkhdaaDoor
set_option linter.unusedVariables false
open Go.RowKit
/-- at block T, below block B, lies the trie of rules that are right -/
structure TrieOK (w : World) (B T : Nat) (rs : List Rl) : Prop where
  good : Good rs
  is : ∃ ns, TrAt w B T ns (rs.map (·.2)) ∧ TI (pathsR rs) ns (findR rs)
theorem TrieOK.below {w w' : World} {B B' T : Nat} {rs : List Rl} (h : TrieOK w B T rs) (hb : Below B w w') (hB : B ≤ B') : TrieOK w' B' T rs := by
  obtain ⟨hg, ns, h1, h2⟩ := h
  exact ⟨hg, ns, h1.below hb hB, h2⟩
theorem of_ok (n : Nat) (A : Option Addr) (c : Nat) (rs : List Rl) (B : Nat) (w : World) (hr : RsAt w B A n c rs) (hB : B ≤ w.heap.size) (hv : checkR rs = (-1, 0)) :
    Calls Tryd.prog 22 #[.slice A n c] w fun en w' => ∃ T, en = .returned (.tuple #[.pointer (some ⟨T, 0, none⟩), .int .i64 0]) ∧ TrieOK w' w'.heap.size T rs ∧ Below w.heap.size w w' := by
  refine (of_good n A c rs B w hr hB hv).mono ?_
  rintro en w' ⟨T, ns, nV, oV, xs, ys, V, rfl, ho, ht, hb⟩
  exact ⟨T, rfl, ⟨good_of hv, ns, ho.at, ht⟩, hb⟩
theorem long_ok (w : World) (B T : Nat) (rs : List Rl) (h : TrieOK w B T rs) (hB : B ≤ w.heap.size) (n : Nat) (A : Option Addr) (c : Nat) (us : List Int) (B' : Nat) (hn : n = us.length) (hr : Rd w B' A (us.map (Value.int .i64))) (hB' : B' ≤ w.heap.size) (hnc : n ≤ c) (hc : c ≤ maxLen) (k m : Int) (o : Bool) (hv : longL rs us = (k, m, o)) :
    Calls Tryd.prog 43 #[.pointer (some ⟨T, 0, none⟩), .slice A n c] w fun e w' => e = .returned (.tuple #[.int .i64 k, .int .i64 m, .bool o]) ∧ Below w.heap.size w w' := by
  obtain ⟨hg, ns, h1, h2⟩ := h
  exact tlongest_any w B T rs ns _ h1 h2 hB (fun r hr => (hg.side r hr).1) (paths_le hg) n A c us B' hn hr hB' hnc hc k m o hv
theorem out_ok (w : World) (B T : Nat) (rs : List Rl) (h : TrieOK w B T rs) (hB : B ≤ w.heap.size) (k : Nat) (hk : k < rs.length) (us : List Int) (m : Nat) (hu : rs[k].2 = us) (hm : us.length = m) :
    Calls Tryd.prog 44 #[.pointer (some ⟨T, 0, none⟩), .int .i64 k] w fun e w' => ∃ A c, e = .returned (.slice A m c) ∧ Us (fun b => w.heap.size ≤ b) w' (.slice A m c) us ∧ Below w.heap.size w w' := by
  obtain ⟨hg, ns, h1, h2⟩ := h
  subst hm
  refine out_any w B T ns _ h1 hB ?_ k us ?_
  · intro o ho
    obtain ⟨r, hr, rfl⟩ := List.mem_map.1 ho
    have := (hg.side r hr).2.2.2.1
    omega
  · rw [List.length_map, if_pos (by omega), ← hu]
    simp [List.getD_eq_getElem?_getD, List.getElem?_eq_getElem hk]
end Go.Proofs.YtgjmclbcmfkhdaaDoor
