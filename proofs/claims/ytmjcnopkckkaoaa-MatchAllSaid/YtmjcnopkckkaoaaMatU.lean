/- Layer 6: Put, End. -/
import Derived.Test.YtmjcnopkckkaoaaMatT
namespace Go.Proofs.Ytmjcnopkckkaoaa
set_option linter.unusedVariables false
open Go.RowKit
theorem MAt.put {w : World} {p T : Nat} {q : List Int} {at_ st : Int} (h : MAt w p T q at_ st) (hq : q.length ≤ 7) (u : Int) : MAt ((w.setCell ⟨p, 1 + q.length, none⟩ (.int .i64 u)).setCell ⟨p, 9, none⟩ (.int .i64 (q.length + 1))).drew p T (q ++ [u]) at_ st := by
  obtain ⟨xs, h0, h1, h2⟩ := h
  have g1 := (matb_set T xs _ _ _ h0 h1 u).2.2.2 q.length (by omega)
  have g2 := (matb_set T (xs.set q.length u) _ _ _ (by simpa using h0) g1 (q.length + 1)).1
  refine ⟨xs.set q.length u, by simpa using h0, ?_, laid1 h2 (by omega)⟩
  rw [List.length_append, List.length_singleton, Int.natCast_add]
  exact g2
set_option maxHeartbeats 1600000 in
theorem mput_any (w : World) (p T : Nat) (q : List Int) (at_ st u : Int) (hp : MAt w p T q at_ st) (hq : q.length ≤ 7) (B : Nat) (rs : List Rl) (ht : TrieOK w B T rs) (hB : B ≤ p) (h0 : 0 ≤ at_) (h9 : at_ ≤ 1099511627776) (hs0 : 0 ≤ st) (hs9 : st ≤ 1099511627776)
    (ts : List Tk) (rest : List Int) (k : Nat) (hv : drain rs at_ (q ++ [u]) = (ts, rest, k)) :
    Calls Try.prog 13 #[.pointer (some ⟨p, 0, none⟩), .int .i64 u] w fun en w' => ∃ v, en = .returned v ∧ OwnTkB w.heap.size w' v ts ∧ MAt w' p T rest (at_ + q.length + 1 - rest.length) (st + k) ∧ w.grownBy w' (some p) := by
  have hlt := hp.lt
  have hput := hp.put hq u
  obtain ⟨_, c9, _, _, cf, cx⟩ := hp.cells
  obtain ⟨x, cx⟩ := cx q.length (by omega)
  obtain ⟨L, hL⟩ : ∃ L, q.length = L := ⟨_, rfl⟩
  rw [hL] at c9 cx hq hput ⊢
  have e1 : ¬ L = 8 := by omega
  have e2 : ¬ 8 = L := by omega
  have e3 : (0 : Int) ≤ L := by omega
  have e4 : (L : Int) < 8 := by omega
  have e5 : ¬ (1 + L = 9) := by omega
  have HPU := Lib.hid hput
  have HL := Lib.hid hL
  have HT := Lib.hid ht
  have HV := Lib.hid (show tkE rs false at_ (q ++ [u]) = (ts, rest, k) by simpa [tkE] using hv)
  clear hp hput hL ht hv
  go_enter Try.func13, Try.ntmps13
  go_wp2
  go_region
  go_wp2_with fail
  obtain ⟨W2, hW2⟩ : ∃ W2, W2 = ((w.setCell ⟨p, 1 + L, none⟩ (.int .i64 u)).setCell ⟨p, 9, none⟩ (.int .i64 (L + 1))).drew := ⟨_, rfl⟩
  rw [← hW2]
  have hg2 : w.grownBy W2 (some p) := by rw [hW2]; exact grown_drew (grown_set (grown_set (grownR w _) _ _) _ _)
  have hm2 : MAt W2 p T (q ++ [u]) at_ st := by rw [hW2]; exact HPU.out
  have hs2 : W2.heap.size = w.heap.size := by rw [hW2]; simp
  refine (mtake_any false W2 p T (q ++ [u]) at_ st hm2 B rs (HT.out.below (below_grownP (Below.refl B w) hg2 hB (by omega)) (Nat.le_refl _)) hB h0 h9 hs0 hs9 ts rest k HV.out).mono ?_
  rintro en w3 ⟨v, rfl, ho, hm, hg⟩
  rw [hs2] at ho
  rw [List.length_append, List.length_singleton, HL.out, show at_ + ((L + 1 : Nat) : Int) - rest.length = at_ + L + 1 - rest.length from by omega] at hm
  have HO := Lib.hid ho
  have HM := Lib.hid hm
  have HG := Lib.hid (grown_seq hg2 hg)
  clear hW2 hg2 hm2 hs2 ho hm hg c9 cx cf
  go_wp2
  go_ret
  exact ⟨_, rfl, HO.out, HM.out, HG.out⟩
set_option maxHeartbeats 1600000 in
theorem mend_any (w : World) (p T : Nat) (q : List Int) (at_ st : Int) (hp : MAt w p T q at_ st) (B : Nat) (rs : List Rl) (ht : TrieOK w B T rs) (hB : B ≤ p) (h0 : 0 ≤ at_) (h9 : at_ ≤ 1099511627776) (hs0 : 0 ≤ st) (hs9 : st ≤ 1099511627776)
    (ts : List Tk) (hv : rewA rs at_ q = ts) :
    Calls Try.prog 15 #[.pointer (some ⟨p, 0, none⟩)] w fun en w' => ∃ v, en = .returned v ∧ OwnTkB w.heap.size w' v ts ∧ MAt w' p T [] (at_ + q.length) (st + looksE rs q) ∧ w.grownBy w' (some p) := by
  have HP := Lib.hid hp
  have HT := Lib.hid ht
  have HV := Lib.hid (show tkE rs true at_ q = (ts, [], looksE rs q) by simp [tkE, hv])
  clear hp ht hv
  go_enter Try.func15, Try.ntmps15
  go_wp2_with fail
  refine (mtake_any true w p T q at_ st HP.out B rs HT.out hB h0 h9 hs0 hs9 ts [] _ HV.out).mono ?_
  rintro en w3 ⟨v, rfl, ho, hm, hg⟩
  rw [show at_ + (q.length : Int) - (([] : List Int).length : Nat) = at_ + q.length from by simp] at hm
  have HO := Lib.hid ho
  have HM := Lib.hid hm
  have HG := Lib.hid hg
  clear ho hm hg
  go_wp2
  go_ret
  exact ⟨_, rfl, HO.out, HM.out, HG.out⟩
end Go.Proofs.Ytmjcnopkckkaoaa
