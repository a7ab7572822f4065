/- Layer 6: what the laws' loops share: tokens told one by one, laid behind one another. -/
import Derived.Test.YtmjcnopkckkaoaaMatE
import Derived.Test.YtmjcnopkckkaoaaMatchS
import Derived.Test.YtmjcnopkckkaoaaRuleK
import Derived.Test.YtmjcnopkckkaoaaTrieP
namespace Go.Proofs.Ytmjcnopkckkaoaa
set_option linter.unusedVariables false
open Go.RowKit
theorem all_step {rs : List Rl} (hg : Good rs) {us q rest : List Int} {K k : Nat} {at_ : Int} {t2 acc ts : List Tk} (hK : K < us.length) (hd : drain rs at_ (q ++ [us.getD K 0]) = (t2, rest, k)) (h : acc ++ rewA rs at_ (q ++ us.drop K) = ts) :
    acc ++ t2 ++ rewA rs (at_ + q.length + 1 - rest.length) (rest ++ us.drop (K + 1)) = ts ∧ t2.length + rest.length ≤ q.length + 1 := by
  have hd' := hg.drained (q ++ [us.getD K 0]) at_
  rw [hd] at hd'
  obtain ⟨_, ha, _, hc, _⟩ := hd'
  have h1 := ha (us.drop (K + 1))
  have e : q ++ [us.getD K 0] ++ us.drop (K + 1) = q ++ us.drop K := by
    rw [List.append_assoc, List.drop_eq_getElem_cons hK, List.getD_eq_getElem?_getD, List.getElem?_eq_getElem hK]; rfl
  rw [e] at h1
  rw [← h, h1, List.length_append, List.length_singleton, show at_ + ((q.length + 1 : Nat) : Int) - rest.length = at_ + q.length + 1 - rest.length from by omega]
  refine ⟨by rw [List.append_assoc], ?_⟩
  rw [List.length_append, List.length_singleton] at hc
  exact hc
theorem all_end {rs : List Rl} {us q : List Int} {K : Nat} {at_ : Int} {acc ts : List Tk} (hK : us.length ≤ K) (h : acc ++ rewA rs at_ (q ++ us.drop K) = ts) : acc ++ rewA rs at_ q = ts := by
  rw [List.drop_of_length_le hK, List.append_nil] at h; exact h
/-- tokens that a Match told, laid behind a row: p its block, wr the world ahead of the call, w6 behind it, w7 behind the append -/
theorem told {S p : Nat} {wa wr w6 w7 : World} {T : Nat} {v v6 v7 : Value} {xs ys : List Value} {acc t2 : List Tk} {q : List Int} {a s : Int} {m : Nat} (hm2 : t2.length = m) (hSp : p < S) (hSr : S ≤ wr.heap.size) (hSa : wa.heap.size ≤ S) (hg : wa.grownBy wr (some p)) (ho : wr.ownsRow S 49 4 v acc.length xs) (hx : Tks (fun b => v.ownBlock ≠ some b ∧ S ≤ b) wr xs acc)
    (ho6 : w6.ownsRow wr.heap.size 49 4 v6 t2.length ys) (hy : Tks (fun b => v6.ownBlock ≠ some b ∧ wr.heap.size ≤ b) w6 ys t2) (hm : MAt w6 p T q a s) (hg6 : wr.grownBy w6 (some p)) (ho7 : w7.ownsRow S 49 4 v7 (acc.length + m) (xs ++ ys)) (hg7 : w6.grownBy w7 v.ownBlock) (hv7 : v7.ownBlock = v.ownBlock ∨ v7.ownBlock = some w6.heap.size) :
    OwnTkB S w7 v7 (acc ++ t2) ∧ MAt w7 p T q a s ∧ wa.grownBy w7 (some p) := by
  have hk := own_kept ho hg6 hSp
  refine ⟨OwnTkB.push (n := acc.length + m) (by rw [hm2]) ho7 (hx.step hg6.size fun b hl hb => ⟨hb, hg6.block b hl (fun e => by injection e with e; have := hb.2; omega)⟩) (hy.step (Nat.le_refl _) fun b hl hb => ⟨⟨fun e => ?_, by have := hb.2; omega⟩, rfl⟩) hg7 hv7, hm.app hg7 hk hSp, grown_app (grown_seq hg hg6) hg7 hk hSa⟩
  have := own_lt ho e
  have := hb.2
  omega
end Go.Proofs.Ytmjcnopkckkaoaa
