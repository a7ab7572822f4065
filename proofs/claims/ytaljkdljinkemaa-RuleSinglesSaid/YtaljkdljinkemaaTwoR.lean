/- Two rows of the call's own side by side: rows of pairs, and rules. -/
import Derived.Test.YtaljkdljinkemaaRuleL
namespace Go.Proofs.Ytaljkdljinkemaa
set_option linter.unusedVariables false
open Go.RowKit
theorem own_heap {w : World} {base size n : Nat} {e : TypeId} {v : Value} {xs : List Value} (h : w.ownsRow base e size v n xs) {g : Nat} (hg : v.ownBlock = some g) : ∃ cur, w.heap[g]? = some (.cells cur e (0, 0)) := by
  rcases h.2 with ⟨rfl, _⟩ | ⟨g', cap, cur, rfl, _, hh, _⟩
  · simp [Value.ownBlock] at hg
  · have : g' = g := by simpa [Value.ownBlock] using hg
    subst this
    exact ⟨cur, hh⟩
theorem own_apart {w : World} {base size n base' size' n' : Nat} {e e' : TypeId} {v v' : Value} {xs xs' : List Value} (h : w.ownsRow base e size v n xs) (h' : w.ownsRow base' e' size' v' n' xs') (he : e ≠ e') {g : Nat} (hg : v.ownBlock = some g) : v'.ownBlock ≠ some g := by
  intro hg'
  obtain ⟨c1, e1⟩ := own_heap h hg
  obtain ⟨c2, e2⟩ := own_heap h' hg'
  rw [e1] at e2
  injection e2 with e2
  injection e2 with _ e2
  exact he e2
theorem own_other {w w' : World} {base size n : Nat} {e : TypeId} {v : Value} {xs : List Value} {row : Option Nat} (h : w.ownsRow base e size v n xs) (hg : w.grownBy w' row) (hne : ∀ g, v.ownBlock = some g → row ≠ some g) : w'.ownsRow base e size v n xs := by
  refine ⟨h.1, ?_⟩
  rcases h.2 with h2 | ⟨g, cap, cur, hv, h3, h4, h5⟩
  · exact .inl h2
  · have hlt : g < w.heap.size := own_lt h (by rw [hv]; rfl)
    exact .inr ⟨g, cap, cur, hv, h3, (hg.block g hlt (fun e => hne g (by rw [hv]; rfl) e.symm)).trans h4, h5⟩
structure TwoR (base : Nat) (w : World) (vR vW : Value) (qs : List (Int × Int)) (acc : List Rl) : Prop where
  rows : w.ownsRow base 43 2 vR qs.length ((flatP qs).map (Value.int .i64))
  want : ∃ xs, w.ownsRow base 28 2 vW acc.length xs ∧ Rls (fun b => vR.ownBlock ≠ some b ∧ vW.ownBlock ≠ some b) w xs acc
theorem TwoR.nil (base : Nat) (w : World) : TwoR base w (.slice none 0 0) (.slice none 0 0) [] [] := ⟨World.ownsRow_nil _ _ _ _, [], World.ownsRow_nil _ _ _ _, trivial⟩
theorem TwoR.below {base B : Nat} {w w' : World} {vR vW : Value} {qs : List (Int × Int)} {acc : List Rl} (h : TwoR base w vR vW qs acc) (hb : Below B w w') (hB : w.heap.size ≤ B) : TwoR base w' vR vW qs acc := by
  obtain ⟨h1, xs, h2, h3⟩ := h
  exact ⟨own_below h1 hb hB, xs, own_below h2 hb hB, h3.step hb.size fun b hl hx => ⟨hx, hb.block b (by omega)⟩⟩
theorem TwoR.pushR {base : Nat} {w w' : World} {vR vW v : Value} {qs : List (Int × Int)} {acc : List Rl} {p q : Int} (h : TwoR base w vR vW qs acc) (ho : w'.ownsRow base 43 2 v (qs.length + 1) ((flatP qs).map (Value.int .i64) ++ [.int .i64 p, .int .i64 q])) (hg : w.grownBy w' vR.ownBlock) (hv : v.ownBlock = vR.ownBlock ∨ v.ownBlock = some w.heap.size) :
    TwoR base w' v vW (qs ++ [(p, q)]) acc := by
  obtain ⟨h1, xs, h2, h3⟩ := h
  refine ⟨by rw [flatP_app]; simpa [flatP] using ho, xs, own_other h2 hg fun g hg e => own_apart h2 h1 (by decide) hg e, h3.step hg.size fun b hl hx => ⟨⟨?_, hx.2⟩, hg.block b hl fun e => hx.1 e.symm⟩⟩
  rcases hv with e | e
  · rw [e]; exact hx.1
  · rw [e]; intro e'; injection e' with e'; omega
theorem TwoR.pushW {base : Nat} {w w' : World} {vR vW v : Value} {qs : List (Int × Int)} {acc : List Rl} {xs : List Value} {a b : Value} {r : Rl} (h1 : w.ownsRow base 43 2 vR qs.length ((flatP qs).map (Value.int .i64))) (h2 : w.ownsRow base 28 2 vW acc.length xs) (h3 : Rls (fun b => vR.ownBlock ≠ some b ∧ vW.ownBlock ≠ some b) w xs acc)
    (ha : Us (fun b => vR.ownBlock ≠ some b ∧ vW.ownBlock ≠ some b) w a r.1) (hb : Us (fun b => vR.ownBlock ≠ some b ∧ vW.ownBlock ≠ some b) w b r.2) (ho : w'.ownsRow base 28 2 v (acc.length + 1) (xs ++ [a, b])) (hg : w.grownBy w' vW.ownBlock) (hv : v.ownBlock = vW.ownBlock ∨ v.ownBlock = some w.heap.size) :
    TwoR base w' vR v qs (acc ++ [r]) := by
  refine ⟨own_other h1 hg fun g hg e => own_apart h1 h2 (by decide) hg e, xs ++ [a, b], by simpa using ho, (h3.app (Rls.one ha hb)).step hg.size fun b hl hx => ⟨⟨hx.1, ?_⟩, hg.block b hl fun e => hx.2 e.symm⟩⟩
  rcases hv with e | e
  · rw [e]; exact hx.2
  · rw [e]; intro e'; injection e' with e'; omega
theorem TwoR.low {base : Nat} {w : World} {vR vW : Value} {qs : List (Int × Int)} {acc : List Rl} (h : TwoR base w vR vW qs acc) : (∀ g, vR.ownBlock = some g → base ≤ g ∧ g < w.heap.size) ∧ (∀ g, vW.ownBlock = some g → base ≤ g ∧ g < w.heap.size) := by
  obtain ⟨h1, xs, h2, h3⟩ := h
  exact ⟨fun g hg => ⟨(h1.lt g hg).1, own_lt h1 hg⟩, fun g hg => ⟨(h2.lt g hg).1, own_lt h2 hg⟩⟩
/-- what the second of the two regions leaves -/
def CutT (base B : Nat) (w0 : World) (vR : Value) (qs : List (Int × Int)) (acc : List Rl) (s : Value) (wx : World) : Prop := TwoR base wx vR s qs acc ∧ Below B w0 wx
end Go.Proofs.Ytaljkdljinkemaa
