/- Layer 2: rows that stay readable while a reader, and newer rows, are written; all tokens of what was fed and ended. -/
import Derived.Test.YtbigbkplhlmbmaaCarryE
import Derived.Laws.OwnMore
namespace Go.Proofs.Ytbigbkplhlmbmaa
set_option linter.unusedVariables false
open Go.RowKit

theorem Rd.ownP {w w' : World} {base size n p c : Nat} {e : TypeId} {A : Option Addr} {xs : List Value} (h : w.ownsRow base e size (.slice A n c) n xs) (hp : p < base) (hg : w.grownBy w' (some p)) : Rd w' w.heap.size A xs := by
  rcases Rd.own h with h1 | ⟨b, off, rfl, h2, h3⟩
  · exact .inl h1
  · refine .inr ⟨b, off, rfl, h2, fun j hj => ?_⟩
    have hb : base ≤ b := by
      rcases h.2 with ⟨h4, _⟩ | ⟨g, cap, cur, h4, h5, _⟩
      · cases h4
      · injection h4 with h4 _ _
        injection h4 with h4
        injection h4 with h4 _ _
        omega
    exact (World.cell?_of_block (w := w) (hg.block b h2 (by intro e; injection e with e; omega))).trans (h3 j hj)
theorem Toks.grownQ {w w' : World} {p B : Nat} {q : List Int} {at_ : Int} {xs : List Value} {ts : List Tok} (h : Toks w B xs ts) (hB : B ≤ w.heap.size) (hp : RdrAt w p q at_) (hg : w.grownBy w' (some p)) : Toks w' B xs ts :=
  h.keep (Nat.le_refl _) fun b c fr hl hc => hg.block b (by omega) fun e => by
    injection e with e
    subst e
    obtain ⟨x0, x1, x2, x3, h1, _⟩ := hp
    rw [h1] at hc
    injection hc with hc
    injection hc with _ hc
    exact absurd hc (by decide)
theorem Toks.mono {w : World} {B B' : Nat} {xs : List Value} {ts : List Tok} (h : Toks w B xs ts) (hB : B ≤ B') : Toks w B' xs ts := h.keep hB fun _ _ _ _ _ => rfl
theorem all_end (p : Int) (zs : List Int) : KN p zs ++ endK (HD zs) (p + zs.length - (HD zs).length) = allF zs.length p zs := by
  rw [allF_known zs.length p zs (Nat.le_refl _)]; rfl
theorem endK_len (q : List Int) (at_ : Int) : (endK q at_).length ≤ 1 := by unfold endK; split <;> simp
theorem allF_shift0 (d : Int) (f : Nat) (zs : List Int) : (allF f d zs).map (shT (-d)) = allF f 0 zs := by
  rw [← allF_shift]
  congr 1
  omega
theorem RdrAt.belowB {w w' : World} {p B : Nat} {q : List Int} {at_ : Int} (h : RdrAt w p q at_) (hb : Below B w w') (hp : p < B) : RdrAt w' p q at_ := by
  obtain ⟨x0, x1, x2, x3, h1, h2⟩ := h
  exact ⟨x0, x1, x2, x3, (hb.block p hp).trans h1, h2⟩
end Go.Proofs.Ytbigbkplhlmbmaa
