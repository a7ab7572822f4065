/- Layer 9: what All hands back, read cell by cell. -/
import Derived.Test.YtigpmnpfkgopnaaDoorVietE
import Derived.Test.YtigpmnpfkgopnaaDoorVietB
namespace Go.Proofs.YtigpmnpfkgopnaaDoor
set_option linter.unusedVariables false
set_option linter.unusedSimpArgs false
set_option linter.unnecessarySimpa false
open Go.RowKit Go.Shelf

theorem lcells_len (n : Nat) : (lcells (List.range n)).length = 2 * n := by
  induction n with
  | zero => rfl
  | succ n ih => rw [List.range_succ, lcells_snoc, List.length_append, ih]; simp; omega
theorem lcells_at : ∀ (n k : Nat), k < n → (lcells (List.range n))[k * 2]? = some (.int .i64 (LB k)) ∧ (lcells (List.range n))[k * 2 + 1]? = some (.complex .f64 (fl (LM k)) (fl (LT k)))
  | 0, k, h => absurd h (by omega)
  | n + 1, k, h => by
    have hl := lcells_len n
    rw [List.range_succ, lcells_snoc]
    by_cases hk : k = n
    · subst hk
      rw [List.getElem?_append_right (by omega), List.getElem?_append_right (by omega), hl, show k * 2 - 2 * k = 0 by omega, show k * 2 + 1 - 2 * k = 1 by omega]
      exact ⟨rfl, rfl⟩
    · rw [List.getElem?_append_left (by omega), List.getElem?_append_left (by omega)]
      exact lcells_at n k (by omega)
theorem scells_at (n k : Nat) (h : k < n) : (scells (List.range n))[k]? = some (.int .i64 (LS k)) := by simp [scells, h]
/-- All's two slices in a world: 148 letters in block g, their scalars in block h -/
structure Two (W : World) (g h : Nat) : Prop where
  lb : ∀ k, k < 148 → W.cell? ⟨g, k * 2, none⟩ = some (.int .i64 (LB k))
  lz : ∀ k, k < 148 → W.cell? ⟨g, k * 2 + 1, none⟩ = some (.complex .f64 (fl (LM k)) (fl (LT k)))
  ls : ∀ k, k < 148 → W.cell? ⟨h, k, none⟩ = some (.int .i64 (LS k))
  lg : g < W.heap.size
  lh : h < W.heap.size
theorem Two.below {W W' : World} {g h : Nat} (t : Two W g h) (hb : Below W.heap.size W W') : Two W' g h :=
  ⟨fun k hk => (hb.cell (p := ⟨g, k * 2, none⟩) t.lg).trans (t.lb k hk), fun k hk => (hb.cell (p := ⟨g, k * 2 + 1, none⟩) t.lg).trans (t.lz k hk), fun k hk => (hb.cell (p := ⟨h, k, none⟩) t.lh).trans (t.ls k hk), Nat.lt_of_lt_of_le t.lg hb.size, Nat.lt_of_lt_of_le t.lh hb.size⟩
theorem own_cells {w : World} {base size n c : Nat} {e : TypeId} {A : Option Addr} {xs : List Value} (h : w.ownsRow base e size (.slice A (n + 1) c) (n + 1) xs) : ∃ g, A = some ⟨g, 0, none⟩ ∧ g < w.heap.size ∧ ∀ j v, xs[j]? = some v → w.cell? ⟨g, j, none⟩ = some v := by
  obtain ⟨g, cap, hv⟩ := ownsRow_succ h
  injection hv with hA _ hc
  subst hA hc
  refine ⟨g, rfl, ?_, fun j v hj => ?_⟩
  · rcases h.2 with ⟨hx, _⟩ | ⟨g', cap', cur, hx, _, hb, _⟩
    · cases hx
    · injection hx with hx _ _
      injection hx with hx
      injection hx with hx
      subst hx
      exact (Array.getElem?_eq_some_iff.1 hb).1
  · have := h.cells (g := g) rfl j v hj
    have e : (⟨g, 0, none⟩ : Addr).add j = ⟨g, j, none⟩ := by unfold Addr.add; split <;> simp_all
    rw [e] at this
    exact this
theorem two_any (w : World) (hR : RowsV w) :
    Calls Tryd.prog 11 #[] w fun e w' => ∃ g c h d, e = .returned (.tuple #[.slice (some ⟨g, 0, none⟩) 148 c, .slice (some ⟨h, 0, none⟩) 148 d]) ∧ Two w' g h ∧ Below w.heap.size w w' ∧ 148 ≤ c ∧ c ≤ maxLen ∧ 148 ≤ d ∧ d ≤ maxLen := by
  refine (all_any w hR).mono ?_
  rintro e w' ⟨A1, c1, A2, c2, rfl, h1, h2, hb⟩
  obtain ⟨_, _, e1, f1, f2⟩ := own_form h1
  obtain ⟨_, _, e2, f3, f4⟩ := own_form h2
  obtain ⟨g, rfl, hg, hc⟩ := own_cells (n := 147) h1
  obtain ⟨h, rfl, hh, hd⟩ := own_cells (n := 147) h2
  injection e1 with _ _ e1
  injection e2 with _ _ e2
  refine ⟨g, c1, h, c2, rfl, ⟨fun k hk => hc _ _ (lcells_at 148 k hk).1, fun k hk => hc _ _ (lcells_at 148 k hk).2, fun k hk => hd _ _ (scells_at 148 k hk), hg, hh⟩, hb, by omega, by omega, by omega, by omega⟩
theorem below_drewN9 {B : Nat} {a w : World} (h : Below B a w) (n : Nat) : Below B a (w.drewN n) := ⟨h.os, h.tape, h.output, h.size, h.block⟩
end Go.Proofs.YtigpmnpfkgopnaaDoor
