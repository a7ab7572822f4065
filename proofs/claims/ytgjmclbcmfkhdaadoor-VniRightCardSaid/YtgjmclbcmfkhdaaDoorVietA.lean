/- Layer 9: viet.All: two rows of its own, pushed to letter by letter. -/
import Derived.Test.YtgjmclbcmfkhdaaDoorVietL
import Derived.Maps.AppendAt
import Derived.RangeFuncBox
import Derived.Sort.CutIn
import Derived.Test.YtgjmclbcmfkhdaaDoorMixIn
namespace Go.Proofs.YtgjmclbcmfkhdaaDoor
set_option linter.unusedVariables false
set_option linter.unusedSimpArgs false
set_option linter.unnecessarySimpa false
open Go.RowKit Go.Shelf
attribute [local go_sem] Oper.semAt_some run_store_complex

def lcells (ks : List Nat) : List Value := ks.flatMap fun k => [.int .i64 (LB k), .complex .f64 (fl (LM k)) (fl (LT k))]
def scells (ks : List Nat) : List Value := ks.map fun k => .int .i64 (LS k)
theorem lcells_snoc (ks : List Nat) (k : Nat) : lcells (ks ++ [k]) = lcells ks ++ [.int .i64 (LB k), .complex .f64 (fl (LM k)) (fl (LT k))] := by simp [lcells]
theorem scells_snoc (ks : List Nat) (k : Nat) : scells (ks ++ [k]) = scells ks ++ [.int .i64 (LS k)] := by simp [scells]
/-- the two variables of All, and what they hold -/
structure AllSt (n₀ : Nat) (W : World) (v1 v2 : Value) (ks js : List Nat) : Prop where
  b1 : Boxed W n₀ 73 v1
  r1 : W.ownsRow n₀ 26 2 v1 ks.length (lcells ks)
  b2 : Boxed W (n₀ + 1) 30 v2
  r2 : W.ownsRow n₀ 3 1 v2 js.length (scells js)
theorem own_block {w : World} {base size n : Nat} {e : TypeId} {v : Value} {xs : List Value} (h : w.ownsRow base e size v n xs) {g : Nat} (hg : v.ownBlock = some g) : ∃ cur, w.heap[g]? = some (.cells cur e (0, 0)) := by
  rcases h.2 with ⟨rfl, _⟩ | ⟨g', cap, cur, rfl, _, hb, _⟩
  · simp [Value.ownBlock] at hg
  · obtain rfl : g' = g := by simpa [Value.ownBlock] using hg
    exact ⟨cur, hb⟩
theorem rows_apart {w : World} {base size n base' size' n' : Nat} {e e' : TypeId} {v v' : Value} {xs xs' : List Value} (h : w.ownsRow base e size v n xs) (h' : w.ownsRow base' e' size' v' n' xs') (hne : e ≠ e') : v.ownBlock = none ∨ v.ownBlock ≠ v'.ownBlock := by
  cases hv : v.ownBlock with
  | none => exact .inl rfl
  | some g =>
    refine .inr fun e2 => ?_
    obtain ⟨c1, h1⟩ := own_block h hv
    obtain ⟨c2, h2⟩ := own_block h' e2.symm
    rw [h1] at h2
    injection h2 with h2
    injection h2 with _ h2 _
    exact hne h2
theorem AllSt.grown {n₀ : Nat} {W W' : World} {row : Option Nat} {v1 v2 : Value} {ks js : List Nat} (h : AllSt n₀ W v1 v2 ks js) (hg : W.grownBy W' row) (hr : ∀ r, row = some r → ∃ o : Obj, W.heap[r]? = some o ∧ o.isCells = false) : AllSt n₀ W' v1 v2 ks js := by
  have hb : ∀ B t v, Boxed W B t v → some B ≠ row := fun B t v hb e => by
    obtain ⟨o, ho, hc⟩ := hr B e.symm
    rw [show W.heap[B]? = _ from hb] at ho; cases ho; cases hc
  have hv : ∀ e s v n xs, W.ownsRow n₀ e s v n xs → v.ownBlock = none ∨ v.ownBlock ≠ row := fun e s v n xs hv => by
    cases hvb : v.ownBlock with
    | none => exact .inl rfl
    | some g =>
      refine .inr fun e2 => ?_
      obtain ⟨c, hc⟩ := own_block hv hvb
      obtain ⟨o, ho, hoc⟩ := hr g e2.symm
      rw [hc] at ho; cases ho; cases hoc
  exact ⟨h.b1.kept hg (hb _ _ _ h.b1), h.r1.kept hg (hv _ _ _ _ _ h.r1), h.b2.kept hg (hb _ _ _ h.b2), h.r2.kept hg (hv _ _ _ _ _ h.r2)⟩
theorem AllSt.alloc {n₀ : Nat} {W : World} {v1 v2 : Value} {ks js : List Nat} (h : AllSt n₀ W v1 v2 ks js) (o : Obj) : AllSt n₀ (W.alloc o) v1 v2 ks js := h.grown (World.grownBy_alloc W o none) (fun r e => by cases e)
theorem AllSt.drew {n₀ : Nat} {W : World} {v1 v2 : Value} {ks js : List Nat} (h : AllSt n₀ W v1 v2 ks js) : AllSt n₀ W.drew v1 v2 ks js := ⟨h.b1, h.r1, h.b2, h.r2⟩
theorem AllSt.below {n₀ : Nat} {W W' : World} {v1 v2 : Value} {ks js : List Nat} (h : AllSt n₀ W v1 v2 ks js) (hb : Below W.heap.size W W') : AllSt n₀ W' v1 v2 ks js :=
  h.grown (row := none) ⟨hb.os, hb.tape, hb.output, hb.size, fun i hi _ => hb.block i hi⟩ (fun r e => by cases e)
theorem KpV.below {W W' : World} (hb : Below W.heap.size W W') : KpV W W' := (Own9.of hb).kp
theorem KpV.setBox {W : World} {B : Nat} {t : TypeId} {v : Value} (h : Boxed W B t v) (ht : t ≠ 89) (u : Value) : KpV W (W.setCell ⟨B, 0, none⟩ u) :=
  KpV.grown (grownBy_setCell' W B u) (fun k e => by injection e with e; subst e; exact ⟨_, _, _, h, ht⟩)
theorem KpV.rowG {W w1 : World} {n₀ size k : Nat} {e : TypeId} {v : Value} {xs : List Value} (hr : W.ownsRow n₀ e size v k xs) (hg : W.grownBy w1 v.ownBlock) (he : e ≠ 89) : KpV W w1 :=
  KpV.grown hg fun g hgb => by obtain ⟨c, hc⟩ := own_block hr hgb; exact ⟨_, _, _, hc, he⟩

theorem AllSt.push1 {n₀ : Nat} {W w1 : World} {v1 v2 v' : Value} {ks js : List Nat} {tmp : Obj} {k : Nat} (h : AllSt n₀ W v1 v2 ks js) (hn : n₀ ≤ W.heap.size)
    (hown : w1.ownsRow n₀ 26 2 v' (ks.length + 1) (lcells ks ++ [.int .i64 (LB k), .complex .f64 (fl (LM k)) (fl (LT k))])) (hg : (W.alloc tmp).grownBy w1 v1.ownBlock) :
    (w1.cell? ⟨n₀, 0, none⟩ = some v1 ∧ w1.frozen? ⟨n₀, 0, none⟩ = false ∧ w1.cell? ⟨n₀ + 1, 0, none⟩ = some v2) ∧ AllSt n₀ (w1.setCell ⟨n₀, 0, none⟩ v') v' v2 (ks ++ [k]) js ∧ KeepsOthers W (w1.setCell ⟨n₀, 0, none⟩ v') ∧ KpV W (w1.setCell ⟨n₀, 0, none⟩ v') ∧ Below n₀ W (w1.setCell ⟨n₀, 0, none⟩ v') := by
  obtain ⟨h1, h2, h3, h4, h5⟩ := h.b1.appended (by decide) h.r1 hn (Nat.le_refl _) hown hg
  have hb2 : Boxed w1 (n₀ + 1) 30 v2 := (h.b2.alloc tmp).kept hg (h.b2.not_row (by decide) h.r1)
  have hr2 : w1.ownsRow n₀ 3 1 v2 js.length (scells js) := ((h.r2.kept (World.grownBy_alloc W tmp none) (by cases hv : v2.ownBlock with | none => exact .inl rfl | some g => exact .inr (by simp)))).kept hg (rows_apart h.r2 h.r1 (by decide))
  refine ⟨⟨h1.cell, h1.frozen, hb2.cell⟩, ⟨h2, by rw [List.length_append, lcells_snoc]; exact h3, hb2.other (by omega) _, hr2.kept (grownBy_setCell' w1 n₀ v') (.inr (h1.not_row (by decide) hr2).symm)⟩, h4, ?_, h5⟩
  refine ((KpV.alloc W tmp).trans (KpV.rowG (e := 26) ((h.r1.kept (World.grownBy_alloc W tmp none) (by cases hv : v1.ownBlock with | none => exact .inl rfl | some g => exact .inr (by simp)))) hg (by decide))).trans (KpV.setBox h1 (by decide) _)
theorem AllSt.push2 {n₀ : Nat} {W w1 : World} {v1 v2 v' : Value} {ks js : List Nat} {tmp : Obj} {k : Nat} (h : AllSt n₀ W v1 v2 ks js) (hn : n₀ ≤ W.heap.size)
    (hown : w1.ownsRow n₀ 3 1 v' (js.length + 1) (scells js ++ [.int .i64 (LS k)])) (hg : (W.alloc tmp).grownBy w1 v2.ownBlock) :
    (w1.cell? ⟨n₀ + 1, 0, none⟩ = some v2 ∧ w1.frozen? ⟨n₀ + 1, 0, none⟩ = false ∧ w1.cell? ⟨n₀, 0, none⟩ = some v1) ∧ AllSt n₀ (w1.setCell ⟨n₀ + 1, 0, none⟩ v') v1 v' ks (js ++ [k]) ∧ KeepsOthers W (w1.setCell ⟨n₀ + 1, 0, none⟩ v') ∧ KpV W (w1.setCell ⟨n₀ + 1, 0, none⟩ v') ∧ Below n₀ W (w1.setCell ⟨n₀ + 1, 0, none⟩ v') := by
  obtain ⟨h1, h2, h3, h4, h5⟩ := h.b2.appended (by decide) h.r2 hn (by omega) hown hg
  have hb1 : Boxed w1 n₀ 73 v1 := (h.b1.alloc tmp).kept hg (h.b1.not_row (by decide) h.r2)
  have hr1 : w1.ownsRow n₀ 26 2 v1 ks.length (lcells ks) := ((h.r1.kept (World.grownBy_alloc W tmp none) (by cases hv : v1.ownBlock with | none => exact .inl rfl | some g => exact .inr (by simp)))).kept hg (rows_apart h.r1 h.r2 (by decide))
  refine ⟨⟨h1.cell, h1.frozen, hb1.cell⟩, ⟨hb1.other (by omega) _, hr1.kept (grownBy_setCell' w1 (n₀ + 1) v') (.inr (h1.not_row (by decide) hr1).symm), h2, by rw [List.length_append, scells_snoc]; exact h3⟩, h4, ?_, h5⟩
  refine ((KpV.alloc W tmp).trans (KpV.rowG (e := 3) ((h.r2.kept (World.grownBy_alloc W tmp none) (by cases hv : v2.ownBlock with | none => exact .inl rfl | some g => exact .inr (by simp)))) hg (by decide))).trans (KpV.setBox h1 (by decide) _)
theorem setCell_size9 (w : World) (p : Addr) (v : Value) : (w.setCell p v).heap.size = w.heap.size := by simp [World.setCell]
theorem cell_one_newS (w : World) (p : Addr) (v x : Value) (t : TypeId) : ∀ j u, [x][j]? = some u → ((w.setCell p v).alloc (.cells #[x] t)).cell? ((⟨w.heap.size, 0, none⟩ : Addr).add j) = some u := by
  have := cell_one_new (w.setCell p v) x t
  rwa [setCell_size9] at this
theorem infolet : (Tryd.prog.info? 26).map (fun i => (i.zero, i.size, i.bytes)) = some (some (.agg #[.int .i64 0, .complex .f64 0 0]), 2, 24) := by kernel_rfl
theorem infoint9 : (Tryd.prog.info? 3).map (fun i => (i.zero, i.size, i.bytes)) = some (some (.int .i64 0), 1, 8) := by kernel_rfl
end Go.Proofs.YtgjmclbcmfkhdaaDoor
