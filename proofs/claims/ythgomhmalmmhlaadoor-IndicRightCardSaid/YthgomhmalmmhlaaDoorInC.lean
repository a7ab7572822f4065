/- Layer 14: rules as literals: where they lie. -/
import Derived.Test.YthgomhmalmmhlaaDoorInB
import Derived.Test.YthgomhmalmmhlaaDoorAppG
namespace Go.Proofs.YthgomhmalmmhlaaDoor
set_option linter.unusedVariables false
set_option linter.unusedSimpArgs false
set_option linter.unnecessarySimpa false
open Go.RowKit
/-- the world behind rules' sides, laid one behind the other, each in a block of its own -/
def ruW (w : World) : List Rl → World
  | [] => w
  | r :: rs => ruW ((w.alloc (.cells (r.1.map (Value.int .i64)).toArray 3)).alloc (.cells (r.2.map (Value.int .i64)).toArray 3)) rs
/-- the rules' cells -/
def ruC (n : Nat) : List Rl → List Value
  | [] => []
  | r :: rs => .slice (some ⟨n, 0, none⟩) r.1.length r.1.length :: .slice (some ⟨n + 1, 0, none⟩) r.2.length r.2.length :: ruC (n + 1 + 1) rs
theorem ruW_size : ∀ (rs : List Rl) (w : World), (ruW w rs).heap.size = w.heap.size + rs.length * 2
  | [], w => rfl
  | r :: rs, w => by
    unfold ruW
    rw [ruW_size rs]
    simp; omega
theorem ruW_below : ∀ (rs : List Rl) (w : World), Below w.heap.size w (ruW w rs)
  | [], w => Below.refl _ _
  | r :: rs, w => by
    unfold ruW
    have h := ruW_below rs ((w.alloc (.cells (r.1.map (Value.int .i64)).toArray 3)).alloc (.cells (r.2.map (Value.int .i64)).toArray 3))
    exact (((Below.refl _ w).alloc (Nat.le_refl _) _).alloc (by simp) _).trans (h.mono (by simp; omega))
theorem ruW_rls : ∀ (rs : List Rl) (w : World), (∀ r ∈ rs, r.1.length ≤ maxLen ∧ r.2.length ≤ maxLen) → Rls (fun b => w.heap.size ≤ b) (ruW w rs) (ruC w.heap.size rs) rs
  | [], w, _ => trivial
  | r :: rs, w, hl => by
    obtain ⟨l1, l2⟩ := hl r (by simp)
    have h := ruW_rls rs ((w.alloc (.cells (r.1.map (Value.int .i64)).toArray 3)).alloc (.cells (r.2.map (Value.int .i64)).toArray 3)) (fun x hx => hl x (by simp [hx]))
    have hb := ruW_below rs ((w.alloc (.cells (r.1.map (Value.int .i64)).toArray 3)).alloc (.cells (r.2.map (Value.int .i64)).toArray 3))
    have hz : ((w.alloc (.cells (r.1.map (Value.int .i64)).toArray 3)).alloc (.cells (r.2.map (Value.int .i64)).toArray 3)).heap.size = w.heap.size + 1 + 1 := by simp
    rw [hz] at h hb
    unfold ruW ruC
    refine ⟨?_, ?_, h.step (Nat.le_refl _) fun b _ hx => ⟨by omega, rfl⟩⟩
    · refine ((us_newL w _ rfl r.1 _ rfl _ rfl l1).up (.cells (r.2.map (Value.int .i64)).toArray 3) (Y := fun b => b = w.heap.size) fun b _ hx => hx).step (by rw [hz]; have := hb.size; rwa [hz] at this) fun b hb2 hx => ⟨by omega, ?_⟩
      exact hb.block b (by omega)
    · refine (us_newL (w.alloc (.cells (r.1.map (Value.int .i64)).toArray 3)) (w.heap.size + 1) (by simp) r.2 _ rfl _ rfl l2).step (by rw [hz]; have := hb.size; rwa [hz] at this) fun b hb2 hx => ⟨by omega, ?_⟩
      exact hb.block b (by omega)
set_option maxRecDepth 100000 in
set_option maxHeartbeats 1600000 in
theorem single_raw (w : World) :
    Calls Tryd.prog 26 #[] w fun e w' => e = .returned (.slice (some ⟨w.heap.size + 14, 0, none⟩) 7 7) ∧ w' = (ruW w inS).alloc (.cells (ruC w.heap.size inS).toArray 49) := by
  go_enter Tryd.func26, Tryd.ntmps26
  go_wp2
  go_ret
  exact ⟨rfl, rfl⟩
theorem single_any (w : World) :
    Calls Tryd.prog 26 #[] w fun e w' => ∃ A xs, e = .returned (.slice A 7 7) ∧ Rd w' w'.heap.size A xs ∧ Rls (fun b => w.heap.size ≤ b) w' xs inS ∧ Below w.heap.size w w' := by
  refine (single_raw w).mono ?_
  rintro e w' ⟨rfl, rfl⟩
  have hz := ruW_size inS w
  have hr := Rd_new (ruW w inS) (ruC w.heap.size inS).toArray 49
  have hb := ruW_below inS w
  have hl := ruW_rls inS w (by decide)
  have hz' : (ruW w inS).heap.size = w.heap.size + 14 := hz
  rw [hz'] at hr
  refine ⟨_, ruC w.heap.size inS, rfl, ?_, ?_, hb.alloc hb.size _⟩
  · rw [show ((ruW w inS).alloc (.cells (ruC w.heap.size inS).toArray 49)).heap.size = w.heap.size + 14 + 1 by simp [hz']]
    exact hr
  · exact hl.step (by simp) fun b hb2 hx => ⟨hx, Below.heap_alloc _ _ b hb2⟩
end Go.Proofs.YthgomhmalmmhlaaDoor
